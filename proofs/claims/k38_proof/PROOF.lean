import PyProof.Rows.All
import Wide.All
import OpenK.AllK
import Wide.FinOn
import Lean
import PyProof.EqAt
import PyProof.EqKinds
import PyProof.TupleCall
import PyProof.ExcArgs
import KE.KSortKey
import KE.KIsAll
import PyProof.ExcInit
import PyProof.StationsW
import PyProof.NsDelKeeps
import PyProof.RulesAs
import PyProof.PassesOwn
import PyProof.ExcBaseAll.ValueError
import PyProof.InstStoreFacts
import PyProof.Rows.EqDataRows
import PyProof.ReprRoads
import PyProof.Rows.Range3
import PyProof.ConsumeWalk
import PyProof.FString5
import PyProof.ReprLen
import PyProof.Rows.TupAdd
import PyProof.Rows.RuleIs
import PyProof.ListNew
import KE.KRevIter
import PyProof.Rows.SeqMore2
import PyProof.ListRange
import KE.KEqDict
import PyProof.NeKinds
import PyProof.CallStr
import PyProof.ListMulAny
import PyProof.Rows.SetFrom
import PyProof.SetRoads
import KE.KSortTup
import PySem.Challenge.RW_ringloads_k38_whole_roundings_hold
set_option Elab.async false
set_option linter.all false
set_option maxRecDepth 100000
set_option maxHeartbeats 0
theorem z_ {α:Sort _} {a b:α} (h:a=b:=by kernel_rfl):a=b:=h
theorem y_ {p:Prop} [Decidable p] (h:decide p=true:=by decide +kernel):p:=of_decide_eq_true h
theorem x_ {p:Prop} [Decidable p] (h:decide p=true:=by decide):p:=of_decide_eq_true h
theorem xL{p:Prop}(h:p:=by omega):p:=h
theorem v6{p:Prop}(h:p:=by simp):p:=h
section
open PySem PySem.Spec PyProof.Rows PySem.W
theorem tu:type_of% @wpAny_bind:=@wpAny_bind
theorem TL:type_of% @List.mem_cons_of_mem:=@List.mem_cons_of_mem
theorem TM:type_of% @List.getElem?_eq_getElem:=@List.getElem?_eq_getElem
theorem TN:type_of% @Heap.get?_push_of_some:=@Heap.get?_push_of_some
theorem TQ:type_of% @List.mem_cons_self:=@List.mem_cons_self
theorem TR:type_of% @List.getElem?_eq_some_iff:=@List.getElem?_eq_some_iff
theorem TU:type_of% @Nat.lt_of_lt_of_le:=@Nat.lt_of_lt_of_le
theorem TV:type_of% @List.getElem_mem:=@List.getElem_mem
theorem TX:type_of% @List.getD_eq_getElem?_getD:=@List.getD_eq_getElem?_getD
theorem TY:type_of% @List.length_map:=@List.length_map
theorem TZ:type_of% @Heap.lt_size:=@Heap.lt_size
theorem T9:type_of% @Nat.le_trans:=@Nat.le_trans
theorem Ua:type_of% @decide_eq_true_eq:=@decide_eq_true_eq
theorem Ub:type_of% @wpAny_pure:=@wpAny_pure
theorem Uc:type_of% @Bool.and_eq_true:=@Bool.and_eq_true
theorem Ud:type_of% @Nat.le_refl:=@Nat.le_refl
theorem Ue:type_of% @List.mem_cons:=@List.mem_cons
theorem Ug:type_of% @Nat.lt_of_le_of_lt:=@Nat.lt_of_le_of_lt
theorem Uh:type_of% @Nat.pow_le_pow_right:=@Nat.pow_le_pow_right
theorem Ui:type_of% @List.getElem?_map:=@List.getElem?_map
theorem Uj:type_of% @List.mem_append_left:=@List.mem_append_left
theorem Uk:type_of% @List.size_toArray:=@List.size_toArray
theorem Ul:type_of% @decide_eq_false:=@decide_eq_false
theorem Um:type_of% @List.mem_append_right:=@List.mem_append_right
theorem Uo:type_of% @PassesOwn.never:=@PassesOwn.never
theorem Up:type_of% @Heap.get?_push_size:=@Heap.get?_push_size
theorem Uq:type_of% @Option.some.inj:=@Option.some.inj
theorem Ur:type_of% @List.map_cons:=@List.map_cons
theorem Us:type_of% @List.length_append:=@List.length_append
theorem Ut:type_of% @Nat.ne_of_lt:=@Nat.ne_of_lt
theorem Uu:type_of% @Int.fmod_eq_emod_of_nonneg:=@Int.fmod_eq_emod_of_nonneg
theorem Uv:type_of% @List.getElem?_append_right:=@List.getElem?_append_right
theorem Uw:type_of% @List.mem_append:=@List.mem_append
theorem Ux:type_of% @PySem.W.mg_none_of:=@PySem.W.mg_none_of
theorem Uy:type_of% @List.mem_range:=@List.mem_range
theorem Uz:type_of% @List.nodup_cons:=@List.nodup_cons
theorem UA:type_of% @Int.natAbs_natCast:=@Int.natAbs_natCast
theorem UB:type_of% @List.length_range:=@List.length_range
theorem UC:type_of% @List.nodup_append:=@List.nodup_append
theorem UD:type_of% @Nat.add_sub_cancel_left:=@Nat.add_sub_cancel_left
theorem UE:type_of% @List.map_append:=@List.map_append
theorem UF:type_of% @Rat.num_divInt_den:=@Rat.num_divInt_den
theorem UG:type_of% @Option.some.injEq:=@Option.some.injEq
theorem UH:type_of% @List.drop_eq_getElem_cons:=@List.drop_eq_getElem_cons
theorem UI:type_of% @decide_eq_true:=@decide_eq_true
theorem UJ:type_of% @List.getElem_of_mem:=@List.getElem_of_mem
theorem UK:type_of% @List.replicate_succ:=@List.replicate_succ
theorem UL:type_of% @List.getElem?_set_self:=@List.getElem?_set_self
theorem UM:type_of% @List.take_of_length_le:=@List.take_of_length_le
theorem UN:type_of% @List.getElem?_set_ne:=@List.getElem?_set_ne
theorem UO:type_of% @Int.eq_ofNat_of_zero_le:=@Int.eq_ofNat_of_zero_le
theorem UP:type_of% @List.map_map:=@List.map_map
theorem UQ:type_of% @List.append_assoc:=@List.append_assoc
theorem UR:type_of% @List.lookup_cons:=@List.lookup_cons
theorem US:type_of% @List.append_nil:=@List.append_nil
theorem UT:type_of% @Heap.get?_update_other:=@Heap.get?_update_other
theorem UU:type_of% @beq_eq_false_iff_ne:=@beq_eq_false_iff_ne
theorem UV:type_of% @List.getElem?_append_left:=@List.getElem?_append_left
theorem UW:type_of% @List.all_eq_true:=@List.all_eq_true
theorem UX:type_of% @wpAny_loadPart_at:=@wpAny_loadPart_at
theorem UY:type_of% @List.mem_map:=@List.mem_map
theorem UZ:type_of% @Int.toNat_natCast:=@Int.toNat_natCast
theorem U0:type_of% @List.mem_singleton:=@List.mem_singleton
theorem U1:type_of% @Rat.sub_eq_add_neg:=@Rat.sub_eq_add_neg
theorem U2:type_of% @Bool.false_ne_true:=@Bool.false_ne_true
theorem U3:type_of% @Ne.symm:=@Ne.symm
theorem U4:type_of% @List.perm_append_comm:=@List.perm_append_comm
theorem U5:type_of% @List.length_filter_le:=@List.length_filter_le
theorem U6:type_of% @List.zip_append:=@List.zip_append
theorem U7:type_of% @List.length_zip:=@List.length_zip
theorem U8:type_of% @exists_eq_left':=@exists_eq_left'
theorem U9:type_of% @List.length_cons:=@List.length_cons
theorem Va:type_of% @List.length_take:=@List.length_take
theorem Vb:type_of% @Rat.divInt_mul_divInt:=@Rat.divInt_mul_divInt
theorem Vc:type_of% @wpAny_mono:=@wpAny_mono
theorem Vd:type_of% @wpAny_truthy_bool:=@wpAny_truthy_bool
theorem Ve:type_of% @wpAny_Call_Name_kw:=@wpAny_Call_Name_kw
theorem Vf:type_of% @List.mem_filter:=@List.mem_filter
theorem Vg:type_of% @List.filter_cons:=@List.filter_cons
theorem Vh:type_of% @List.length_drop:=@List.length_drop
theorem Vi:type_of% @List.sublist_append_right:=@List.sublist_append_right
theorem Vj:type_of% @List.getElem?_range:=@List.getElem?_range
theorem Vk:type_of% @PySem.mem_of_lookup:=@PySem.mem_of_lookup
theorem Vl:type_of% @Heap.get?_update_self:=@Heap.get?_update_self
theorem Vm:type_of% @Int.natAbs_mul:=@Int.natAbs_mul
theorem Vn:type_of% @wpAny_holding:=@wpAny_holding
theorem Vo:type_of% @List.length_set:=@List.length_set
theorem Vp:type_of% @Bool.false_eq_true:=@Bool.false_eq_true
theorem Vq:type_of% @List.zip_cons_cons:=@List.zip_cons_cons
theorem Vr:type_of% @Nat.zero_le:=@Nat.zero_le
theorem Vs:type_of% @decide_eq_false_iff_not:=@decide_eq_false_iff_not
theorem Vt:type_of% @PyProof.Rows.callWith_type1:=@PyProof.Rows.callWith_type1
theorem Vu:type_of% @Nat.lt_irrefl:=@Nat.lt_irrefl
theorem Vv:type_of% @List.flatten_cons:=@List.flatten_cons
theorem Vw:type_of% @List.filterMap_cons:=@List.filterMap_cons
theorem Vx:type_of% @List.map_congr_left:=@List.map_congr_left
theorem Vy:type_of% @List.nil_append:=@List.nil_append
theorem Vz:type_of% @PySem.W.kia_one:=@PySem.W.kia_one
theorem VA:type_of% @List.getElem?_eq_none:=@List.getElem?_eq_none
theorem VB:type_of% @List.getElem_zip:=@List.getElem_zip
theorem VC:type_of% @List.contains_cons:=@List.contains_cons
theorem VD:type_of% @Nat.dvd_trans:=@Nat.dvd_trans
theorem VE:type_of% @List.length_eq_zero_iff:=@List.length_eq_zero_iff
theorem VF:type_of% @wpAny_newObj_type:=@wpAny_newObj_type
theorem VG:type_of% @Fast.te14364793385576792824:=@Fast.te14364793385576792824
theorem VH:type_of% @List.set_set:=@List.set_set
theorem VI:type_of% @Rat.le_trans:=@Rat.le_trans
theorem VJ:type_of% @List.any_cons:=@List.any_cons
theorem VL:type_of% @Bool.true_and:=@Bool.true_and
theorem VM:type_of% @List.cons_append:=@List.cons_append
theorem VN:type_of% @List.not_mem_nil:=@List.not_mem_nil
theorem VO:type_of% @Nat.le_add_right:=@Nat.le_add_right
theorem VP:type_of% @List.mem_filterMap:=@List.mem_filterMap
theorem VQ:type_of% @beq_iff_eq:=@beq_iff_eq
theorem VR:type_of% @Bool.false_and:=@Bool.false_and
theorem VS:type_of% @Int.emod_lt_of_pos:=@Int.emod_lt_of_pos
theorem VT:type_of% @List.pairwise_cons:=@List.pairwise_cons
theorem VU:type_of% @List.set_append_right:=@List.set_append_right
theorem VV:type_of% @wpAny_execs_nil:=@wpAny_execs_nil
theorem VW:type_of% @wpAny_passesOwn:=@wpAny_passesOwn
theorem VX:type_of% @Int.emod_nonneg:=@Int.emod_nonneg
theorem VY:type_of% @wpAny_field:=@wpAny_field
theorem VZ:type_of% @codeAny_call_builtin:=@codeAny_call_builtin
theorem V0:type_of% @Bool.and_eq_true_iff:=@Bool.and_eq_true_iff
theorem V1:type_of% @Bool.not_eq_true':=@Bool.not_eq_true'
theorem V2:type_of% @List.Sublist.refl:=@List.Sublist.refl
theorem V3:type_of% @wpAny_standAt:=@wpAny_standAt
theorem V4:type_of% @Nat.mod_lt:=@Nat.mod_lt
theorem V5:type_of% @Bool.or_false:=@Bool.or_false
theorem V6:type_of% @Nat.le_of_dvd:=@Nat.le_of_dvd
theorem V7:type_of% @List.ext_getElem:=@List.ext_getElem
theorem V8:type_of% @if_false:=@if_false
theorem V9:type_of% @List.drop_length:=@List.drop_length
theorem Wa:type_of% @decide_eq_decide:=@decide_eq_decide
theorem Wb:type_of% @List.nodup_nil:=@List.nodup_nil
theorem Wc:type_of% @sizeLine_eq:=@sizeLine_eq
theorem Wd:type_of% @Rat.le_refl:=@Rat.le_refl
theorem We:type_of% @Nat.le_of_lt:=@Nat.le_of_lt
theorem Wf:type_of% @Rat.not_lt:=@Rat.not_lt
theorem Wg:type_of% @if_true:=@if_true
theorem Wh:type_of% @Rat.add_assoc:=@Rat.add_assoc
theorem Wi:type_of% @wpAny_call:=@wpAny_call
end
namespace L2
open PySem PySem.Spec PyProof.Rows
noncomputable abbrev OY:=Sum Int Str
noncomputable def AH:OY->Value->Bool
 |.inl k,v=>Value.isInt k v
 |.inr x,v=>Value.isStrOf x v
noncomputable def Om(w:World):OY->Int
 |.inl k=>hashInt k
 |.inr x=>hashStr w x
theorem bZ:∀{k:OY}{v:Value},AH k v=true->(∃i t,k=Sum.inl i/\v=Value.int i t)∨(∃x t,k=Sum.inr x/\v=Value.str x t)
 | .inl i,v,h=>by obtain⟨t,e⟩:=Value.isInt_shape (k:=i) (v:=v) h;exact .inl ⟨i,t,rfl,e⟩
 | .inr x,v,h=>by obtain⟨t,e⟩:=Value.isStrOf_shape (x:=x) (v:=v) h;exact .inr ⟨x,t,rfl,e⟩
theorem BF(i:Int)(t:Tok):AH (.inl i) (.int i t)=true:=by simp[AH,Value.isInt]
theorem BG(x:Str)(t:Tok):AH (.inr x) (.str x t)=true:=by simp[AH,Value.isStrOf]
theorem Kp(a b:Int):decide ((Sum.inl a:OY)=Sum.inl b)=(a == b):=by
 by_cases e:a=b
 . subst e;simp
 . have h:¬(Sum.inl a:OY)=Sum.inl b:=λq=>e (Sum.inl.inj q);rw[Ul h];exact(UU.mpr e).symm
theorem Kq(a b:Str):decide ((Sum.inr a:OY)=Sum.inr b)=decide (a=b):=by
 by_cases e:a=b
 . subst e;simp
 . have h:¬(Sum.inr a:OY)=Sum.inr b:=λq=>e (Sum.inr.inj q);rw[Ul h,Ul e]
theorem Kr(a:Int)(b:Str):decide ((Sum.inl a:OY)=Sum.inr b)=false:=Ul (λq=>nomatch q)
theorem Ks(a:Str)(b:Int):decide ((Sum.inr a:OY)=Sum.inl b)=false:=Ul (λq=>nomatch q)
noncomputable def oH(prog:Program)(w:World):PySem.KeyKind prog w OY where
 is:=AH
 hash:=Om w
 inj:=λv a b ha hb=>by
  rcases bZ ha with⟨i,t,rfl,rfl⟩|⟨x,t,rfl,rfl⟩
  .
   rcases bZ hb with⟨j,u,rfl,e⟩|⟨y,u,rfl,e⟩
   . injection e with e1 _;rw[e1]
   . exact nomatch e
  .
   rcases bZ hb with⟨j,u,rfl,e⟩|⟨y,u,rfl,e⟩
   . exact nomatch e
   . injection e with e1 _;rw[e1]
 byValue:=λk v h=>by rcases bZ h with⟨i,t,rfl,rfl⟩|⟨x,t,rfl,rfl⟩<;>rfl
 pyHash:=λhv h=>by
  rcases bZ hv with⟨i,t,rfl,rfl⟩|⟨x,t,rfl,rfl⟩
  . exact wpAny_pyHash_int h
  . exact wpAny_pyHash_str h
 eqBool:=λhu hv h=>by
  rcases bZ hu with⟨i,t,rfl,rfl⟩|⟨x,t,rfl,rfl⟩
  .
   rcases bZ hv with⟨j,u,rfl,rfl⟩|⟨y,u,rfl,rfl⟩
   . rw[Kp]at h;exact wpAny_eqBool_int h
   . rw[Kr]at h;exact SeqAt.EqAt.int_str i t y u _ _ _ _ h
  .
   rcases bZ hv with⟨j,u,rfl,rfl⟩|⟨y,u,rfl,rfl⟩
   . rw[Ks]at h;exact SeqAt.EqAt.str_int x t j u _ _ _ _ h
   . rw[Kq]at h;exact wpAny_eqBool_str h
 «strs»:=λk x t v h=>by
  rcases bZ h with⟨i,u,rfl,e⟩|⟨y,u,rfl,e⟩
  . exact nomatch e
  . injection e with e1 _;subst e1;cases v<;>rfl
theorem xX(prog:Program)(w:World)(i:Int)(t:Tok):(oH prog w).is (.inl i) (.int i t)=true:=BF i t
theorem xY(prog:Program)(w:World)(x:Str)(t:Tok):(oH prog w).is (.inr x) (.str x t)=true:=BG x t
inductive V where
 |non|bl (b:Bool)|int (i:Int)|str (x:Str)|byt (b:Array UInt8)|flt (b:UInt64)|ref (a:Addr)|ty (n:String)
 deriving DecidableEq
def cB:V->Value->Prop
 |.non,u=>u=Value.none
 |.bl b,u=>u=Value.bool b
 |.int i,u=>∃t,u=Value.int i t
 |.str x,u=>∃t,u=Value.str x t
 |.byt b,u=>∃t,u=Value.bytes b t
 |.flt b,u=>∃t,u=Value.float b t
 |.ref a,u=>u=Value.ref a
 |.ty n,u=>u=Value.type n
abbrev cn:List V->List Value->Prop:=Paired cB
theorem cn.length{xs:List V}{us:List Value}(r:cn xs us):xs.length=us.length:=Paired.length r
theorem cn.get:∀{xs:List V}{us:List Value}{i:Nat}{x:V},cn xs us->xs[i]?=some x->∃u,us[i]?=some u/\cB x u
 |_,_,_,_,.nil,e=>by simp at e
 |_,_,0,_,.cons r _,e=>by simp at e;subst e;exact⟨_,rfl,r⟩
 | _,_,i+1,x,.cons _ t,e=>by obtain⟨u,h1,h2⟩:=cn.get (i:=i) (x:=x) t (by simpa using e);exact⟨u,by simpa using h1,h2⟩
theorem cn.set{x:V}{u:Value}(r:cB x u):∀{xs:List V}{us:List Value}(i:Nat),cn xs us->cn (xs.set i x) (us.set i u)
 |_,_,_,.nil=>.nil
 |_,_,0,.cons _ t=>.cons r t
 |_,_,i+1,.cons q t=>.cons q (cn.set r i t)
theorem cn.append:∀{xs ys:List V}{us ws:List Value},cn xs us->cn ys ws->cn (xs++ys) (us++ws)
 |_,_,_,_,.nil,s=>s
 |_,_,_,_,.cons r t,s=>.cons r (cn.append t s)
theorem cn.take:∀{xs:List V}{us:List Value}(n:Nat),cn xs us->cn (xs.take n) (us.take n)
 |_,_,0,_=>.nil
 |_,_,_+1,.nil=>.nil
 |_,_,n+1,.cons r t=>.cons r (cn.take n t)
theorem cn.drop:∀{xs:List V}{us:List Value}(n:Nat),cn xs us->cn (xs.drop n) (us.drop n)
 |_,_,0,r=>r
 |_,_,_+1,.nil=>.nil
 |_,_,n+1,.cons _ t=>cn.drop n t
def GW:Option V->Option Value->Prop
 |some v,some u=>cB v u
 |none,none=>True
 |_,_=>False
def KV{κ:Type}:List (κ×V)->List (κ×Value)->Prop:=Paired λ(p:κ×V) (q:κ×Value)=>p.1=q.1/\cB p.2 q.2
noncomputable def kV:OY->V
 |.inl i=>.int i
 |.inr x=>.str x
inductive HO where
 |lst (xs:List V)
 |tup (xs:List V)
 |dK (kvs:List (OY×V))|dT (kvs:List (List OY×V))
 |set (S:Int->Bool) (n:Nat)
 |ins (C dx:Addr) (fs:List (Str×V))
 |own (x:Addr)
 |xd (fs:List (Str×V))
 |met (f x:Addr)
 |rng (lo hi:Int)
 |frz (o:Obj) (u:HO)
 |tbl (q:Str)
 |ext (φ:Heap->Prop)
noncomputable abbrev Hp:=Addr->Option HO
noncomputable def OZ(H:Hp)(a:Addr)(o:HO):Hp:=λb=>if b=a then some o else H b
theorem a6{H:Hp}{a:Addr}{o:HO}:OZ H a o a=some o:=by unfold OZ;rw[if_pos rfl]
theorem aB{H:Hp}{a b:Addr}{o:HO}(h:b≠a):OZ H a o b=H b:=by unfold OZ;rw[if_neg h]
theorem bh{H:Hp}{a b:Addr}{o:HO}(h:H a=some o)(h':H b=none):a≠b:=by intro e;subst e;rw[h]at h';cases h'
def pM(oc:Obj)(q:Str):Prop:=∃vs t,oc.data=.fields vs/\vs[1]?=some (.str q t)
section
variable(P:Program)(w:World)
def eX(H:Hp)(h:Heap)(a:Addr):HO->Prop
 |.lst xs=>xs.length<=sizeLine/\∃(its:List Value)(n:Nat),cn xs its/\h.get? a=some {cls:=.type "list",data:=.seq its.toArray n}
 |.tup xs=>xs.length<=sizeLine/\∃its:List Value,cn xs its/\IsTup h a its.toArray
 |.dK kvs=>kvs.length<=sizeLine/\(a == sysModules)=false/\∃vs,KV kvs vs/\h.DictOf (oH P w) a vs
 | .dT kvs=>kvs.length<=sizeLine/\(a == sysModules)=false/\∃xs:List (List OY×Addr×Value),
   Paired (λ(p:List OY×V) (q:List OY×Addr×Value)=>p.1=q.1/\H q.2.1=some (.tup (p.1.map kV))/\cB p.2 q.2.2) kvs xs /\
   ∃o es ep,h.get? a=some o/\o.ExactDict/\o.data=.dict es ep/\es.toList=xs.map (entryOfKey (tupleKind (oH P w)))/\(xs.map (·.1)).Nodup
 |.set S n=>h.SetOf (intKind P w) a S n
 | .ins C dx fs=>H dx=some (.own a)/\fs.length<=1000/\dx≠a/\h.get? a=some (PySem.W.instObj C dx) /\
   ∃mA,h.Ns1 dx mA/\(∀f,GW (fs.lookup f) (mA f))/\PySem.Within mA (fs.map (·.1))
 |.own _=>∃o,h.get? a=some o
 |.xd fs=>∃mA,h.Ns1 a mA/\∀f,GW (fs.lookup f) (mA f)
 |.rng lo hi=>∃ t u v,h.get? a=some {cls:=.type "range",data:=.fields #[.int lo t,.int hi u,.int 1 v] }
 |.frz o u=>h.get? a=some o/\eX H h a u
 |.tbl q=>∃ps:Array Value,h.get? a=some {cls:=.none,data:=.fields ps}/\TriplesOk ps.toList/\∀pos cv,codeAmong pos ps.toList=some cv->∃c' oc,cv=.ref c'/\H c'=some (.frz oc (.own c'))/\pM oc q
 |.met f x=>h.get? a=some (PySem.W.methodObj (.ref f) (.ref x))
 |.ext φ=>φ h/\(∃o,h.get? a=some o)/\∀h1 h2:Heap,φ h1->(∀o,h1.get? a=some o->h2.get? a=some o)->φ h2
def O0(H:Hp)(h:Heap):Prop:=∀a o,H a=some o->eX P w H h a o
end
section
variable{P:Program}{w:World}{H H':Hp}{h h':Heap}{a:Addr}{o:HO}
theorem eX.lt(x:eX P w H h a o):a<h.objs.size:=by
 cases o with
 |lst xs=>obtain⟨_,_,_,_,e⟩:=x;exact TZ e
 |tup xs=>obtain⟨_,_,_,p⟩:=x;exact p.lt
 |dK kvs=>obtain⟨_,_,_,_,o,_,_,e,_⟩:=x;exact TZ e
 |dT kvs=>obtain⟨_,_,_,_,o,_,_,e,_⟩:=x;exact TZ e
 |set S n=>obtain⟨o,_,_,_,e,_⟩:=x;exact TZ e
 |ins C dx fs=>obtain⟨_,_,_,e,_⟩:=x;exact TZ e
 |own y=>obtain⟨_,e⟩:=x;exact TZ e
 |xd fs=>obtain⟨_,⟨_,_,_,e,_⟩,_⟩:=x;exact TZ e
 |rng lo hi=>obtain⟨_,_,_,e⟩:=x;exact TZ e
 |frz ob u=>obtain⟨e,_⟩:=x;exact TZ e
 |tbl q=>obtain⟨_,e,_⟩:=x;exact TZ e
 |met f y=>exact TZ (show h.get? a=some _ from x)
 |ext φ=>obtain⟨_,⟨_,e⟩,_⟩:=x;exact TZ e
theorem Paired.mapP{α β:Type}{F G:α->β->Prop}:∀{l₁:List α}{l₂:List β},Paired F l₁ l₂->(∀a b,F a b->G a b)->Paired G l₁ l₂
 |_,_,.nil,_=>.nil
 |_,_,.cons r t,f=>.cons (f _ _ r) (Paired.mapP t f)
theorem eX.stay(x:eX P w H h a o)(k:∀b u,(b=a∨H b=some (.own a))->h.get? b=some u->h'.get? b=some u)
  (ho:∀b,H b=some (.own a)->H' b=some (.own a)) (ht:∀b xs,H b=some (.tup xs)->H' b=some (.tup xs)) (hf:∀b o q,pM o q->H b=some (.frz o (.own b))->H' b=some (.frz o (.own b))):eX P w H' h' a o:=by
 induction o with
 |lst xs=>obtain⟨z,its,n,r,e⟩:=x;exact⟨z,its,n,r,k _ _ (.inl rfl) e⟩
 |tup xs=>obtain⟨z,its,r,ob,e,c⟩:=x;exact⟨z,its,r,ob,k _ _ (.inl rfl) e,c⟩
 |dK kvs=>obtain⟨z,y,vs,r,ob,es,ep,e,c⟩:=x;exact⟨z,y,vs,r,ob,es,ep,k _ _ (.inl rfl) e,c⟩
 | dT kvs =>
  obtain⟨z,y,xs,r,ob,es,ep,e,c⟩:=x;exact⟨z,y,xs,Paired.mapP r λp q z=>⟨z.1,ht _ _ z.2.1,z.2.2⟩,ob,es,ep,k _ _ (.inl rfl) e,c⟩
 |set S n=>obtain⟨ob,es,ep,t,e,c⟩:=x;exact⟨ob,es,ep,t,k _ _ (.inl rfl) e,c⟩
 | ins C dx fs =>
  obtain⟨d,z,ne,e,mA,⟨od,es,ep,e2,c⟩,r⟩:=x;exact⟨ho _ d,z,ne,k _ _ (.inl rfl) e,mA,⟨od,es,ep,k _ _ (.inr d) e2,c⟩,r⟩
 |own y=>obtain⟨ob,e⟩:=x;exact⟨ob,k _ _ (.inl rfl) e⟩
 |xd fs=>obtain⟨mA,⟨od,es,ep,e,c⟩,r⟩:=x;exact⟨mA,⟨od,es,ep,k _ _ (.inl rfl) e,c⟩,r⟩
 |rng lo hi=>obtain⟨t,u,v,e⟩:=x;exact⟨t,u,v,k _ _ (.inl rfl) e⟩
 |frz ob u ih=>obtain⟨e,q⟩:=x;exact⟨k _ _ (.inl rfl) e,ih q⟩
 | tbl q =>
  obtain⟨ps,e,tr,m⟩:=x
  exact⟨ps,k a _ (.inl rfl) e,tr,λpos cv z=>let ⟨c',oc,a1,a2,a3⟩:=m pos cv z;⟨c',oc,a1,hf _ _ _ a3 a2,a3⟩⟩
 | met f y =>
  have e:h.get? a=some (PySem.W.methodObj (.ref f) (.ref y)):=x;show h'.get? a=some (PySem.W.methodObj (.ref f) (.ref y));exact k a _ (.inl rfl) e
 |ext φ=>obtain⟨p,⟨o,e⟩,st⟩:=x;exact⟨st _ _ p λo q=>k _ _ (.inl rfl) q,⟨o,k _ _ (.inl rfl) e⟩,st⟩
theorem O0.lt(x:O0 P w H h)(e:H a=some o):a<h.objs.size:=(x a o e).lt
theorem O0.fresh(x:O0 P w H h)(e:h.objs.size<=a):H a=none:=by
 cases q:H a with
 |none=>rfl
 |some u=>exact absurd (TU (x.lt q) e) (Vu _)
theorem O0.kept(x:O0 P w H h)(k:∀b u,h.get? b=some u->h'.get? b=some u):O0 P w H h':=λa o e =>
 (x a o e).stay (λb u _ q=>k b u q) (λ_ q=>q) (λ_ _ q=>q) λ_ _ _ _ q=>q
theorem O0.laid(x:O0 P w H h)(k:∀b u,h.get? b=some u->h'.get? b=some u)(hp:h.objs.size<=a)(new:eX P w (OZ H a o) h' a o):O0 P w (OZ H a o) h':=λb u e=>by
 have hn:=x.fresh hp;by_cases hb:b=a
 . subst hb;rw[a6]at e;cases e;exact new
 . rw[aB hb]at e;exact(x b u e).stay (λc v _ q=>k c v q) (λc q=>by rw[aB (bh q hn)];exact q) (λc xs q=>by rw[aB (bh q hn)];exact q) λc ob _ _ q=>by rw[aB (bh q hn)];exact q
end
def Rd(H:Hp)(a:Addr)(u:HO):Prop:=H a=some u∨∃o,H a=some (.frz o u)
theorem Rd.ok{P:Program}{w:World}{H:Hp}{h:Heap}{a:Addr}{u:HO}(r:Rd H a u)(x:O0 P w H h):eX P w H h a u:=by
 rcases r with r|⟨o,r⟩
 . exact x a u r
 . obtain⟨_,q⟩:=x a _ r;exact q
def O1:Option HO->Prop
 |some (.lst _)=>True
 |some (.dK _)=>True
 |some (.dT _)=>True
 |some (.set _ _)=>True
 |some (.ins _ _ _)=>True
 |some (.ext _)=>True
 |_=>False
section
variable{P:Program}{w:World}{H:Hp}{h h':Heap}{x e:Addr}{o':HO}
theorem O0.write(ok:O0 P w H h)(mu:O1 (H x))(he:e=x∨H e=some (.own x))(k:∀b u,b≠e->h.get? b=some u->h'.get? b=some u)(heo:∃u,h'.get? e=some u)
  (new:eX P w (OZ H x o') h' x o'):O0 P w (OZ H x o') h':=λb u q=>by
 have nown:∀c y,H c=some (.own y)->c≠x:=λc y r z=>by subst z;rw[r]at mu;exact mu
 have ntup:∀c xs,H c=some (.tup xs)->c≠x:=λc xs r z=>by subst z;rw[r]at mu;exact mu
 have nfrz:∀c o u,H c=some (.frz o u)->c≠x:=λc o u r z=>by subst z;rw[r]at mu;exact mu
 by_cases hb:b=x
 . subst hb;rw[a6]at q;cases q;exact new
 .
  rw[aB hb]at q;by_cases hbe:b=e
  .
   have q':H b=some (.own x):=by
    rcases he with z|z
    . exact absurd (hbe.trans z) hb
    . rw[hbe];exact z
   rw[q]at q';cases q';obtain⟨v,hv⟩:=heo;exact⟨v,by rw[hbe];exact hv⟩
  .
   refine(ok b u q).stay (λc v hc r=>k c v ?_ r) (λc r=>by rw[aB (nown c b r)];exact r) (λc xs r=>by rw[aB (ntup c xs r)];exact r) λc ob _ _ r=>by rw[aB (nfrz c ob _ r)];exact r
   rcases hc with rfl|hc
   . exact hbe
   .
    rintro rfl;rcases he with z|z
    . exact nown c b hc z
    . rw[hc]at z;cases z;exact hb rfl
end
structure Un (fs ex:List Addr) (H H':Hp) (h h':Heap):Prop where
 keep:∀b o,h.get? b=some o->H b=none->b∉fs->b∉ex->h'.get? b=some o
 slot:∀b o,h.get? b=some o->H b=none->b∈fs->b∉ex->∃sl,h'.get? b=some {o with slots:=sl}
 free:∀b o,h.get? b=some o->H b=none->b∉ex->H' b=none
 there:∀b o,h.get? b=some o->b∉ex->∃o',h'.get? b=some o'
 tups:∀b xs,H b=some (.tup xs)->H' b=some (.tup xs)
 frzs:∀b o u,H b=some (.frz o u)->H' b=some (.frz o u)
 tbls:∀b q,H b=some (.tbl q)->H' b=some (.tbl q)
section
variable{fs fs' ex ex':List Addr}{H H1:Hp}{h h1 h':Heap}{a x e:Addr}{o:HO}
theorem Un.any(u:Un fs ex H H1 h h1){b:Addr}{ob:Obj}(q:h.get? b=some ob)(n:H b=none)(hx:b∉ex):∃sl,h1.get? b=some {ob with slots:=sl}:=by
 by_cases hb:b∈fs
 . exact u.slot b ob q n hb hx
 . exact⟨ob.slots,u.keep b ob q n hb hx⟩
theorem Un.kept(k:∀b u,h.get? b=some u->h'.get? b=some u):Un fs ex H H h h' :=
 ⟨λb ob q _ _ _=>k b ob q,λb ob q _ _ _=>⟨ob.slots,k b ob q⟩,λ_ _ _ n _=>n,λb ob q _=>⟨ob,k b ob q⟩,λ_ _ q=>q,λ_ _ _ q=>q,λ_ _ q=>q⟩
theorem Un.refl:Un fs ex H H h h:=Un.kept λ_ _ q=>q
theorem Un.laid(k:∀b u,h.get? b=some u->h'.get? b=some u)(hp:h.objs.size<=a)(hn:H a=none):Un fs ex H (OZ H a o) h h' where
 keep:=λb u q _ _ _=>k b u q
 slot:=λb u q _ _ _=>⟨u.slots,k b u q⟩
 free:=λb u q n _=>by rw[aB (Ut (TU (TZ q) hp))];exact n
 there:=λb u q _=>⟨u,k b u q⟩
 tups:=λb xs q=>by rw[aB (bh q hn)];exact q
 frzs:=λb u xs q=>by rw[aB (bh q hn)];exact q
 tbls:=λb ps q=>by rw[aB (bh q hn)];exact q
theorem Un.write(mu:O1 (H x))(he:e=x∨H e=some (.own x))(k:∀b u,b≠e->h.get? b=some u->h'.get? b=some u)(heo:∃u,h'.get? e=some u):Un fs ex H (OZ H x o) h h':=by
 have hx:∀b,H b=none->b≠x:=λb n z=>by subst z;rw[n]at mu;exact mu
 have hb:∀b,H b=none->b≠e:=λb n z=>by
  subst z;rcases he with r|r
  . exact hx b n r
  . rw[n]at r;cases r
 have hm:∀b u,H b=some u->¬O1 (some u)->b≠x:=λb u q nm z=>by subst z;rw[q]at mu;exact nm mu
 refine⟨λb u q n _ _=>k b u (hb b n) q,λb u q n _ _=>⟨u.slots,k b u (hb b n) q⟩,λb u q n _=>by rw[aB (hx b n)];exact n,λb u q _=>?_,
  λb xs q=>by rw[aB (hm b _ q λz=>z)];exact q,λb u xs q=>by rw[aB (hm b _ q λz=>z)];exact q,λb ps q=>by rw[aB (hm b _ q λz=>z)];exact q⟩
 by_cases hbe:b=e
 . subst hbe;exact heo
 . exact⟨u,k b u hbe q⟩
theorem Un.mono(u:Un fs ex H H1 h h1)(hs:∀b∈fs,b∈fs')(hx:∀b∈ex,b∈ex'):Un fs' ex' H H1 h h1 :=
 ⟨λb ob q n hb he=>u.keep b ob q n (λz=>hb (hs b z)) λz=>he (hx b z),λ_ _ q n _ he=>u.any q n λz=>he (hx _ z),λb ob q n he=>u.free b ob q n λz=>he (hx b z),λb ob q he=>u.there b ob q λz=>he (hx b z),u.tups,u.frzs,u.tbls⟩
end
noncomputable def O2(h:Heap)(H:Hp):List Addr:=(List.range h.objs.size).filter λa=>(H a).isSome
noncomputable def Es(h:Heap)(H:Hp):Heap:=PySem.W.hideAll h (O2 h H)
theorem BH(h:Heap)(H:Hp):(Es h H).objs.size=h.objs.size:=PySem.W.hideAll_size _ _
theorem Et{h:Heap}{H:Hp}{b:Addr}{o:Obj}(e:h.get? b=some o)(n:H b=none):(Es h H).get? b=some o :=
 PySem.W.hideAll_get _ e λhm=>by have q:(H b).isSome=true:=(Vf.mp hm).2;rw[n]at q;simp at q
theorem Hx{h:Heap}{H:Hp}{b:Addr}{o:Obj}(e:(Es h H).get? b=some o):h.get? b=some o/\H b=none:=by
 have e':h.get? b=some o:=PySem.W.of_hideAll (O2 h H) e;refine⟨e',?_⟩
 cases q:H b with
 |none=>rfl
 | some x =>
  have hm:b∈O2 h H:=Vf.mpr ⟨Uy.mpr (TZ e'),by simp[q]⟩;have z:(Es h H).get? b=none:=PySem.W.hideAll_none (O2 h H) hm;rw[z]at e;cases e
noncomputable def qJ(g h:Heap)(L:Addr):List (Addr×Obj):=(List.range h.objs.size).filterMap λa=>if a=L∨(g.get? a).isSome=true then none else(h.get? a).map λo=>(a,o)
theorem xZ{g h:Heap}{L a:Addr}{o:Obj}(h1:a≠L)(h2:g.get? a=none)(h3:h.get? a=some o):(a,o)∈qJ g h L :=
 VP.mpr ⟨a,Uy.mpr (TZ h3),by simp[h1,h2,h3]⟩
theorem sQ{g h:Heap}{L:Addr}{p:Addr×Obj}(hp:p∈qJ g h L):p.1≠L/\g.get? p.1=none/\h.get? p.1=some p.2:=by
 obtain⟨b,_,e⟩:=VP.mp hp;split at e
 . cases e
 .
  rename_i hn
  cases q:h.get? b with
  |none=>rw[q]at e;simp at e
  | some u =>
   rw[q]at e;simp only[Option.map_some,UG]at e;subst e;refine⟨λz=>hn (.inl z),?_,q⟩;show g.get? b=none
   cases r:g.get? b with
   |none=>rfl
   |some v=>exact(hn (.inr (by simp[r]))).elim
noncomputable def rest(g h:Heap)(L d:Addr):List (Addr×Obj):=(qJ g h L).filter λp=>decide (p.1≠d)
theorem Eu{g h:Heap}{L:Addr}:News g L h (qJ g h L):=λp hp=>let ⟨a,b,c⟩:=sQ hp;⟨c,a,b⟩
def Kt(mg:Str->Option Value)(h:Heap):Prop:=∃ bm ob,mg "__builtins__"=some (.ref bm)/\bm≠builtinsNs/\h.get? bm=some ob/\ob.cls=.type "module"/\ob.dict=some builtinsNs/\ob.data=.plain
noncomputable def lamNames:List Str:=["look_at_asks","by_lesser_place","look_at_string"]
noncomputable def t8(x:Str):Str:=(x++".<locals>.")++"<lambda>"
def O3(K:PySem.W.Frag)(H:Hp):Prop:=∀x∈lamNames,∀c P,PySem.W.tabIn K x=some (c,P)->H P=some (.tbl (t8 x))
theorem O3.un{K:PySem.W.Frag}{fs ex:List Addr}{H H':Hp}{h h':Heap}(t:O3 K H)(u:Un fs ex H H' h h'):O3 K H':=λx hx c P e=>u.tbls _ _ (t x hx c P e)
structure Mod (K:PySem.W.Frag) (mg:Str->Option Value) (base:Heap):Prop where
 kin:K.In base
 glob:base.Ns mainGlobals mg
 blt:∃ mb,base.Ns builtinsNs mb/\∀ x:Str,x≠"__name__"->mb x=bootBuiltins x
 nolimit:base.NoLimit
 sysm:∃mm,base.Ns sysModules mm
 bmn:Kt mg base
 cds:∀x∈lamNames,∀c P,PySem.W.tabIn K x=some (c,P)->PySem.W.CodeHd base c P
/-- the context: a def's body (or a comprehension's Hy) running. base: fixed through the whole law;s₀,H₀: the entry;outer: the frames whose slots others may change (a def's callers);stack: all frames that run;
  ex: iterators that were made ahead of the entry and are walked here (a comprehension's);fn: the names whose cells were made at the entry (a def: all;a comprehension's Hy: its own);calm: not BI an except suite;pn: gV that every state bears;xe: what is wanted of an exception that leaves the code -/
structure Cx where
 prog:Program
 w:World
 K:PySem.W.Frag
 mg:Str->Option Value
 base:Heap
 A:Around
 N:List Str
 s₀:Shared
 H₀:Hp
 env:Env
 outer:List Env
 stack:List Env
 ex:List Addr
 fn:Str->Bool
 calm:Bool
 pn:List (Addr×Obj)
 xe:Value->Shared->Prop
noncomputable def O4(l:List Env):List Addr:=l.filterMap (·.frame)
noncomputable abbrev Cx.fs(X:Cx):List Addr:=O4 X.outer
def O5(sc:Scope)(x:Str):Prop:=sc.names.lookup x=some .local∨sc.names.lookup x=some .cell∨sc.names.lookup x=some .free
def O6(sc:Scope)(x:Str):Prop:=sc.names.lookup x=some .local∨sc.names.lookup x=some .cell
def On(env:Env)(h:Heap)(m:Str->Option Value)(x:Str)(u:Value):Prop :=
 (env.kindOf x=some .local/\m x=some u)∨((env.kindOf x=some .cell∨env.kindOf x=some .free)/\∃c,env.cells.lookup x=some c/\h.IsCell c (some u))
structure Cx.Ok (X:Cx):Prop where
 mod:Mod X.K X.mg X.base
 kind:X.env.scope.kind=.function
 glob:X.env.globals=mainGlobals
 blt:X.env.builtins=builtinsNs
 above:X.s₀.heap.objs.size<=X.env.locals
 inj:∀x y c,X.env.cells.lookup x=some c->X.env.cells.lookup y=some c->x=y
 has:∀x,(X.env.kindOf x=some .cell∨X.env.kindOf x=some .free)->∃c,X.env.cells.lookup x=some c
 cab:∀x c,X.fn x=true->X.env.cells.lookup x=some c->X.s₀.heap.objs.size<=c
 hd:X.calm=true->X.A.handled=none
 frames:X.A.frames=some X.stack
 stk:X.stack=X.outer∨(X.stack=X.env::X.outer/\X.env.frame=some X.env.locals)
 exf:∀b∈X.ex,b≠X.env.locals/\∀x c,X.env.cells.lookup x=some c->c≠b
 bs:∀b o,X.base.get? b=some o->X.s₀.heap.get? b=some o/\X.H₀ b=none
 bsz:X.base.objs.size<=X.s₀.heap.objs.size
 noex:∀b o,X.base.get? b=some o->b∉X.ex
 exfs:∀b∈X.ex,b∉X.fs
 funs:X.s₀.heap.FunFrames X.base X.outer
 frf:∀b∈X.fs,X.H₀ b=none
 tbs:O3 X.K X.H₀
structure O7 (X:Cx) (gV:List (Addr×Obj)) (σ:List (Option V)) (H:Hp) (s:Shared):Prop where
 ok:X.Ok
 os:s.os=X.s₀.os
 bare:AllBare s.gens
 base:Un X.fs X.ex X.H₀ H X.s₀.heap s.heap
 loc:∃m,s.heap.Ns X.env.locals m/\∀(i:Nat)(x:Str)(v:V),X.N[i]?=some x->σ[i]?=some (some v)->O5 X.env.scope x->∃u,cB v u/\On X.env s.heap m x u
 cell:∀x c,X.env.cells.lookup x=some c->∃v,s.heap.IsCell c v
 free:H X.env.locals=none
 freeC:∀x c,X.env.cells.lookup x=some c->H c=none∨(X.fn x=false/\∃o,H c=some (.frz o (.own c)))
 pin:∀p∈X.pn++gV,s.heap.get? p.1=some p.2/\H p.1=none/\p.1≠X.env.locals/\p.1∉X.fs/\∀v,p.2.data≠.cell v
 hok:O0 X.prog X.w H s.heap
 len:σ.length=X.N.length
section
variable{X:Cx}{gV:List (Addr×Obj)}{σ:List (Option V)}{H H':Hp}{s:Shared}{h':Heap}
theorem Cx.Ok.nofr(ok:X.Ok){b:Addr}{o:Obj}(e:X.base.get? b=some o):b∉X.fs:=λhb=>by have:=(ok.funs.mem hb).1;rw[e]at this;cases this
theorem O7.bs(I:O7 X gV σ H s):∀b o,X.base.get? b=some o->s.heap.get? b=some o/\H b=none:=λb o e =>
 ⟨I.base.keep b o (I.ok.bs b o e).1 (I.ok.bs b o e).2 (I.ok.nofr e) (I.ok.noex b o e),I.base.free b o (I.ok.bs b o e).1 (I.ok.bs b o e).2 (I.ok.noex b o e)⟩
theorem O7.bk(I:O7 X gV σ H s):∀b o,X.base.get? b=some o->s.heap.get? b=some o:=λb o e=>(I.bs b o e).1
theorem O7.tbs(I:O7 X gV σ H s):O3 X.K H:=I.ok.tbs.un I.base
theorem O7.mod(I:O7 X gV σ H s):Mod X.K X.mg X.base:=I.ok.mod
theorem O7.kIn(I:O7 X gV σ H s):X.K.In s.heap:=I.ok.mod.kin.keeps I.bk
theorem O7.fr(I:O7 X gV σ H s):∃m,Fr X.base X.env.locals s.heap m :=
 let ⟨m,hn,_⟩:=I.loc
 ⟨m,hn,I.bk,T9 I.ok.bsz I.ok.above⟩
theorem O7.lt(I:O7 X gV σ H s):X.env.locals<s.heap.objs.size:=let ⟨_,hn,_⟩:=I.loc;hn.lt
theorem O7.sz(I:O7 X gV σ H s):X.s₀.heap.objs.size<=s.heap.objs.size:=T9 I.ok.above (We I.lt)
theorem O7.nofs(I:O7 X gV σ H s){a:Addr}(h:s.heap.objs.size<=a):a∉X.fs:=λhb=>by obtain⟨_,o,ho,_⟩:=I.ok.funs.mem hb;exact absurd (TU (TZ ho) (T9 I.sz h)) (Vu _)
theorem O7.cne(I:O7 X gV σ H s):∀x c,X.env.cells.lookup x=some c->c≠X.env.locals:=λx c e z=>by obtain⟨v,o,ho,hd⟩:=I.cell x c e;obtain⟨m,⟨o',es,ep,ho',hd',_⟩,_⟩:=I.loc;rw[z,ho']at ho;cases ho;rw[hd']at hd;cases hd
theorem O7.funs(I:O7 X gV σ H s):s.heap.FunFrames X.base X.outer:=by
 have all:∀(l:List Env),(∀b∈O4 l,b∈X.fs)->X.s₀.heap.FunFrames X.base l->s.heap.FunFrames X.base l:=by
  intro l
  induction l with
  |nil=>intro _ _;trivial
  | cons env r ih =>
   intro hs hl;obtain⟨hk,⟨L,o,hf,hn,ho,hd⟩,hr⟩:=hl;have hL:L∈X.fs:=hs L (by unfold O4;rw[Vw,hf];exact TQ);obtain⟨sl,e⟩:=I.base.slot L o ho (I.ok.frf L hL) hL λz=>I.ok.exfs L z hL;exact⟨hk,⟨L,_,hf,hn,e,hd⟩,ih (λb hb=>hs b (by unfold O4;rw[Vw,hf];exact TL _ hb)) hr⟩
 exact all X.outer (λ_ hb=>hb) I.ok.funs
theorem O7.stack(I:O7 X gV σ H s):s.heap.FunFrames X.base X.stack:=by
 rcases I.ok.stk with e|⟨e,hf⟩
 . rw[e];exact I.funs
 . rw[e];obtain⟨m,hn,_⟩:=I.loc;refine .cons (by rw[I.ok.kind];decide) hf hn ?_ I.funs;exact Heap.get?_none_of_le (T9 I.ok.bsz I.ok.above)
theorem O7.stkSub(I:O7 X gV σ H s):∀b∈O4 X.stack,b∈X.env.locals::X.fs:=λb hb=>by
 rcases I.ok.stk with e|⟨e,hf⟩
 . rw[e]at hb;exact TL _ hb
 . rw[e]at hb;unfold O4 at hb;rw[Vw,hf]at hb;exact hb
theorem O7.stkFree(I:O7 X gV σ H s):∀b∈O4 X.stack,H b=none:=λb hb=>by
 rcases Ue.mp (I.stkSub b hb)with e|hb
 . rw[e];exact I.free
 . obtain⟨_,o,ho,_⟩:=I.ok.funs.mem hb;exact I.base.free b o ho (I.ok.frf b hb) λz=>I.ok.exfs b z hb
theorem O7.step{g':Array GenState}{t':Nat}{d':Drawn}{ch:List Addr}(I:O7 X gV σ H s)
  (hch:∀b∈ch,(b∈X.ex∨X.s₀.heap.objs.size<=b)/\b≠X.env.locals/\(∀x c,X.env.cells.lookup x=some c->c≠b)/\∀p∈X.pn++gV,p.1≠b)
  (keep:∀b o,b≠X.env.locals->b∉X.fs->b∉ch->s.heap.get? b=some o->H b=none->h'.get? b=some o)
  (slot:∀b o,b≠X.env.locals->b∈X.fs->b∉ch->s.heap.get? b=some o->H b=none->∃sl,h'.get? b=some {o with slots:=sl}) (free:∀b o,b∉ch->s.heap.get? b=some o->H b=none->H' b=none)
  (there:∀b o,b∉ch->s.heap.get? b=some o->∃o',h'.get? b=some o')
  (tups:∀b xs,H b=some (.tup xs)->H' b=some (.tup xs)) (frzs:∀b o u,H b=some (.frz o u)->H' b=some (.frz o u)) (tbls:∀b q,H b=some (.tbl q)->H' b=some (.tbl q))
  (ns:∀m,s.heap.Ns X.env.locals m->h'.Ns X.env.locals m) (hok:O0 X.prog X.w H' h') (hg:AllBare g') :
  O7 X gV σ H' {s with heap:=h',gens:=g',drawn:=d',toks:=t' }:=by
 have neL:∀b o,X.s₀.heap.get? b=some o->b≠X.env.locals:=λb o e=>Ut (TU (TZ e) I.ok.above)
 have neC:∀b o,X.s₀.heap.get? b=some o->b∉X.ex->b∉ch:=λb o e hx hb=>by
  rcases(hch b hb).1 with z|z
  . exact hx z
  . exact absurd (TU (TZ e) z) (Vu _)
 have cellK:∀x c,X.env.cells.lookup x=some c->∀v,s.heap.IsCell c v->h'.IsCell c v:=λx c e v ⟨o,ho,hd⟩=>by
  have nch:c∉ch:=λz=>(hch c z).2.2.1 x c e rfl;rcases I.freeC x c e with hn|⟨_,o2,hz⟩
  .
   by_cases hc:c∈X.fs
   . obtain⟨sl,q⟩:=slot c o (I.cne x c e) hc nch ho hn;exact⟨_,q,hd⟩
   . exact⟨o,keep c o (I.cne x c e) hc nch ho hn,hd⟩
  . have e1:=(I.hok c _ hz).1;rw[ho]at e1;cases e1;exact⟨o,(hok c _ (frzs c _ _ hz)).1,hd⟩
 refine⟨I.ok,I.os,hg,⟨λb o e n hb hx=>?_,λb o e n hb hx=>?_,λb o e n hx=>?_,λb o e hx=>?_,λb xs e=>tups b xs (I.base.tups b xs e),λb o xs e=>frzs b o xs (I.base.frzs b o xs e),λb ps e=>?_⟩,?_,λx c e=>?_,?_,λx c e=>?_,λp hp=>?_,hok,I.len⟩
 . exact keep b o (neL b o e) hb (neC b o e hx) (I.base.keep b o e n hb hx) (I.base.free b o e n hx)
 . obtain⟨sl,e1⟩:=I.base.slot b o e n hb hx;obtain⟨sl',e2⟩:=slot b _ (neL b o e) hb (neC b o e hx) e1 (I.base.free b o e n hx);exact⟨sl',e2⟩
 . obtain⟨o',e1⟩:=I.base.there b o e hx;exact free b o' (neC b o e hx) e1 (I.base.free b o e n hx)
 . obtain⟨o',e1⟩:=I.base.there b o e hx;exact there b o' (neC b o e hx) e1
 . exact tbls b ps (I.base.tbls b ps e)
 .
  obtain⟨m,hn,hl⟩:=I.loc;refine⟨m,ns m hn,λi x v e1 e2 e3=>?_⟩;obtain⟨u,r,l⟩:=hl i x v e1 e2 e3;refine⟨u,r,?_⟩;rcases l with l|⟨k,c,e,z⟩
  . exact .inl l
  . exact .inr ⟨k,c,e,cellK x c e _ z⟩
 . obtain⟨v,z⟩:=I.cell x c e;exact⟨v,cellK x c e v z⟩
 . obtain⟨m,⟨o,_,_,ho,_⟩,_⟩:=I.loc;exact free _ o (λz=>(hch _ z).2.1 rfl) ho I.free
 .
  obtain⟨v,o,ho,hd⟩:=I.cell x c e;rcases I.freeC x c e with hn|⟨hf,o2,hz⟩
  . exact .inl (free c o (λz=>(hch c z).2.2.1 x c e rfl) ho hn)
  . exact .inr ⟨hf,o2,frzs c _ _ hz⟩
 . obtain⟨e,n,ne,nf,d⟩:=I.pin p hp;have nch:p.1∉ch:=λz=>(hch p.1 z).2.2.2 p hp rfl;exact⟨keep p.1 p.2 ne nf nch e n,free p.1 p.2 nch e n,ne,nf,d⟩
theorem O7.un{t':Nat}(I:O7 X gV σ H s)(u:Un X.fs [] H H' s.heap h')(hok:O0 X.prog X.w H' h'):O7 X gV σ H' {s with heap:=h',toks:=t' }:=by
 obtain⟨m,⟨o,es,ep,ho,r⟩,_⟩:=id I.loc;obtain⟨sl,hL⟩:=u.any ho I.free v6
 exact I.step (g':=s.gens) (d':=s.drawn) (ch:=[]) (λ_ z=>nomatch z) (λb o _ hb _ e n=>u.keep b o e n hb v6) (λb o _ hb _ e n=>u.slot b o e n hb v6) (λb o _ e n=>u.free b o e n v6) (λb o _ e=>u.there b o e v6) u.tups u.frzs u.tbls (λm' hm=>by
  obtain⟨o',es',ep',ho',r'⟩:=hm;rw[ho]at ho';cases ho'
  exact⟨_,es',ep',hL,r'⟩) hok I.bare
theorem O7.call{g':Array GenState}{t':Nat}{d':Drawn}{ch:List Addr}(I:O7 X gV σ H s)(u:Un (O4 X.stack) ch H H' s.heap h')(hok:O0 X.prog X.w H' h')(hg:AllBare g')
  (hch:∀b∈ch,(b∈X.ex∨X.s₀.heap.objs.size<=b)/\b≠X.env.locals/\(∀x c,X.env.cells.lookup x=some c->c≠b)/\∀p∈X.pn++gV,p.1≠b) :
  O7 X gV σ H' {s with heap:=h',gens:=g',drawn:=d',toks:=t' }:=by
 obtain⟨m,⟨o,es,ep,ho,r⟩,_⟩:=id I.loc;obtain⟨sl,hL⟩:=u.any ho I.free λz=>(hch _ z).2.1 rfl
 exact I.step (ch:=ch) hch (λb o hL hb hc e n=>u.keep b o e n (λz=>(Ue.mp (I.stkSub b z)).elim hL hb) hc) (λb o _ _ hc e n=>u.any e n hc) (λb o hc e n=>u.free b o e n hc) (λb o hc e=>u.there b o e hc) u.tups u.frzs u.tbls (λm' hm=>by
  obtain⟨o',es',ep',ho',r'⟩:=hm;rw[ho]at ho';cases ho'
  exact⟨_,es',ep',hL,r'⟩) hok hg
theorem O7.turned{t':Nat}{it:Addr}(I:O7 X gV σ H s)(k:∀b o,b≠it->s.heap.get? b=some o->h'.get? b=some o)(hn:H it=none)(hL:it≠X.env.locals)
  (h1:it∈X.ex∨X.s₀.heap.objs.size<=it) (h2:∀x c,X.env.cells.lookup x=some c->c≠it) (h3:∀p∈X.pn++gV,p.1≠it):O7 X gV σ H {s with heap:=h',toks:=t' }:=by
 have nit:∀b u,H b=some u->b≠it:=λb u e z=>by rw[z,hn]at e;cases e
 refine I.step (g':=s.gens) (d':=s.drawn) (ch:=[it]) (λb hb=>?_) (λb o _ _ hc e _=>k b o (λz=>hc (by simp[z])) e) (λb o _ _ hc e _=>⟨o.slots,k b o (λz=>hc (by simp[z])) e⟩) (λ_ _ _ _ n=>n)
  (λb o hc e=>⟨o,k b o (λz=>hc (by simp[z])) e⟩) (λ_ _ e=>e) (λ_ _ _ e=>e) (λ_ _ e=>e) (λm hm=>?_) (λb u e=>?_) I.bare
 .
  have e:b=it:=by simpa using hb
  subst e;exact⟨h1,hL,h2,h3⟩
 . obtain⟨o,es,ep,ho,r⟩:=hm;exact⟨o,es,ep,k _ o (U3 hL) ho,r⟩
 .
  refine(I.hok b u e).stay (λc v hc q=>k c v ?_ q) (λ_ q=>q) (λ_ _ q=>q) λ_ _ _ _ q=>q;rcases hc with z|z
  . rw[z];exact nit b u e
  . exact nit c _ z
theorem O7.tok(I:O7 X gV σ H s)(t:Nat):O7 X gV σ H {s with toks:=t}:=I.un (h':=s.heap) (t':=t) Un.refl I.hok
theorem O7.kept{t':Nat}(I:O7 X gV σ H s)(k:∀b u,s.heap.get? b=some u->h'.get? b=some u):O7 X gV σ H {s with heap:=h',toks:=t' }:=I.un (Un.kept k) (I.hok.kept k)
theorem O7.laid{a:Addr}{o:HO}{t':Nat}(I:O7 X gV σ H s)(k:∀b u,s.heap.get? b=some u->h'.get? b=some u)(hp:s.heap.objs.size<=a)(new:eX X.prog X.w (OZ H a o) h' a o) :
  O7 X gV σ (OZ H a o) {s with heap:=h',toks:=t' }:=I.un (Un.laid k hp (I.hok.fresh hp)) (I.hok.laid k hp new)
theorem O7.write{x e:Addr}{o:HO}{t':Nat}(I:O7 X gV σ H s)(mu:O1 (H x))(he:e=x∨H e=some (.own x))(k:∀b u,b≠e->s.heap.get? b=some u->h'.get? b=some u)(heo:∃u,h'.get? e=some u)
  (new:eX X.prog X.w (OZ H x o) h' x o):O7 X gV σ (OZ H x o) {s with heap:=h',toks:=t' }:=I.un (Un.write mu he k heo) (I.hok.write mu he k heo new)
theorem O7.pins_of{pins':List (Addr×Obj)}(I:O7 X gV σ H s)(h:∀p∈pins',s.heap.get? p.1=some p.2/\H p.1=none/\p.1≠X.env.locals/\p.1∉X.fs/\∀v,p.2.data≠.cell v):O7 X pins' σ H s :=
 ⟨I.ok,I.os,I.bare,I.base,I.loc,I.cell,I.free,I.freeC,λp hp=>(Uw.mp hp).elim (λz=>I.pin p (Uj _ z)) (h p),I.hok,I.len⟩
theorem zx{N:List Str}(hN:N.Nodup){i j:Nat}{x:Str}(a:N[i]?=some x)(b:N[j]?=some x):i=j:=by obtain⟨h1,e1⟩:=TR.mp a;obtain⟨h2,e2⟩:=TR.mp b;exact(List.getElem_inj hN).mp (e1.trans e2.symm)
theorem vS{M:Model}{A:Around}{E:Value->Shared->Prop}{i:Nat}{x:Str}{v:V}{u:Value}{Q:Unit->Shared->Prop}(I:O7 X gV σ H s)(hN:X.N.Nodup)(hi:X.N[i]?=some x)(hx:O6 X.env.scope x)(r:cB v u)
  (h:∀s',O7 X gV (σ.set i (some v)) H s'->(∃a,Heap.SameBut a s.heap s'.heap/\(a=X.env.locals∨X.env.cells.lookup x=some a))->Q () s') (hf:X.fn x=true∨X.env.scope.names.lookup x=some .local:=by first|exact .inl rfl|exact .inr rfl|assumption):wpAny M A (storeName X.env x u) Q E s:=by
 obtain⟨m,hn,hl⟩:=id I.loc;have hcls:(X.env.scope.kind == .class ||(X.env.scope.kind == .module && X.env.locals != X.env.globals))=false:=by rw[I.ok.kind];rfl
 have hiσ:i<σ.length:=by rw[I.len];exact(TR.mp hi).1
 have cne:=I.cne
 have tracked:∀{a:Addr}{h':Heap},(∃o,s.heap.get? a=some o/\H a=none)->Heap.SameBut a s.heap h'->O0 X.prog X.w H h':=λ{a h'} ha hs b ob e=>by
  obtain⟨_,_,hfree⟩:=ha;refine(I.hok b ob e).stay (λc w' hc q=>(hs.2 c ?_).trans q) (λ_ q=>q) (λ_ _ q=>q) λ_ _ _ _ q=>q;rintro rfl;rcases hc with rfl|hc
  . rw[hfree]at e;cases e
  . rw[hfree]at hc;cases hc
 rcases hx with hk|hk
 .
  refine wpAny_storeName_local hk hn (λh' hn' hs=>?_) hcls;obtain⟨oL,_,_,hoL,_⟩:=id hn;refine h _ ⟨I.ok,I.os,I.bare,⟨λb o e n hb hx=>?_,λb o e n hb hx=>?_,I.base.free,λb o e hx=>?_,I.base.tups,I.base.frzs,I.base.tbls⟩,⟨_,hn',λj y v' e1 e2 e3=>?_⟩,λy c e=>?_,I.free,I.freeC,λp hp=>?_,tracked ⟨oL,hoL,I.free⟩ hs,by simpa using I.len⟩ ⟨_,hs,.inl rfl⟩
  . exact(hs.2 b (Ut (TU (TZ e) I.ok.above))).trans (I.base.keep b o e n hb hx)
  . obtain⟨sl,e1⟩:=I.base.slot b o e n hb hx;exact⟨sl,(hs.2 b (Ut (TU (TZ e) I.ok.above))).trans e1⟩
  . obtain⟨o',e1⟩:=I.base.there b o e hx;exact⟨o',(hs.2 b (Ut (TU (TZ e) I.ok.above))).trans e1⟩
  .
   by_cases hj:j=i
   . subst hj;rw[hi]at e1;cases e1;rw[UL hiσ]at e2;cases e2;exact⟨u,r,.inl ⟨hk,v6⟩⟩
   .
    rw[UN (U3 hj)]at e2;obtain⟨u',r',q⟩:=hl j y v' e1 e2 e3;refine⟨u',r',?_⟩;rcases q with⟨k,e⟩|⟨k,c,e,z⟩
    . refine .inl ⟨k,?_⟩;have:y≠x:=λe=>hj (zx hN e1 (e ▸ hi));simp[this,e]
    . exact .inr ⟨k,c,e,z.sameBut hs (cne y c e)⟩
  . obtain⟨w',z⟩:=I.cell y c e;exact⟨w',z.sameBut hs (cne y c e)⟩
  . obtain⟨e,n,ne,nf,d⟩:=I.pin p hp;exact⟨(hs.2 p.1 ne).trans e,n,ne,nf,d⟩
 .
  have hfn:X.fn x=true:=by
   rcases hf with z|z
   . exact z
   . rw[z]at hk;cases hk
  obtain⟨c,hc⟩:=I.ok.has x (.inl hk);obtain⟨w',z⟩:=I.cell x c hc;refine wpAny_storeName_cell I.ok.kind hk hc z (λh' hc' hs=>?_);obtain⟨oc,hoc,hocd⟩:=id z;refine h {s with heap:=h' } ⟨I.ok,I.os,I.bare,⟨λb o e n hb hx=>?_,λb o e n hb hx=>?_,I.base.free,λb o e hx=>?_,I.base.tups,I.base.frzs,I.base.tbls⟩,⟨m,hn.sameBut hs (U3 (cne x c hc)),λj y v' e1 e2 e3=>?_⟩,λy c' e=>?_,I.free,I.freeC,λp hp=>?_,tracked ⟨oc,hoc,(I.freeC x c hc).resolve_right λz=>by rw[hfn]at z;exact absurd z.1 x_⟩ hs,by simpa using I.len⟩ ⟨c,hs,.inr hc⟩
  . exact(hs.2 b (Ut (TU (TZ e) (I.ok.cab x c hfn hc)))).trans (I.base.keep b o e n hb hx)
  . obtain⟨sl,e1⟩:=I.base.slot b o e n hb hx;exact⟨sl,(hs.2 b (Ut (TU (TZ e) (I.ok.cab x c hfn hc)))).trans e1⟩
  . obtain⟨o',e1⟩:=I.base.there b o e hx;exact⟨o',(hs.2 b (Ut (TU (TZ e) (I.ok.cab x c hfn hc)))).trans e1⟩
  .
   by_cases hj:j=i
   . subst hj;rw[hi]at e1;cases e1;rw[UL hiσ]at e2;cases e2;exact⟨u,r,.inr ⟨.inl hk,c,hc,hc'⟩⟩
   .
    rw[UN (U3 hj)]at e2;obtain⟨u',r',q⟩:=hl j y v' e1 e2 e3;refine⟨u',r',?_⟩;rcases q with q|⟨k,c',e,z'⟩
    . exact .inl q
    . refine .inr ⟨k,c',e,z'.sameBut hs ?_⟩;rintro rfl;exact hj (zx hN e1 (I.ok.inj _ _ _ e hc ▸ hi))
  .
   by_cases hcc:c'=c
   . subst hcc;exact⟨_,hc'⟩
   . obtain⟨w2,z2⟩:=I.cell y c' e;exact⟨w2,z2.sameBut hs hcc⟩
  . obtain⟨e,n,ne,nf,d⟩:=I.pin p hp;refine⟨(hs.2 p.1 ?_).trans e,n,ne,nf,d⟩;intro q;rw[q,hoc]at e;have q':oc=p.2:=Uq e;exact d w' (by rw[<- q'];exact hocd)
theorem m9{M:Model}{A:Around}{E:Value->Shared->Prop}{i:Nat}{x:Str}{v:V}{u:Value}{Q:Unit->Shared->Prop}(I:O7 X gV σ H s)(hN:X.N.Nodup)(hi:X.N[i]?=some x)(hx:O6 X.env.scope x)(r:cB v u)
  (h:∀s',O7 X gV (σ.set i (some v)) H s'->Q () s') (hf:X.fn x=true∨X.env.scope.names.lookup x=some .local:=by first|exact .inl rfl|exact .inr rfl|assumption):wpAny M A (storeName X.env x u) Q E s :=
 vS I hN hi hx r (λs' I' _=>h s' I') hf
theorem O7.call'{s':Shared}{ch:List Addr}(I:O7 X gV σ H s)(ho:s'.os=s.os)(u:Un (O4 X.stack) ch H H' s.heap s'.heap)(hok:O0 X.prog X.w H' s'.heap)(hg:AllBare s'.gens)
  (hch:∀b∈ch,(b∈X.ex∨X.s₀.heap.objs.size<=b)/\b≠X.env.locals/\(∀x c,X.env.cells.lookup x=some c->c≠b)/\∀p∈X.pn++gV,p.1≠b):O7 X gV σ H' s':=by
 obtain⟨h',g',d',t',o'⟩:=s';have e:o'=s.os:=ho;subst e;exact I.call (g':=g') (t':=t') (d':=d') u hok hg hch
end
noncomputable abbrev XK:=Value->Option Addr->Hp->Prop
noncomputable abbrev St:=List (Option V)
noncomputable abbrev VK:=V->Hp->Prop
abbrev TE:=St->Hp->VK->Prop
noncomputable abbrev TT:=St->Hp->(Bool->Hp->Prop)->Prop
noncomputable abbrev TA:=St->Hp->(List V->Hp->Prop)->Prop
structure Kl where
 nx:St->Hp->Prop
 rt:VK
 bk:St->Hp->Prop:=λ_ _=>False
 ct:St->Hp->Prop:=λ_ _=>False
abbrev TS:=Kl->St->Hp->Prop
def EP(X:Cx)(gV:List (Addr×Obj))(σ:St)(Q:VK)(u:Value)(s':Shared):Prop:=∃v H',O7 X gV σ H' s'/\cB v u/\Q v H'
def TP(X:Cx)(gV:List (Addr×Obj))(σ:St)(Q:Bool->Hp->Prop)(b:Bool)(s':Shared):Prop:=∃H',O7 X gV σ H' s'/\Q b H'
def AP(X:Cx)(gV:List (Addr×Obj))(σ:St)(Q:List V->Hp->Prop)(us:List Value)(s':Shared):Prop:=∃vs H',O7 X gV σ H' s'/\cn vs us/\Q vs H'
def SP(X:Cx)(gV:List (Addr×Obj))(D:Kl)(f:Flow)(s':Shared):Prop :=
 match f with
 |.next=>∃σ' H',O7 X gV σ' H' s'/\D.nx σ' H'
 |.brk=>∃σ' H',O7 X gV σ' H' s'/\D.bk σ' H'
 |.cont=>∃σ' H',O7 X gV σ' H' s'/\D.ct σ' H'
 |.ret u=>∃v σ' H',O7 X gV σ' H' s'/\cB v u/\D.rt v H'
def PE(X:Cx)(e:Expr)(t:TE):Prop :=
 ∀(gV:List (Addr×Obj))(s:Shared)(σ:St)(H:Hp)(Q:VK),O7 X gV σ H s->t σ H Q->wpAny (model X.prog X.w) X.A (eval e X.env) (EP X gV σ Q) X.xe s
def PT(X:Cx)(e:Expr)(t:TT):Prop :=
 ∀(gV:List (Addr×Obj))(s:Shared)(σ:St)(H:Hp)(Q:Bool->Hp->Prop),O7 X gV σ H s->t σ H Q->wpAny (model X.prog X.w) X.A (isTrue e X.env (eval e X.env)) (TP X gV σ Q) X.xe s
def PA(X:Cx)(es:List Expr)(t:TA):Prop :=
 ∀(pos:Pos)(gV:List (Addr×Obj))(s:Shared)(σ:St)(H:Hp)(Q:List V->Hp->Prop),O7 X gV σ H s->t σ H Q->wpAny (model X.prog X.w) X.A (spliced (backTo pos (starEach es X.env))) (AP X gV σ Q) X.xe s
def PS(X:Cx)(st:Stmt)(t:TS):Prop :=
 ∀(gV:List (Addr×Obj))(s:Shared)(σ:St)(H:Hp)(D:Kl),O7 X gV σ H s->t D σ H->wpAny (model X.prog X.w) X.A (exec st X.env) (SP X gV D) X.xe s
def O8(X:Cx)(st:List Stmt)(t:TS):Prop :=
 ∀(gV:List (Addr×Obj))(s:Shared)(σ:St)(H:Hp)(D:Kl),O7 X gV σ H s->t D σ H->wpAny (model X.prog X.w) X.A (execs st X.env) (SP X gV D) X.xe s
theorem O9{α:Type}{t:Sem α}{Q Q':α->Shared->Prop}{M:Model}{A:Around}{E:Value->Shared->Prop}{s:Shared}(h:wpAny M A t Q E s)(hQ:∀a s,Q a s->Q' a s):wpAny M A t Q' E s:=Vc h hQ λ_ _ x=>x
section
variable{X:Cx}
theorem Pa{a b:Expr}{ta tb:TE}(ha:PE X a ta)(hb:PE X b tb){gV:List (Addr×Obj)}{s:Shared}{σ:St}{H:Hp}{R:V->V->Hp->Prop}(I:O7 X gV σ H s)(h:ta σ H λx H1=>tb σ H1 λy H2=>R x y H2)
  {α:Type} {Q:α->Shared->Prop} {f:Value->Value->Sem α}
  (hf:∀v u s2 x y H2,O7 X gV σ H2 s2->cB x v->cB y u->R x y H2->wpAny (model X.prog X.w) X.A (f v u) Q X.xe s2) :
  wpAny (model X.prog X.w) X.A (eval a X.env) (λv s₁=>wpAny (model X.prog X.w) X.A (eval b X.env) (λu s₂=>wpAny (model X.prog X.w) X.A (f v u) Q X.xe s₂) X.xe s₁) X.xe s:=by
 refine O9 (ha gV s σ H _ I h) λv s1 ⟨x,H1,I1,r1,q1⟩=>?_;refine O9 (hb gV s1 σ H1 _ I1 q1) λu s2 ⟨y,H2,I2,r2,q2⟩=>?_;exact hf v u s2 x y H2 I2 r1 r2 q2
def Hz(i:Nat):TE:=λσ H Q=>∃v,σ[i]?=some (some v)/\Q v H
def tC(v:V):TE:=λ_ H Q=>Q v H
theorem jn{i:Nat}{x:Str}{pos:Pos}(hN:X.N[i]?=some x)(hv:O5 X.env.scope x) (hd:(x == ("__debug__" : Str))=false:=by decide) (hcd:(x == ("__classdict__" : Str))=false:=by decide):PE X (.Name x pos) (Hz i):=by
 intro gV s σ H Q I h;obtain⟨v,e,h⟩:=h;obtain⟨m,hn,hl⟩:=I.loc;obtain⟨u,r,l⟩:=hl i x v hN e hv;have Pb:EP X gV σ Q u s:=⟨v,H,I,r,h⟩;rcases l with⟨hk,hm⟩|⟨hk,c,hc,hcell⟩
 . exact wpAny_Name (wpAny_loadName_local I.ok.kind hk hn hm Pb) hd
 .
  rcases hk with hk|hk
  . exact wpAny_Name (wpAny_loadName_cell I.ok.kind hk hc hcell Pb) hd
  . exact wpAny_Name (wpAny_loadName_free I.ok.kind hk hc hcell Pb hcd) hd
theorem Ku {i j pos}:PE X (.Constant (.int i) j pos) (tC (.int i)):=λ_ _ _ H _ I h=>wpAny_Constant_int ⟨.int i,H,I.tok _,⟨_,rfl⟩,h⟩
theorem MO {b j pos}:PE X (.Constant (.bool b) j pos) (tC (.bl b)):=λ_ _ _ H _ I h=>Constant_bool ⟨.bl b,H,I,rfl,h⟩
theorem Kv {j pos}:PE X (.Constant .none j pos) (tC .non):=λ_ _ _ H _ I h=>Constant_none ⟨.non,H,I,rfl,h⟩
theorem BJ {x j pos}:PE X (.Constant (.str x) j pos) (tC (.str x)):=λ_ _ _ H _ I h=>Calls.Constant_str ⟨.str x,H,I.tok _,⟨_,rfl⟩,h⟩
def Gl(X:Cx)(x:Str):Prop:=X.env.kindOf x=some .globalImplicit
theorem jF{E:Value->Shared->Prop}{gV:List (Addr×Obj)}{s:Shared}{σ:St}{H:Hp}{x:Str}{u:Value}{pos:Pos}{Q:Value->Shared->Prop}(I:O7 X gV σ H s)(hg:Gl X x)(hm:X.mg x=some u)(h:Q u s)
  (hd:(x == ("__debug__" : Str))=false:=by decide):wpAny (model X.prog X.w) X.A (eval (.Name x pos) X.env) Q E s :=
 Calls.Name_function_global I.ok.kind hg (Calls.loadGlobal_global (by rw[I.ok.glob];exact I.mod.glob.keeps I.bk) hm h) hd
theorem ly{E:Value->Shared->Prop}{gV:List (Addr×Obj)}{s:Shared}{σ:St}{H:Hp}{x:Str}{u:Value}{pos:Pos}{Q:Value->Shared->Prop}(I:O7 X gV σ H s)(hg:Gl X x)(hm:X.mg x=none)(hv:bootBuiltins x=some u)(h:Q u s)
  (hn:x≠"__name__":=by decide) (hd:(x == ("__debug__" : Str))=false:=by decide):wpAny (model X.prog X.w) X.A (eval (.Name x pos) X.env) Q E s:=by
 obtain⟨mb,h1,h2⟩:=I.mod.blt;exact Calls.Name_function_global I.ok.kind hg (Calls.loadGlobal_builtin (by rw[I.ok.glob];exact I.mod.glob.keeps I.bk) hm (by rw[I.ok.blt];exact h1.keeps I.bk) ((h2 x hn).trans hv) h) hd
theorem HD{x:Str}{v:V}{u:Value}{pos:Pos}(hg:Gl X x)(hm:X.mg x=some u)(r:cB v u) (hd:(x == ("__debug__" : Str))=false:=by decide):PE X (.Name x pos) (tC v) :=
 λ_ _ _ H _ I h=>jF I hg hm ⟨v,H,I,r,h⟩ hd
theorem HE{x:Str}{v:V}{u:Value}{pos:Pos}(hg:Gl X x)(hm:X.mg x=none)(hv:bootBuiltins x=some u)(r:cB v u) (hn:x≠"__name__":=by decide) (hd:(x == ("__debug__" : Str))=false:=by decide):PE X (.Name x pos) (tC v) :=
 λ_ _ _ H _ I h=>ly I hg hm hv ⟨v,H,I,r,h⟩ hn hd
variable{a b:Expr}{ta tb:TE}{pos:Pos}
noncomputable def tB(t:TE):TT:=λσ H Q=>t σ H λx H1=>∃c,x=.bl c/\Q c H1
end
def Pc(K:PySem.W.Frag)(H:Hp)(a:Addr)(xs:List V):Prop :=
 Rd H a (.lst xs) ∨
  ∃(o:Obj)(its:Array Value)(n:Nat),K.lookup a=some o/\o.cls=.type "list"/\o.dict=none/\o.data=.seq its n/\its.size<=sizeLine/\cn xs its.toList
def Pd(K:PySem.W.Frag)(H:Hp)(a:Addr)(xs:List V):Prop :=
 Rd H a (.tup xs) ∨
  ∃(o:Obj)(its:Array Value)(n:Nat),K.lookup a=some o/\o.cls=.type "tuple"/\o.data=.seq its n/\its.size<=sizeLine/\cn xs its.toList
noncomputable def Oo:Value->Option V
 |.none=>some .non
 |.bool b=>some (.bl b)
 |.int i _=>some (.int i)
 |.str x _=>some (.str x)
 |.bytes b _=>some (.byt b)
 |.float b _=>some (.flt b)
 |.ref a=>some (.ref a)
 |.type n=>some (.ty n)
 |_=>none
theorem cB.abs{x:V}{u:Value}(r:cB x u):Oo u=some x:=by
 cases x with
 |non=>cases r;rfl
 |bl _=>cases r;rfl
 |int _=>obtain⟨t,rfl⟩:=r;rfl
 |str _=>obtain⟨t,rfl⟩:=r;rfl
 |byt _=>obtain⟨t,rfl⟩:=r;rfl
 |flt _=>obtain⟨t,rfl⟩:=r;rfl
 |ref _=>cases r;rfl
 |ty _=>cases r;rfl
theorem cB.inj{x y:V}{u:Value}(r:cB x u)(q:cB y u):x=y:=Uq (r.abs.symm.trans q.abs)
theorem cn.inj:∀{xs ys:List V}{us:List Value},cn xs us->cn ys us->xs=ys
 |_,_,_,.nil,.nil=>rfl
 |_,_,_,.cons r t,.cons r' t'=>by rw[r.inj r',cn.inj t t']
section
variable{X:Cx}{gV:List (Addr×Obj)}{σ:St}{H:Hp}{s:Shared}{a:Addr}{xs ys:List V}
theorem Pc.of{K:PySem.W.Frag}(h:H a=some (.lst xs)):Pc K H a xs:=.inl (.inl h)
theorem Pd.of{K:PySem.W.Frag}(h:H a=some (.tup xs)):Pd K H a xs:=.inl (.inl h)
theorem O7.list(I:O7 X gV σ H s)(h:Pc X.K H a xs):∃its:List Value,cn xs its/\PlainL s.heap a its.toArray/\xs.length<=sizeLine:=by
 rcases h with h|⟨o,its,n,hk,hc,hd,hs,hz,r⟩
 . obtain⟨z,its,n,r,e⟩:=h.ok I.hok;exact⟨its,r,⟨_,n,e,rfl,rfl,rfl⟩,z⟩
 . refine⟨its.toList,r,⟨o,n,I.kIn a o hk,hc,hd,by simpa using hs⟩,?_⟩;have e:=r.length;simp only[Array.length_toList]at e;omega
theorem O7.tuple(I:O7 X gV σ H s)(h:Pd X.K H a xs):∃its:List Value,cn xs its/\IsTup s.heap a its.toArray/\xs.length<=sizeLine:=by
 rcases h with h|⟨o,its,n,hk,hc,hs,hz,r⟩
 . obtain⟨z,its,r,p⟩:=h.ok I.hok;exact⟨its,r,p,z⟩
 . refine⟨its.toList,r,⟨o,I.kIn a o hk,hc,n,by simpa using hs⟩,?_⟩;have e:=r.length;simp only[Array.length_toList]at e;omega
theorem O7.list_inj(I:O7 X gV σ H s)(h:Pc X.K H a xs)(h':Pc X.K H a ys):xs=ys:=by
 obtain⟨its,r,⟨o,n,e,_,_,d⟩,_⟩:=I.list h;obtain⟨its',r',⟨o',n',e',_,_,d'⟩,_⟩:=I.list h';rw[e]at e';cases e';rw[d]at d';injection d' with d1 _;have:its=its':=by simpa using congrArg Array.toList d1
 subst this;exact r.inj r'
theorem O7.tuple_inj(I:O7 X gV σ H s)(h:Pd X.K H a xs)(h':Pd X.K H a ys):xs=ys:=by
 obtain⟨its,r,⟨o,e,_,n,d⟩,_⟩:=I.tuple h;obtain⟨its',r',⟨o',e',_,n',d'⟩,_⟩:=I.tuple h';rw[e]at e';cases e';rw[d]at d';injection d' with d1 _;have:its=its':=by simpa using congrArg Array.toList d1
 subst this;exact r.inj r'
end
noncomputable abbrev Cx.wish(X:Cx)(E:Value->Shared->Prop):Cx:={X with xe:=E}
noncomputable abbrev Cx.nox(X:Cx):Cx:=X.wish λ_ _=>False
theorem Cx.Ok.wish{X:Cx}(ok:X.Ok)(E:Value->Shared->Prop):(X.wish E).Ok :=
 ⟨ok.mod,ok.kind,ok.glob,ok.blt,ok.above,ok.inj,ok.has,ok.cab,ok.hd,ok.frames,ok.stk,ok.exf,ok.bs,ok.bsz,ok.noex,ok.exfs,ok.funs,ok.frf,ok.tbs⟩
theorem Cx.Ok.unwish{X:Cx}{E:Value->Shared->Prop}(ok:(X.wish E).Ok):X.Ok :=
 ⟨ok.mod,ok.kind,ok.glob,ok.blt,ok.above,ok.inj,ok.has,ok.cab,ok.hd,ok.frames,ok.stk,ok.exf,ok.bs,ok.bsz,ok.noex,ok.exfs,ok.funs,ok.frf,ok.tbs⟩
section
variable{X:Cx}{gV:List (Addr×Obj)}{σ:St}{H:Hp}{s:Shared}{E:Value->Shared->Prop}
theorem O7.wish(I:O7 X gV σ H s)(E:Value->Shared->Prop):O7 (X.wish E) gV σ H s:=⟨I.ok.wish E,I.os,I.bare,I.base,I.loc,I.cell,I.free,I.freeC,I.pin,I.hok,I.len⟩
theorem O7.unwish(I:O7 (X.wish E) gV σ H s):O7 X gV σ H s:=⟨I.ok.unwish,I.os,I.bare,I.base,I.loc,I.cell,I.free,I.freeC,I.pin,I.hok,I.len⟩
theorem SP.unwish{D:Kl}{f:Flow}{s':Shared}(h:SP (X.wish E) gV D f s'):SP X gV D f s':=by
 cases f with
 |next=>obtain⟨σ',H',I,q⟩:=h;exact⟨σ',H',I.unwish,q⟩
 |brk=>obtain⟨σ',H',I,q⟩:=h;exact⟨σ',H',I.unwish,q⟩
 |cont=>obtain⟨σ',H',I,q⟩:=h;exact⟨σ',H',I.unwish,q⟩
 |ret u=>obtain⟨v,σ',H',I,r,q⟩:=h;exact⟨v,σ',H',I.unwish,r,q⟩
theorem O8.nox{st:List Stmt}{t:TS}(h:O8 X.nox st t):O8 X st t:=λgV s σ H D I hw =>
 Vc (h gV s σ H D (I.wish _) hw) (λ_ _ q=>q.unwish) λ_ _ z=>False.elim z
end
section
variable{X:Cx}{st:Stmt}{rest:List Stmt}{t u:TS}{e:Expr}{te:TE}{pos:Pos}
def NZ(t u:TS):TS:=λD σ H=>t {D with nx:=u D} σ H
theorem Ew(h1:PS X st t)(h2:O8 X rest u):O8 X (st::rest) (NZ t u):=by
 intro gV s σ H D I h;refine wpAny_execs_cons (O9 (h1 gV s σ H {D with nx:=u D} I h) λf s1 q=>?_)
 cases f with
 | next =>
  obtain⟨σ',H',I',q⟩:=q;exact h2 gV s1 σ' H' D I' q
 |ret v=>exact q
 |brk=>exact q
 |cont=>exact q
theorem BK(h1:PS X st t):O8 X [st] t:=by
 intro gV s σ H D I h;refine wpAny_execs_cons (O9 (h1 gV s σ H D I h) λf s1 q=>?_)
 cases f with
 |next=>exact VV q
 |ret v=>exact q
 |brk=>exact q
 |cont=>exact q
theorem O7.quiet{gV:List (Addr×Obj)}{σ:St}{H:Hp}{s:Shared}(I:O7 X gV σ H s):interactive X.env=false:=by simp[interactive,I.ok.kind]
def HF(te:TE):TS:=λD σ H=>te σ H λ_ H1=>D.nx σ H1
theorem BL(he:PE X e te)(hs:swapsWith e none pos.line X.env=pure false:=by rfl):PS X (.Expr e pos) (HF te):=by intro gV s σ H D I h;exact wpAny_Expr_any (O9 (he gV s σ H _ I h) λv s1 ⟨x,H1,I1,r1,q1⟩=>⟨σ,H1,I1,q1⟩) I.quiet hs
end
noncomputable abbrev TG:=V->St->Hp->(St->Hp->Prop)->Prop
noncomputable abbrev Pe:=List V->St->Hp->(St->Hp->Prop)->Prop
def PG(X:Cx)(target:Expr)(t:TG):Prop :=
 ∀(gV:List (Addr×Obj))(s:Shared)(σ:St)(H:Hp)(v:V)(u:Value)(Q:St->Hp->Prop),O7 X gV σ H s->cB v u->t v σ H Q ->
  wpAny (model X.prog X.w) X.A (assign target X.env u) (λ_ s'=>∃σ' H',O7 X gV σ' H' s'/\Q σ' H') X.xe s
def Pf(X:Cx)(ts:List Expr)(t:Pe):Prop :=
 ∀(gV:List (Addr×Obj))(s:Shared)(σ:St)(H:Hp)(vs:List V)(us:List Value)(Q:St->Hp->Prop),O7 X gV σ H s->cn vs us->t vs σ H Q ->
  wpAny (model X.prog X.w) X.A (assignInOrder ((assignEach ts X.env).map (·.2)) us) (λ_ s'=>∃σ' H',O7 X gV σ' H' s'/\Q σ' H') X.xe s
noncomputable abbrev MP:=V->V->V->Hp->(Hp->Prop)->Prop
def N0(X:Cx)(t:MP):Prop :=
 ∀(gV:List (Addr×Obj))(s:Shared)(σ:St)(H:Hp)(o i v:V)(ov iv u:Value)(Q:Hp->Prop),O7 X gV σ H s->cB o ov->cB i iv->cB v u->t o i v H Q ->
  wpAny (model X.prog X.w) X.A (setItem ov iv u) (λ_ s'=>∃H',O7 X gV σ H' s'/\Q H') X.xe s
section
variable{X:Cx}{pos:Pos}
noncomputable def MQ(i:Nat):TG:=λv σ H Q=>Q (σ.set i (some v)) H
theorem uB{i:Nat}{x:Str}(hN:X.N.Nodup)(hi:X.N[i]?=some x)(hx:O6 X.env.scope x)(hf:X.fn x=true∨X.env.scope.names.lookup x=some .local:=by first|exact .inl rfl|exact .inr rfl|assumption):PG X (.Name x pos) (MQ i):=by intro gV s σ H v u Q I r h;exact wpAny_assign_Name (m9 I hN hi hx r (λs' I'=>⟨_,H,I',h⟩) hf)
noncomputable def Oq:Pe:=λvs σ H Q=>vs=[]/\Q σ H
noncomputable def MR(t:TG)(u:Pe):Pe:=λvs σ H Q=>∃v r,vs=v::r/\t v σ H λσ' H'=>u r σ' H' Q
theorem BM:Pf X [] Oq:=by intro gV s σ H vs us Q I r h;obtain⟨e,h⟩:=h;subst e;cases r;exact assignInOrder_nil ⟨σ,H,I,h⟩
theorem zy{e:Expr}{es:List Expr}{t:TG}{u:Pe}(h1:PG X e t)(h2:Pf X es u)
  (hs:(assignEach (e::es) X.env).map (·.2)=assign e X.env::(assignEach es X.env).map (·.2):=by rfl):Pf X (e::es) (MR t u):=by
 intro gV s σ H vs us Q I r h;obtain⟨v,vr,e1,h⟩:=h;subst e1
 cases r with
 | cons r rr =>
  rw[hs];refine assignInOrder_cons (O9 (h1 gV s σ H _ _ _ I r h) λ_ s1 ⟨σ1,H1,I1,q1⟩=>?_);exact h2 gV s1 σ1 H1 _ _ Q I1 rr q1
noncomputable def Os(K:PySem.W.Frag)(n:Nat)(t:Pe):TG:=λv σ H Q=>∃a xs,v=.ref a/\Pd K H a xs/\xs.length=n/\t xs σ H Q
theorem GX{es:List Expr}{k:Nat}{t:Pe}{n:Nat}(hc:X.calm=true)(h:Pf X es t)
  (hn:(assignEach es X.env).length=n:=by rfl) (hst:(assignEach es X.env).findIdx? (·.1)=none:=by rfl):PG X (.Tuple es k pos) (Os X.K n t):=by
 intro gV s σ H v u Q I r hw;obtain⟨a,xs,e1,hq,hl,hw⟩:=hw;subst e1;cases r;obtain⟨its,rv,ht,hz⟩:=I.tuple hq;refine assign_Tuple_tuple (I.ok.hd hc) ht (by simp[hn,<- hl,rv.length]) hst λh' hx=>?_;have I1:O7 X gV σ H {s with heap:=h' }:=I.kept (t':=s.toks) λb o e=>hx b o (Ut (TZ e)) e;exact h gV _ σ H xs _ Q I1 (by simpa using rv) hw
noncomputable def Ot(to ti:TE)(t:MP):TG:=λv σ H Q=>to σ H λo H1=>ti σ H1 λi H2=>t o i v H2 λH3=>Q σ H3
theorem Kw{o i:Expr}{to ti:TE}{t:MP}(ho:PE X o to)(hi:PE X i ti)(hs:N0 X t)
  (ha:∀v,assign (.Subscript o i pos) X.env v=(do
   let ov <- holding [v] (eval o X.env)
   let iv <- holding [v,ov] (eval i X.env)
   standAt pos
   holding [v,ov,iv] (setItem ov iv v)
   release [v,ov,iv] []):=by intro _;rfl):PG X (.Subscript o i pos) (Ot to ti t):=by
 intro gV s σ H v u Q I r h;rw[ha];refine tu (Vn (O9 (ho gV s σ H _ I h) λov s1 ⟨x,H1,I1,r1,q1⟩=>?_));refine tu (Vn (O9 (hi gV s1 σ H1 _ I1 q1) λiv s2 ⟨y,H2,I2,r2,q2⟩=>?_));refine tu (V3 (tu (Vn (O9 (hs gV s2 σ H2 x y v ov iv u _ I2 r1 r2 r q2) λ_ s3 ⟨H3,I3,q3⟩=>?_))));exact wpAny_release ⟨σ,H3,I3,q3⟩
def Ou(te:TE)(g:TG):TS:=λD σ H=>te σ H λx H1=>g x σ H1 D.nx
theorem Kx{tg e:Expr}{te:TE}{g:TG}(he:PE X e te)(hg:PG X tg g)(hs:swapsWithSole [tg] e pos.line X.env=pure false:=by rfl)(hw:swappedStores [tg] e X.env=pure none:=by rfl)
  (h1:(assignEach [tg] X.env).map (·.2)=[assign tg X.env]:=by rfl):PS X (.Assign [tg] e pos) (Ou te g):=by
 intro gV s σ H D I h;refine wpAny_Assign_stores (O9 (he gV s σ H _ I h) λv s1 ⟨x,H1,I1,r1,q1⟩=>?_) hs hw;rw[h1];exact O9 (hg gV s1 σ H1 x v _ I1 r1 q1) λ_ s2 q=>q
def Ov(i j:Nat)(ta:TA):TS:=λD σ H=>ta σ H λvs H1=>∃v w,vs=[v,w]/\D.nx ((σ.set i (some v)).set j (some w)) H1
theorem Ky{i j:Nat}{x y:Str}{a b:Expr}{ta:TA}{px py pt:Pos} {kt k2 pt2} (hc:X.calm=true) (hN:X.N.Nodup) (hi:X.N[i]?=some x) (hj:X.N[j]?=some y) (hij:i≠j)
  (hx:X.env.scope.names.lookup x=some .local) (hy:X.env.scope.names.lookup y=some .local) (ha:PA X [a,b] ta)
  (hw:swappedStores [.Tuple [.Name x px,.Name y py] kt pt] (.Tuple [a,b] k2 pt2) X.env=pure (some [x,y]))
  (hs:swapsWithSole [.Tuple [.Name x px,.Name y py] kt pt] (.Tuple [a,b] k2 pt2) pos.line X.env=pure false:=by rfl) :
  PS X (.Assign [.Tuple [.Name x px,.Name y py] kt pt] (.Tuple [a,b] k2 pt2) pos) (Ov i j ta):=by
 intro gV s σ H D I h;rw[exec_Assign_arm];refine tu (V3 ?_);rw[hs];refine tu (Ub ?_);rw[if_neg (by decide)];refine tu (Tuple_ (O9 (ha _ gV s σ H _ I h) λus s1 ⟨vs,H1,I1,r1,q1⟩=>?_));obtain⟨v,w,e1,q1⟩:=q1;subst e1
 obtain⟨u1,u2,rfl,rv,rw'⟩:∃u1 u2,us=[u1,u2]/\cB v u1/\cB w u2:=by
  cases r1 with
  | cons p q =>
   cases q with
   | cons p' q' =>
    cases q';exact⟨_,_,rfl,p,p'⟩
 refine VF ?_ (by show 2<=sizeLine;decide);have I2:O7 X gV σ H1 {s1 with heap:=s1.heap.push {cls:=.type "tuple",data:=.seq [u1,u2].toArray} }:=I1.kept (t':=s1.toks) λb o e=>TN _ e;rw[hw];refine tu (Ub ?_)
 show wpAny (model X.prog X.w) X.A (do rule "assign.swapped-stores"; let items <- unpackItems (.ref s1.heap.objs.size) 2 none; assignInOrder [λv=>bindName X.env y v,λv=>bindName X.env x v] items.reverse; pure Flow.next) _ _ _
 refine tu (wpAny_rule (tu (unpackItems_tuple (items:=#[u1,u2]) (I.ok.hd hc) (IsTup.new s1.heap _) λh' hx'=>?_)));have I3:=I2.kept (h':=h') (t':=s1.toks) λb o e=>hx' b o (Ut (TZ e)) e
 show wpAny _ _ (assignInOrder [λv=>bindName X.env y v,λv=>bindName X.env x v] [u2,u1] >>= λ_=>pure Flow.next) _ _ _
 refine tu (assignInOrder_cons (wpAny_bindName (m9 I3 hN hj (.inl hy) rw' (λs2 I4=>?_) (.inr hy))));refine assignInOrder_cons (wpAny_bindName (m9 I4 hN hi (.inl hx) rv (λs3 I5=>assignInOrder_nil (Ub ?_)) (.inr hx)));rw[List.set_comm _ _ (U3 hij)]at I5;exact⟨_,H1,I5,q1⟩
end
section
variable{X:Cx}{pos:Pos}
def Kz(c:TT)(tb:TS):TS:=λD σ H=>∃W:Nat->St->Hp->Prop,(∃m,W m σ H)/\∀m σ H,W m σ H ->
 c σ H λb H1=>if b=true then ∃N:St->Hp->Prop,(∀σ' H',N σ' H'->∃m',m' < m/\W m' σ' H')/\tb {D with nx:=N,ct:=N,bk:=D.nx} σ H1 else D.nx σ H1
theorem Ey{c:Expr}{body:List Stmt}{tc:TT}{tb:TS}(hp:PassesOwn (model X.prog X.w) X.A X.env X.xe)(hc:PT X c tc)(hb:O8 X body tb):PS X (.While c body [] pos) (Kz tc tb):=by
 intro gV s σ H D I h;obtain⟨W,⟨m0,w0⟩,turn⟩:=h;refine wpAny_While (codeAny_whileLoop (λn s'=>∃σ' H',O7 X gV σ' H' s'/\W n σ' H') ?_ m0 ⟨σ,H,I,w0⟩);rintro n s1 ⟨σ1,H1,I1,w1⟩;refine VW hp (O9 (hc gV s1 σ1 H1 _ I1 (turn n σ1 H1 w1)) λb s2 ⟨H2,I2,q2⟩=>?_)
 cases b with
 | true =>
  obtain⟨N,hN,q2⟩:=q2;rw[if_pos rfl];refine VW hp (O9 (hb gV s2 σ1 H2 _ I2 q2) λf s3 q3=>?_)
  cases f with
  | next =>
   obtain⟨σ3,H3,I3,n3⟩:=q3;obtain⟨m',hm,w3⟩:=hN σ3 H3 n3;exact⟨m',hm,σ3,H3,I3,w3⟩
  | cont =>
   obtain⟨σ3,H3,I3,n3⟩:=q3;obtain⟨m',hm,w3⟩:=hN σ3 H3 n3;exact⟨m',hm,σ3,H3,I3,w3⟩
  |brk=>exact q3
  |ret v=>exact q3
 | false =>
  rw[if_neg U2];exact VV ⟨σ1,H2,I2,q2⟩
end
structure It where
 go:Nat->Hp->Prop
 yld:Nat->Hp->V->Hp->Prop
 stop:Nat->Hp->Prop
def BN(X:Cx)(gV:List (Addr×Obj))(H:Hp)(b:Addr):Prop :=
 H b=none/\b≠X.env.locals/\b∉X.fs/\(b∈X.ex∨X.s₀.heap.objs.size<=b)/\(∀x c,X.env.cells.lookup x=some c->c≠b)/\∀p∈X.pn++gV,p.1≠b
theorem O7.fpOk{X:Cx}{gV:List (Addr×Obj)}{σ:St}{H H':Hp}{s:Shared}{b:Addr}(I:O7 X gV σ H s)(hb:s.heap.objs.size<=b)(hn:H' b=none):BN X gV H' b:=by
 refine⟨hn,Nat.ne_of_gt (TU I.lt hb),I.nofs hb,.inr (T9 I.sz hb),λx c e z=>?_,λp hp z=>?_⟩
 . obtain⟨v,q⟩:=I.cell x c e;exact absurd (TU q.lt (by rw[z];exact hb)) (Vu _)
 . exact absurd (TU (TZ (I.pin p hp).1) (by rw[z];exact hb)) (Vu _)
structure HG (P:Program) (w:World) (K:PySem.W.Frag) (tg:Expr) (J:It) (fp:List Addr) (it:Addr) (tn:Nat->Heap->Prop):Prop where
 mem:it∈fp
 obj:∀i h,tn i h->∀b∈fp,∃o,h.get? b=some o/\∀v,o.data≠.cell v
 keep:∀i h h',tn i h->(∀b∈fp,∀o,h.get? b=some o->h'.get? b=some o)->tn i h'
 item:∀(X:Cx),X.prog=P->X.w=w->X.K=K->X.calm=true->∀(i:Nat)(gV:List (Addr×Obj))(s:Shared)(σ:St)(H:Hp)(E:Value->Shared->Prop),O7 X gV σ H s->(∀b∈fp,BN X gV H b)->tn i s.heap->J.go i H ->
  wpAny (model P w) X.A (pyNext (.ref it)) (λr s1=>∃u,r=some u /\
   wpAny (model P w) X.A (letOwnedTupleGo tg (.ref it) u) (λ_ s2=>∃x H',O7 X gV σ H' s2/\cB x u/\J.yld i H x H'/\tn (i+1) s2.heap/\∀b∈fp,H' b=none) E s1) E s
 done:∀(X:Cx),X.prog=P->X.w=w->X.K=K->X.calm=true->∀(i:Nat)(gV:List (Addr×Obj))(s:Shared)(σ:St)(H:Hp)(E:Value->Shared->Prop),O7 X gV σ H s->(∀b∈fp,BN X gV H b)->tn i s.heap->J.stop i H ->
  wpAny (model P w) X.A (pyNext (.ref it)) (λr s1=>r=none/\O7 X gV σ H s1) E s
 self:∀(A:Around)(i:Nat)(s:Shared)(Q:Value->Shared->Prop)(E:Value->Shared->Prop),tn i s.heap->Q (.ref it) s->wpAny (model P w) A (pyIter (.ref it)) Q E s
noncomputable abbrev TI:=St->Hp->(It->Hp->Prop)->Prop
def Pg(X:Cx)(gV:List (Addr×Obj))(σ:St)(tg:Expr)(R:It->Hp->Prop)(itv:Value)(s2:Shared):Prop :=
 ∃(it:Addr)(fp:List Addr)(tn:Nat->Heap->Prop)(J:It)(H':Hp),itv=.ref it/\O7 X gV σ H' s2/\HG X.prog X.w X.K tg J fp it tn/\tn 0 s2.heap/\(∀b∈fp,BN X gV H' b)/\R J H'
def PI(X:Cx)(tg iter:Expr)(wi:TI):Prop :=
 ∀(gV:List (Addr×Obj))(s:Shared)(σ:St)(H:Hp)(R:It->Hp->Prop),O7 X gV σ H s->wi σ H R ->
  wpAny (model X.prog X.w) X.A (eval iter X.env) (λv s1=>wpAny (model X.prog X.w) X.A (pyIter v) (Pg X gV σ tg R) X.xe s1) X.xe s
theorem HH {M : Model} {A : Around} {E : Value → Shared → Prop} {s : Shared} {tg : Expr} {it : Addr} {u : Value} {o : Obj} {n : String} {vs : Array Value} {Q : Unit → Shared → Prop} (ho : s.heap.get? it = some o) (hc : o.cls = .type n) (hd : o.data = .fields vs)
    (hn : ["enumerate", "zip", "dict_itemiterator", "dict_reverseitemiterator", "odict_iterator", "itertools.zip_longest", "itertools.pairwise"].contains n = false) (hQ : Q () s) : wpAny M A (letOwnedTupleGo tg (.ref it) u) Q E s := by
  unfold letOwnedTupleGo
  cases tg<;>first
    |exact Ub hQ
    | (cases u<;>first
        |exact Ub hQ
        | (refine tu (wpAny_load ho ?_)
           rw[hc, hd]
           show wpAny M A (if(["enumerate", "zip", "dict_itemiterator", "dict_reverseitemiterator", "odict_iterator", "itertools.zip_longest", "itertools.pairwise"].contains n && vs[0]? == some (rawInt _)) = true then _ else _) Q E s
           rw[if_neg (by intro h;rw[hn, VR]at h;cases h)]
           exact Ub hQ))
noncomputable def Ph(K:PySem.W.Frag)(a:Addr):It :=
 ⟨λi H=>∃xs x,Pc K H a xs/\xs[i]?=some x,λi H x H'=>H'=H/\∀xs,Pc K H a xs->xs[i]?=some x,λi H=>∃xs,Pc K H a xs/\xs.length<=i⟩
noncomputable def Pi(K:PySem.W.Frag)(a:Addr):It :=
 ⟨λi H=>∃xs x,Pd K H a xs/\xs[i]?=some x,λi H x H'=>H'=H/\∀xs,Pd K H a xs->xs[i]?=some x,λi H=>∃xs,Pd K H a xs/\xs.length<=i⟩
noncomputable def Pj(lo:Int)(n:Nat):It:=⟨λi _=>i<n,λi H x H'=>H'=H/\x=.int (lo+i),λi _=>n<=i⟩
theorem BO{P:Program}{w:World}{K:PySem.W.Frag}{tg:Expr}(a it:Addr):HG P w K tg (Ph K a) [it] it (λi h=>h.IsListIter it a i) where
 mem:=by simp
 obj:=λi h st b hb=>by
  have e:b=it:=by simpa using hb
  subst e;obtain⟨o,e,c,d⟩:=st;exact⟨o,e,λv z=>by rw[d]at z;cases z⟩
 keep:=λi h h' st k=>st.at λo e=>k it v6 o e
 item:=by intro X hP hw hK hc i gV s σ H E I hf st hg;subst hP hw hK;obtain⟨xs,x,hq,hx⟩:=hg;obtain⟨its,rv,p,hz⟩:=I.list hq;obtain⟨u,hu,ru⟩:=rv.get hx;obtain⟨f0,f1,f2,f3,f4,f5⟩:=hf it v6;refine wpAny_pyNext_list_item st p.isList (x:=u) (by simpa using hu) λh' st' sb=>?_;have I1:O7 X gV σ H {s with heap:=h' }:=I.turned (t':=s.toks) (λb o hb e=>(sb.2 b hb).trans e) f0 f1 f3 f4 f5;obtain⟨o,e,c,d⟩:=id st';exact⟨u,rfl,HH (s:={s with heap:=h' }) e c d x_ ⟨x,H,I1,ru,⟨rfl,λys hy=>by rw[I.list_inj hy hq];exact hx⟩,st',λb hb=>(hf b hb).1⟩⟩
 done:=by intro X hP hw hK hc i gV s σ H E I hf st hg;subst hP hw hK;obtain⟨xs,hq,hx⟩:=hg;obtain⟨its,rv,p,hz⟩:=I.list hq;obtain⟨f0,f1,f2,f3,f4,f5⟩:=hf it v6;have hl:=rv.length;exact wpAny_pyNext_list_end (I.ok.hd hc) st p.isList (by simp;omega) λh' eb=>⟨rfl,I.turned (t':=s.toks) (λb o hb e=>eb b o hb e) f0 f1 f3 f4 f5⟩
 self:=λ_ _ _ _ _ st h=>wpAny_pyIter_listiter st h
theorem AI{P:Program}{w:World}{K:PySem.W.Frag}{tg:Expr}(a it:Addr):HG P w K tg (Pi K a) [it] it (λi h=>h.IsTupleIter it a i) where
 mem:=by simp
 obj:=λi h st b hb=>by
  have e:b=it:=by simpa using hb
  subst e;obtain⟨o,e,c,d⟩:=st;exact⟨o,e,λv z=>by rw[d]at z;cases z⟩
 keep:=λi h h' st k=>st.at λo e=>k it v6 o e
 item:=by intro X hP hw hK hc i gV s σ H E I hf st hg;subst hP hw hK;obtain⟨xs,x,hq,hx⟩:=hg;obtain⟨its,rv,p,hz⟩:=I.tuple hq;obtain⟨u,hu,ru⟩:=rv.get hx;obtain⟨f0,f1,f2,f3,f4,f5⟩:=hf it v6;refine wpAny_pyNext_tuple_item st (show s.heap.IsTuple a its.toArray from p) (x:=u) (by simpa using hu) λh' st' sb=>?_;have I1:O7 X gV σ H {s with heap:=h' }:=I.turned (t':=s.toks) (λb o hb e=>(sb.2 b hb).trans e) f0 f1 f3 f4 f5;obtain⟨o,e,c,d⟩:=id st';exact⟨u,rfl,HH (s:={s with heap:=h' }) e c d x_ ⟨x,H,I1,ru,⟨rfl,λys hy=>by rw[I.tuple_inj hy hq];exact hx⟩,st',λb hb=>(hf b hb).1⟩⟩
 done:=by intro X hP hw hK hc i gV s σ H E I hf st hg;subst hP hw hK;obtain⟨xs,hq,hx⟩:=hg;obtain⟨its,rv,p,hz⟩:=I.tuple hq;obtain⟨f0,f1,f2,f3,f4,f5⟩:=hf it v6;have hl:=rv.length;exact wpAny_pyNext_tuple_end (I.ok.hd hc) st (show s.heap.IsTuple a its.toArray from p) (by simp;omega) λh' eb=>⟨rfl,I.turned (t':=s.toks) (λb o hb e=>eb b o hb e) f0 f1 f3 f4 f5⟩
 self:=λ_ _ _ _ _ st h=>wpAny_pyIter_tupleiter st h
theorem AJ{P:Program}{w:World}{K:PySem.W.Frag}{tg:Expr}(it:Addr)(lo:Int)(n:Nat):HG P w K tg (Pj lo n) [it] it (λi h=>IsRangeIter h it (lo+(i:Nat)*1) ((n:Int)-(i:Nat)) 1) where
 mem:=by simp
 obj:=λi h st b hb=>by
  have e:b=it:=by simpa using hb
  subst e
  exact⟨_,st,λv z=>by
   have z':Data.fields _=Data.cell v:=z
   cases z'⟩
 keep:=λi h h' st k=>k it v6 _ st
 item:=by intro X hP hw hK hc i gV s σ H E I hf st hg;subst hP hw hK;obtain⟨f0,f1,f2,f3,f4,f5⟩:=hf it v6;have W:=Walks.range (prog:=X.prog) (w:=X.w) (I.ok.hd hc) it lo 1 n;refine W.item i s _ _ hg st λv h' tk hv st' kk=>?_;obtain⟨t,rfl⟩:=hv;have I1:O7 X gV σ H {s with heap:=h',toks:=tk}:=I.turned (λb o hb e=>kk b o (by simpa using hb) e) f0 f1 f3 f4 f5;refine⟨_,rfl,HH (s:={s with heap:=h',toks:=tk}) (n:="range_iterator") st' rfl rfl x_ ⟨.int (lo+i),H,I1,⟨t,?_⟩,⟨rfl,rfl⟩,st',λb hb=>(hf b hb).1⟩⟩;rw[Int.mul_one]
 done:=by intro X hP hw hK hc i gV s σ H E I hf st hg;subst hP hw hK;obtain⟨f0,f1,f2,f3,f4,f5⟩:=hf it v6;exact wpAny_pyNext_range_end (I.ok.hd hc) st (by have:n<=i:=hg;omega) λh' eb=>⟨rfl,I.turned (t':=s.toks) (λb o hb e=>eb b o hb e) f0 f1 f3 f4 f5⟩
 self:=λ_ _ _ _ _ st h=>wpAny_pyIter_rangeiter st h
section
variable{X:Cx}{tg:Expr}
theorem zz{gV:List (Addr×Obj)}{σ:St}{H:Hp}{s:Shared}{R:It->Hp->Prop}{E:Value->Shared->Prop}{lo hi:Int}{t u v:Tok}{tk:Nat}(I:O7 X gV σ H s)(h1 : -(2^62)<=lo)(h2:lo<2^62)(h3 : -(2^62)<=hi)(h4:hi<2^62)
  (q:R (Pj lo (hi-lo).toNat) H):wpAny (model X.prog X.w) X.A (pyIter (.ref s.heap.objs.size)) (Pg X gV σ tg R) E {s with heap:=s.heap.push {cls:=.type "range",data:=.fields #[.int lo t,.int hi u,.int 1 v] },toks:=tk}:=by
 refine wpAny_pyIter_range (IsRange.new ..) (small_one h1 h2 h3 h4) ?_;have I1:O7 X gV σ H {s with heap:=s.heap.push {cls:=.type "range",data:=.fields #[.int lo t,.int hi u,.int 1 v] },toks:=tk}:=I.kept λb o e=>TN _ e
 refine⟨(s.heap.push {cls:=.type "range",data:=.fields #[.int lo t,.int hi u,.int 1 v] }).objs.size,[(s.heap.push {cls:=.type "range",data:=.fields #[.int lo t,.int hi u,.int 1 v] }).objs.size],_,_,H,rfl,
  I1.kept (t':=tk) λb o e=>TN _ e,AJ _ lo (hi-lo).toNat,?_,λb hb=>?_,q⟩
 .
  have e1:lo+((0:Nat):Int)*1=lo:=by simp
  have e2:(((hi-lo).toNat:Nat):Int)-((0:Nat):Int)=Builtin.Range.rangeSize lo hi 1:=by rw[rangeSize_one];split<;>omega
  show IsRangeIter _ _ (lo+((0:Nat):Int)*1) ((((hi-lo).toNat:Nat):Int)-((0:Nat):Int)) 1;rw[e1,e2];exact Up _ rfl
 .
  have e:b=(s.heap.push {cls:=.type "range",data:=.fields #[.int lo t,.int hi u,.int 1 v] }).objs.size:=by simpa using hb
  subst e;exact I1.fpOk (Ud _) (I1.hok.fresh (Ud _))
noncomputable def MS(ta:TA):TI:=λσ H R=>ta σ H λvs H1=>∃j:Int,vs=[.int j]/\-(2^62)<=j/\j<2^62/\R (Pj 0 j.toNat) H1
noncomputable def MT(ta:TA):TI:=λσ H R=>ta σ H λvs H1=>∃i j:Int,vs=[.int i,.int j]/\(-(2^62)<=i/\i<2^62/\-(2^62)<=j/\j<2^62)/\R (Pj i (j-i).toNat) H1
theorem BP{a:Expr}{ta:TA}{p pos:Pos} (hg:Gl X "range") (hm:X.mg "range"=none) (ha:PA X [a] ta) (hs:starEach [a] X.env=[(false,eval a X.env)]:=by rfl):PI X tg (.Call (.Name "range" p) [a] [] pos) (MS ta):=by
 intro gV s σ H R I h;refine Call_ (ly I hg hm boot_range (Vt (O9 (ha pos gV s σ H _ I h) λus s1 ⟨vs,H1,I1,r1,q1⟩=>?_) hs rfl));obtain⟨j,e,q1,q2,q⟩:=q1;subst e
 cases r1 with
 | cons r rr =>
  cases rr;obtain⟨t,rfl⟩:=r;exact call_range_1 (zz I1 xL xL q1 q2 (by simpa using q))
theorem BQ{a b:Expr}{ta:TA}{p pos:Pos} (hg:Gl X "range") (hm:X.mg "range"=none) (ha:PA X [a,b] ta) (hs:starEach [a,b] X.env=[(false,eval a X.env),(false,eval b X.env)]:=by rfl) (hs2:starEach [b] X.env=[(false,eval b X.env)]:=by rfl) :
  PI X tg (.Call (.Name "range" p) [a,b] [] pos) (MT ta):=by
 intro gV s σ H R I h;refine Call_ (ly I hg hm boot_range (Vt (O9 (ha pos gV s σ H _ I h) λus s1 ⟨vs,H1,I1,r1,q1⟩=>?_) (by rw[hs,hs2]) (by rw[hs2];rfl)));obtain⟨i,j,e,⟨q1,q2,q3,q4⟩,q⟩:=q1;subst e
 cases r1 with
 | cons r rr =>
  cases rr with
  | cons r' rr =>
   cases rr;obtain⟨t,rfl⟩:=r;obtain⟨t',rfl⟩:=r';exact call_range_2 (zz I1 q1 q2 q3 q4 q)
noncomputable def vT(fp:List Addr)(h:Heap):List (Addr×Obj):=fp.filterMap λb=>(h.get? b).map λo=>(b,o)
theorem kQ{fp:List Addr}{h:Heap}{b:Addr}{o:Obj}(hb:b∈fp)(e:h.get? b=some o):(b,o)∈vT fp h:=VP.mpr ⟨b,hb,by rw[e];rfl⟩
theorem BR{fp:List Addr}{h:Heap}{p:Addr×Obj}(hp:p∈vT fp h):p.1∈fp/\h.get? p.1=some p.2:=by
 obtain⟨b,hb,e⟩:=VP.mp hp
 cases q:h.get? b with
 |none=>rw[q]at e;cases e
 | some o =>
  rw[q]at e;have e':(b,o)=p:=Uq e;subst e';exact⟨hb,q⟩
theorem O7.pinned{gV:List (Addr×Obj)}{σ:St}{H:Hp}{s:Shared}{fp:List Addr}(I:O7 X gV σ H s)(hf:∀b∈fp,BN X gV H b)(ho:∀b∈fp,∃o,s.heap.get? b=some o/\∀v,o.data≠.cell v):O7 X (gV++vT fp s.heap) σ H s :=
 I.pins_of λp hp=>(Uw.mp hp).elim (λz=>I.pin p (Um _ z)) λz=>by obtain⟨hb,e⟩:=BR z;obtain⟨f0,f1,f2,_⟩:=hf p.1 hb;obtain⟨o,e',d⟩:=ho p.1 hb;rw[e]at e';cases e';exact⟨e,f0,f1,f2,d⟩
theorem O7.unpinned{gV pl:List (Addr×Obj)}{σ:St}{H:Hp}{s:Shared}(I:O7 X (gV++pl) σ H s):O7 X gV σ H s:=I.pins_of λp hp=>I.pin p (Um _ (Uj _ hp))
end
abbrev R2:=V->V->Hp->VK->Prop
def Pk(X:Cx)(f:Value->Value->Sem Value)(r:R2):Prop :=
 ∀(gV:List (Addr×Obj))(s:Shared)(σ:St)(H:Hp)(x y:V)(v u:Value)(Q:VK),O7 X gV σ H s->cB x v->cB y u->r x y H Q ->
  wpAny (model X.prog X.w) X.A (f v u) (EP X gV σ Q) X.xe s
def Pl(X:Cx)(f:Value->Sem Value)(r:V->Hp->VK->Prop):Prop :=
 ∀(gV:List (Addr×Obj))(s:Shared)(σ:St)(H:Hp)(x:V)(v:Value)(Q:VK),O7 X gV σ H s->cB x v->r x H Q ->
  wpAny (model X.prog X.w) X.A (f v) (EP X gV σ Q) X.xe s
def k9(X:Cx)(f:Value)(r:List V->Hp->VK->Prop):Prop :=
 ∀(gV:List (Addr×Obj))(s:Shared)(σ:St)(H:Hp)(xs:List V)(us:List Value)(Q:VK),O7 X gV σ H s->cn xs us->r xs H Q ->
  wpAny (model X.prog X.w) X.A (call f us) (EP X gV σ Q) X.xe s
def Pn(r:R2)(ta tb:TE):TE:=λσ H Q=>ta σ H λx H1=>tb σ H1 λy H2=>r x y H2 Q
def rI(C:Int->Int->Prop)(g:Int->Int->V):R2:=λx y H Q=>∃i j,x=.int i/\y=.int j/\C i j/\Q (g i j) H
def Po(g:Int->Int->V):R2:=λx y H Q=>∃i j,x=.int i/\y=.int j/\Q (g i j) H
def rU(g:Int->V):V->Hp->VK->Prop:=λx H Q=>∃i,x=.int i/\Q (g i) H
section
variable{X:Cx}{a b:Expr}{ta tb:TE}
theorem Ow(ha:PE X a ta)(hb:PE X b tb){gV:List (Addr×Obj)}{s:Shared}{σ:St}{H:Hp}{R:V->V->Hp->Prop}(I:O7 X gV σ H s)
  (h:ta σ H λx H1=>tb σ H1 λy H2=>R x y H2) {Q:Value->Shared->Prop} {f:Value->Value->Sem Value}
  (hf:∀v u s2 x y H2,O7 X gV σ H2 s2->cB x v->cB y u->R x y H2->wpAny (model X.prog X.w) X.A (f v u) Q X.xe s2) :
  wpAny (model X.prog X.w) X.A (eval a X.env) (λv s₁=>wpAny (model X.prog X.w) X.A (eval b X.env) (λu s₂=>wpAny (model X.prog X.w) X.A (f v u) Q X.xe s₂) X.xe s₁) X.xe s:=by
 refine O9 (ha gV s σ H _ I h) λv s1 ⟨x,H1,I1,r1,q1⟩=>?_;refine O9 (hb gV s1 σ H1 _ I1 q1) λu s2 ⟨y,H2,I2,r2,q2⟩=>?_;exact hf v u s2 x y H2 I2 r1 r2 q2
theorem Pp{f:Value->Value->Sem Value}{C:Int->Int->Prop}{g:Int->Int->Int}
  (rule:∀(i j:Int)(t u:Tok)(s:Shared)(Q:Value->Shared->Prop)(E:Value->Shared->Prop),C i j->Q (.int (g i j) s.toks) {s with toks:=s.toks+1}->wpAny (model X.prog X.w) X.A (f (.int i t) (.int j u)) Q E s) :
  Pk X f (rI C λi j=>.int (g i j)):=by
 intro gV s σ H x y v u Q I rx ry h;obtain⟨i,j,rfl,rfl,hc,q⟩:=h;obtain⟨t,rfl⟩:=rx;obtain⟨t',rfl⟩:=ry;exact rule i j t t' s _ _ hc ⟨.int (g i j),H,I.tok _,⟨_,rfl⟩,q⟩
theorem N1{f:Value->Value->Sem Value}{g:Int->Int->Int}
  (rule:∀(i j:Int)(t u:Tok)(s:Shared)(Q:Value->Shared->Prop)(E:Value->Shared->Prop),Q (.int (g i j) s.toks) {s with toks:=s.toks+1}->wpAny (model X.prog X.w) X.A (f (.int i t) (.int j u)) Q E s) :
  Pk X f (Po λi j=>.int (g i j)):=by
 intro gV s σ H x y v u Q I rx ry h;obtain⟨i,j,rfl,rfl,q⟩:=h;obtain⟨t,rfl⟩:=rx;obtain⟨t',rfl⟩:=ry;exact rule i j t t' s _ _ ⟨.int (g i j),H,I.tok _,⟨_,rfl⟩,q⟩
theorem ME{f:Value->Value->Sem Value}{g:Int->Int->Bool}
  (rule:∀(i j:Int)(t u:Tok)(s:Shared)(Q:Value->Shared->Prop)(E:Value->Shared->Prop),Q (.bool (g i j)) s->wpAny (model X.prog X.w) X.A (f (.int i t) (.int j u)) Q E s) :
  Pk X f (Po λi j=>.bl (g i j)):=by
 intro gV s σ H x y v u Q I rx ry h;obtain⟨i,j,rfl,rfl,q⟩:=h;obtain⟨t,rfl⟩:=rx;obtain⟨t',rfl⟩:=ry;exact rule i j t t' s _ _ ⟨.bl (g i j),H,I,rfl,q⟩
def Ox(i j:Int):Prop:=0<=j/\j<=1000000/\i.natAbs<2^64
def N2(i j:Int):Prop:=(-(2^64)<i/\i<2^64)∨(-(2^64)<j/\j<2^64)
theorem N2.ok{i j:Int}(h:N2 i j):IntMulOk i j:=by
 rcases h with⟨h1,h2⟩|⟨h1,h2⟩
 . exact .of_left (intBits_le_64 h1 h2)
 . exact .of_right (intBits_le_64 h1 h2)
theorem KA:Pk X (binaryOp .Add) (Po λi j=>.int (i+j)):=N1 λ_ _ _ _ _ _ _ q=>add_int q
theorem KB:Pk X (binaryOp .Sub) (Po λi j=>.int (i-j)):=N1 λ_ _ _ _ _ _ _ q=>sub_int q
theorem HI:Pk X (binaryOp .Mod) (rI (λ_ j=>j≠0) λi j=>.int (i.fmod j)):=Pp λ_ _ _ _ _ _ _ hc q=>mod_int' hc q
theorem KC:Pk X (binaryOp .Pow) (rI Ox λi j=>.int (i^j.toNat)):=Pp λ_ _ _ _ _ _ _ hc q=>pow_int_small hc.1 hc.2.1 hc.2.2 q
theorem Pq{f:Value->Sem Value}{g:Int->Int}
  (rule:∀(i:Int)(t:Tok)(s:Shared)(Q:Value->Shared->Prop)(E:Value->Shared->Prop),Q (.int (g i) s.toks) {s with toks:=s.toks+1}->wpAny (model X.prog X.w) X.A (f (.int i t)) Q E s) :
  Pl X f (rU λi=>.int (g i)):=by
 intro gV s σ H x v Q I rx h;obtain⟨i,rfl,q⟩:=h;obtain⟨t,rfl⟩:=rx;exact rule i t s _ _ ⟨.int (g i),H,I.tok _,⟨_,rfl⟩,q⟩
theorem KD:Pl X (unaryOp .USub) (rU λi=>.int (-i)):=Pq λ_ _ _ _ _ q=>neg_int q
end
section
variable{X:Cx}{a b c:Expr}{ta tb tc:TE}{pos:Pos}
theorem GY{gV:List (Addr×Obj)}{σ:St}{H:Hp}{s:Shared}{Q:VK}{k k':Bool}(I:O7 X gV σ H s)(q:Q (.bl k) H)(e:k=k'):EP X gV σ Q (.bool k') s:=by subst e;exact⟨.bl k,H,I,rfl,q⟩
theorem KF:Pk X (compareOp .Lt) (Po λi j=>.bl (decide (i<j))):=ME λ_ _ _ _ _ _ _ q=>lt_int q
theorem MU:Pk X (compareOp .LtE) (Po λi j=>.bl (decide (i<=j))):=ME λ_ _ _ _ _ _ _ q=>le_int q
theorem MV:Pk X (compareOp .Gt) (Po λi j=>.bl (decide (j<i))):=ME λ_ _ _ _ _ _ _ q=>gt_int q
theorem MW:Pk X (compareOp .GtE) (Po λi j=>.bl (decide (j<=i))):=ME λ_ _ _ _ _ _ _ q=>ge_int q
theorem KG:Pk X (compareOp .Is) (λx y H Q=>y=.non/\Q (.bl (decide (x=.non))) H):=by
 intro gV s σ H x y v u Q I rx ry h;obtain⟨rfl,q⟩:=h;cases ry;refine is_none_gen (GY I q ?_)
 cases x<;>first
  |(cases rx;rfl)
  |(obtain⟨t,rfl⟩:=rx;rfl)
theorem HJ:Pk X (compareOp .IsNot) (λx y H Q=>y=.non/\Q (.bl (!decide (x=.non))) H):=by
 intro gV s σ H x y v u Q I rx ry h;obtain⟨rfl,q⟩:=h;cases ry;refine isnot_none_gen (GY I q ?_)
 cases x<;>first
  |(cases rx;rfl)
  |(obtain⟨t,rfl⟩:=rx;rfl)
theorem a8(b:Expr){op:CmpOp}(h:op≠.In:=by decide)(h2:op≠.NotIn:=by decide):behindInMarks op b=false:=by
 have e1:(op == CmpOp.In)=false:=by cases op<;>first|rfl|exact absurd rfl h
 have e2:(op == CmpOp.NotIn)=false:=by cases op<;>first|rfl|exact absurd rfl h2
 cases b<;>simp[behindInMarks,e1,e2]
def GZ(r r':R2)(ta tb tc:TE):TE:=λσ H Q=>ta σ H λx H1=>tb σ H1 λy H2=>r x y H2 λz H3=>∃k,z=.bl k /\
 (if k=true then tc σ H3 λw' H4=>r' y w' H4 Q else Q (.bl false) H3)
theorem Ez{op op':CmpOp}{r r':R2}(ho:Pk X (compareOp op) r)(ho':Pk X (compareOp op') r')(ha:PE X a ta)(hb:PE X b tb)(hc:PE X c tc)
  (hm:lastMarks [op,op'] [b,c]=false:=by with_unfolding_all rfl):PE X (.Compare a [op,op'] [b,c] pos) (GZ r r' ta tb tc):=by
 intro gV s σ H Q I h
 refine Compare_chain (O9 (ha gV s σ H _ I h) λv s1 ⟨x,H1,I1,r1,q1⟩=>chain_link (O9 (hb gV s1 σ H1 _ I1 q1) λu s2 ⟨y,H2,I2,r2,q2⟩ =>
  O9 (ho gV s2 σ H2 x y v u _ I2 r1 r2 q2) λd s3 ⟨z,H3,I3,r3,k,e,q3⟩=>?_)) hm
 subst e;cases r3;refine Vd ?_
 cases k with
 |false=>exact ite_ff ⟨.bl false,H3,I3,rfl,q3⟩
 |true=>exact ite_tt (chain_last (O9 (hc gV s3 σ H3 _ I3 q3) λw' s4 ⟨z',H4,I4,r4,q4⟩=>ho' gV s4 σ H4 y z' u w' Q I4 r2 r4 q4))
theorem t9:(sizeLine:Nat)<2^63:=by rw[Wc];decide
theorem AK:Pk X (binaryOp .Add) (λx y H Q=>∃i j,x=.str i/\y=.str j/\i.length+j.length<=sizeLine/\Q (.str (i++j)) H):=by intro gV s σ H x y v u Q I rx ry h;obtain⟨i,j,rfl,rfl,hz,q⟩:=h;obtain⟨t,rfl⟩:=rx;obtain⟨t',rfl⟩:=ry;exact add_str (λt' tk=>⟨.str (i++j),H,I.tok _,⟨_,rfl⟩,q⟩) hz
theorem vU{x:V}{us:List Value}(r:cn [x] us):∃u,us=[u]/\cB x u:=by
 cases r with
 |cons r1 r2=>cases r2;exact⟨_,rfl,r1⟩
theorem EC{x y:V}{us:List Value}(r:cn [x,y] us):∃u w',us=[u,w']/\cB x u/\cB y w':=by
 cases r with
 | cons r1 r2 =>
  cases r2 with
  |cons r3 r4=>cases r4;exact⟨_,_,rfl,r1,r3⟩
theorem ED:k9 X (.builtin "abs") (λxs H Q=>∃ i,xs=[.int i]/\Q (.int (if i < 0 then -i else i)) H):=by
 intro gV s σ H xs us Q I r h;obtain⟨i,rfl,q⟩:=h;obtain⟨u,rfl,t,rfl⟩:=vU r
 exact call_abs_int λu tk=>⟨.int (if i<0 then -i else i),H,I.tok _,⟨_,rfl⟩,q⟩
theorem BS(hc:X.calm=true):k9 X (.builtin "max") (λxs H Q=>∃ i j,xs=[.int i,.int j]/\Q (.int (if j > i then j else i)) H):=by
 intro gV s σ H xs us Q I r h;obtain⟨i,j,rfl,q⟩:=h;obtain⟨u,w',rfl,⟨t,rfl⟩,⟨t',rfl⟩⟩:=EC r;refine max_two_ints (I.ok.hd hc) λh' tk k=>⟨_,H,I.kept k,?_,q⟩;by_cases hj:j > i
 . rw[if_pos hj,if_pos hj];exact⟨_,rfl⟩
 . rw[if_neg hj,if_neg hj];exact⟨_,rfl⟩
theorem BU(hc:X.calm=true):k9 X (.builtin "min") (λxs H Q=>∃ i j,xs=[.int i,.int j]/\Q (.int (if j < i then j else i)) H):=by
 intro gV s σ H xs us Q I r h;obtain⟨i,j,rfl,q⟩:=h;obtain⟨u,w',rfl,⟨t,rfl⟩,⟨t',rfl⟩⟩:=EC r;refine min_two_ints (I.ok.hd hc) λh' tk k=>⟨_,H,I.kept k,?_,q⟩;by_cases hj:j<i
 . rw[if_pos hj,if_pos hj];exact⟨_,rfl⟩
 . rw[if_neg hj,if_neg hj];exact⟨_,rfl⟩
theorem BV:k9 X (.type "int") (λxs H Q=>(∃ i,xs=[.int i]/\Q (.int i) H)∨∃ k,xs=[.bl k]/\Q (.int (if k then 1 else 0)) H):=by
 intro gV s σ H xs us Q I r h;rcases h with⟨i,rfl,q⟩|⟨k,rfl,q⟩
 . obtain⟨u,rfl,t,rfl⟩:=vU r;exact call_int_int ⟨.int i,H,I,⟨_,rfl⟩,q⟩
 .
  obtain⟨u,rfl,r1⟩:=vU r;cases r1
  exact call_int_bool ⟨.int (if k then 1 else 0),H,I.tok _,⟨_,rfl⟩,q⟩
end
structure gG (k:Nat) (A:Around):Prop where
 hd:A.handled=none
 dp:A.depth+3*k+5<recursionLimit
 un:A.units+16*k+200<cLine
 gd:A.guards=some []
theorem gG.mono{j k:Nat}{A:Around}(r:gG k A)(h:j<=k):gG j A:=⟨r.hd,by have:=r.dp;omega,by have:=r.un;omega,r.gd⟩
theorem gG.deeper{k:Nat}{A:Around}(r:gG (k+1) A)(env:Env):gG k (A.deeper env) :=
 ⟨r.hd,by have:=r.dp;show A.depth+1+3*k+5<_;omega,by have:=r.un;show A.units+3+16*k+200<_;omega,r.gd⟩
theorem gG.in1{k:Nat}{A:Around}(r:gG (k+1) A):gG k A.in1 :=
 ⟨r.hd,by have:=r.dp;show A.depth+3*k+5<_;omega,by have:=r.un;show A.units+1+16*k+200<_;omega,r.gd⟩
theorem AL{A:Around}{C:Addr}{us:List Value}{kw:List (Str×Value)}:(A.under (.builtin "type.__call__" ⟨.ref C::us,kw⟩)).depth=A.depth+1:=by
 first|rfl|simp[Around.under,Code.weight,Code.isCreation,Code.isGuard,Code.isCaller,Code.frames,Code.isFrame,guardIds]
theorem AM{A:Around}{C:Addr}{us:List Value}{kw:List (Str×Value)}:(A.under (.builtin "type.__call__" ⟨.ref C::us,kw⟩)).units=A.units+1:=by
 first|rfl|simp[Around.under,Code.cUnits,Code.frames,Code.isFrame]
theorem gG.make{k:Nat}{A:Around}(r:gG (k+1) A)(C:Addr)(us:List Value)(kw:List (Str×Value)):gG k (A.under (.builtin "type.__call__" ⟨.ref C::us,kw⟩)) :=
 ⟨r.hd,by have:=r.dp;rw[AL];omega,by have:=r.un;rw[AM];omega,by rw[<- r.gd];first|rfl|simp[Around.under,Code.guards,Code.isGuard,pushGuards,guardIds]⟩
theorem gG.depth{k:Nat}{A:Around}(r:gG k A):A.depth<recursionLimit:=by have:=r.dp;omega
theorem gG.units{k:Nat}{A:Around}(r:gG k A):A.units+64<cLine:=by have:=r.un;omega
noncomputable def MX:TA:=λ_ H Q=>Q [] H
noncomputable def BW(ta:TE)(tr:TA):TA:=λσ H Q=>ta σ H λx H1=>tr σ H1 λxs H2=>Q (x::xs) H2
section
variable{X:Cx}{e:Expr}{es:List Expr}{te:TE}{t:TA}{pos:Pos}
theorem ng:PA X [] MX:=λ_ _ _ _ H Q I h=>Calls.spliced_nil ⟨[],H,I,.nil,h⟩
theorem dG(ha:PE X e te)(hr:PA X es t)(hs:starEach (e::es) X.env=(false,eval e X.env)::starEach es X.env:=by rfl):PA X (e::es) (BW te t):=by intro pos gV s σ H Q I h;rw[hs];show wpAny _ _ (spliced ((false,eval e X.env)::backTo pos (starEach es X.env))) _ _ s;refine Calls.spliced_cons (O9 (ha gV s σ H _ I h) λu s1 ⟨x,H1,I1,r1,q1⟩=>?_);exact O9 (hr pos gV s1 σ H1 _ I1 q1) λus s2 ⟨xs,H2,I2,r2,q2⟩=>⟨x::xs,H2,I2,.cons r1 r2,q2⟩
end
noncomputable abbrev Sp:=List V->Hp->VK->XK->Prop
noncomputable abbrev Pu:=List Env->Hp->Shared->XK->Value->Shared->Prop
structure AN (P:Program) (w:World) (K:PySem.W.Frag) (mg:Str->Option Value) (base:Heap) (A:Around) (outer:List Env) (s:Shared) (H:Hp):Prop where
 frames:A.frames=some outer
 mod:Mod K mg base
 bs:∀b o,base.get? b=some o->s.heap.get? b=some o/\H b=none
 bsz:base.objs.size<=s.heap.objs.size
 funs:s.heap.FunFrames base outer
 frf:∀b∈O4 outer,H b=none
 hok:O0 P w H s.heap
 bare:AllBare s.gens
 tbs:O3 K H
def CE(outer:List Env)(P:Program)(w:World)(H:Hp)(s:Shared)(Q:VK)(u:Value)(s':Shared):Prop :=
 ∃v H',s'.os=s.os/\AllBare s'.gens/\Un (O4 outer) [] H H' s.heap s'.heap/\O0 P w H' s'.heap/\cB v u/\Q v H'
def CR(CX:Pu)(outer:List Env)(P:Program)(w:World)(H:Hp)(s:Shared)(Q:VK)(E:XK)(r:Result)(s':Shared):Prop :=
 match r with
 |.ok (.ret u)=>CE outer P w H s Q u s'
 |.ok _=>False
 |.error e=>CX outer H s E e s'
structure FnOk (P:Program) (w:World) (K:PySem.W.Frag) (mg:Str->Option Value) (base:Heap) (CX:Pu) (k:Nat) (f:Addr) (fd:FuncData) (ps:List Str) (sp:Sp):Prop where
 len:∀vs H Q E,sp vs H Q E->vs.length=ps.length
 run:∀(A:Around)(outer:List Env)(s:Shared)(H:Hp)(args:Args)(us:List Value)(vs:List V)(Q:VK)(E:XK),gG k A->AN P w K mg base A outer s H->BindsTo s fd args (ps.zip us)->cn vs us->sp vs H Q E ->
  codeAny (model P w) A (.call (.ref f) args) (CR CX outer P w H s Q E) s
theorem FnOk.mono{P:Program}{w:World}{K:PySem.W.Frag}{mg:Str->Option Value}{base:Heap}{CX:Pu}{j k:Nat}{f:Addr}{fd:FuncData}{ps:List Str}{sp:Sp}(F:FnOk P w K mg base CX j f fd ps sp)(h:j<=k) :
  FnOk P w K mg base CX k f fd ps sp:=⟨F.len,λA outer s H args us vs Q E hr=>F.run A outer s H args us vs Q E (hr.mono h)⟩
theorem AN.make{P:Program}{w:World}{K:PySem.W.Frag}{mg:Str->Option Value}{base:Heap}{A:Around}{outer:List Env}{s:Shared}{H:Hp}(e:AN P w K mg base A outer s H)(C:Addr)(us:List Value)(kw:List (Str×Value)) :
  AN P w K mg base (A.under (.builtin "type.__call__" ⟨.ref C::us,kw⟩)) outer s H:=⟨by first | exact e.frames | (simpa[Around.under,Code.envs,Code.isFrame,pushEnvs]using e.frames),e.mod,e.bs,e.bsz,e.funs,e.frf,e.hok,e.bare,e.tbs⟩
theorem AN.in1{P:Program}{w:World}{K:PySem.W.Frag}{mg:Str->Option Value}{base:Heap}{A:Around}{outer:List Env}{s:Shared}{H:Hp}(e:AN P w K mg base A outer s H) :
  AN P w K mg base A.in1 outer s H:=⟨e.frames,e.mod,e.bs,e.bsz,e.funs,e.frf,e.hok,e.bare,e.tbs⟩
section
variable{X:Cx}{gV:List (Addr×Obj)}{σ:St}{H:Hp}{s s':Shared}
theorem O7.env0(I:O7 X gV σ H s):AN X.prog X.w X.K X.mg X.base X.A X.stack s H :=
 ⟨I.ok.frames,I.ok.mod,I.bs,T9 I.ok.bsz I.sz,I.stack,I.stkFree,I.hok,I.bare,I.tbs⟩
theorem O7.after{Q:VK}{u:Value}(I:O7 X gV σ H s)(h:CE X.stack X.prog X.w H s Q u s'):EP X gV σ Q u s':=by obtain⟨v,H',os,bare,un,hok,r,q⟩:=h;obtain⟨hh,g,d,t,os'⟩:=s';obtain rfl:os'=s.os:=os;exact⟨v,H',I.call (h':=hh) (g':=g) (d':=d) (t':=t) (ch:=[]) un hok bare (λb z=>absurd z v6),r,q⟩
end
def oI(K:PySem.W.Frag)(fd:FuncData)(ps:List Str)(ds:List Value):Prop :=
 ∀(s:Shared)(us:List Value),K.In s.heap->(us++ds).length=ps.length->BindsTo s fd ⟨us,[]⟩ (ps.zip (us++ds))
theorem oI.all{K:PySem.W.Frag}{fd:FuncData}{ps:List Str}(h:∀us:List Value,us.length=ps.length->bindArgs fd ⟨us,[]⟩=pure (ps.zip us)):oI K fd ps []:=λs us _ hl=>by rw[US]at hl ⊢;exact .of_eq (h us hl)
def zA(CX:Pu)(X:Cx)(E:XK):Prop:=∀(gV:List (Addr×Obj))(σ:St)(H:Hp)(s:Shared)(e:Value)(s':Shared),O7 X gV σ H s->CX X.stack H s E e s'->X.xe e s'
section
variable{X:Cx}{CX:Pu}{k:Nat}{f:Addr}{fd:FuncData}{ps:List Str}{sp:Sp}{dvs:List V}{ds:List Value}{E:XK}{e:Expr}
theorem BX{gV:List (Addr×Obj)}{σ:St}{H:Hp}{s:Shared}{Q:VK}{us:List Value}{vs:List V}(F:FnOk X.prog X.w X.K X.mg X.base CX k f fd ps sp)(hr:gG k X.A)(hb:oI X.K fd ps ds)(hd:cn dvs ds)(hx:zA CX X E)
  (I:O7 X gV σ H s) (r:cn vs us) (h:sp (vs++dvs) H Q E):wpAny (model X.prog X.w) X.A (call (.ref f) us) (EP X gV σ Q) X.xe s:=by
 have r2:cn (vs++dvs) (us++ds):=r.append hd;have hl:(us++ds).length=ps.length:=by rw[<- r2.length];exact F.len _ _ _ _ h
 refine Wi (codeAny_mono (F.run X.A X.stack s H ⟨us,[]⟩ (us++ds) (vs++dvs) Q E hr I.env0 (hb s us I.kIn hl) r2 h) λr s' hq=>?_)
 cases r with
 |error e=>exact hx gV σ H s e s' I hq
 | ok fl =>
  cases fl with
  |ret u=>exact I.after hq
  |next=>exact False.elim hq
  |brk=>exact False.elim hq
  |cont=>exact False.elim hq
end
structure aC (N P:List Str) (sc:Scope):Prop where
 kind:sc.kind=.function
 co:sc.isCoroutine=false
 gen:sc.isGenerator=false
 nd:N.Nodup
 pre:N.take P.length=P
 par:∀x∈P,sc.names.lookup x=some .local∨sc.names.lookup x=some .cell
 nofree:∀y∈sc.names,y.2≠.free
theorem vV{kindOf:Str->Option NameKind}{x:Str}:∀{binds:List (Str×Value)}{m:Str->Option Value},(∀v,(x,v)∉binds)->bindL kindOf binds m x=m x
 |[],_,_=>rfl
 | (n,v)::r,m,h=>by
  unfold bindL;rw[vV λw hw=>h w (TL _ hw)];split
  .
   have:x≠n:=by rintro rfl;exact h v TQ
   simp[this]
  . rfl
theorem vW{kindOf:Str->Option NameKind}{x:Str}:∀{binds:List (Str×Value)}{m:Str->Option Value},(∀v,(x,v)∉binds)->bindC kindOf binds m x=m x
 |[],_,_=>rfl
 | (n,v)::r,m,h=>by
  unfold bindC;rw[vW λw hw=>h w (TL _ hw)];split
  . rfl
  .
   have:x≠n:=by rintro rfl;exact h v TQ
   simp[this]
theorem vX{kindOf:Str->Option NameKind}{x:Str}{v:Value}:∀{P:List Str}{vs:List Value}{i:Nat}{m:Str->Option Value},P.Nodup->P[i]?=some x->vs[i]?=some v->kindOf x=some .local ->
  bindL kindOf (P.zip vs) m x=some v
 |[],_,_,_,_,h,_,_=>by simp at h
 |_::_,[],_,_,_,_,h,_=>by simp at h
 | p::P,w::vs,0,m,nd,h1,h2,hk=>by simp at h1 h2;subst h1;subst h2;show bindL kindOf ((p,w)::P.zip vs) m p=_;unfold bindL;rw[vV λv hv=>(Uz.mp nd).1 (List.of_mem_zip hv).1,if_pos hk];simp
 | p::P,w::vs,i+1,m,nd,h1,h2,hk=>by show bindL kindOf ((p,w)::P.zip vs) m x=_;unfold bindL;exact vX (i:=i) (Uz.mp nd).2 (by simpa using h1) (by simpa using h2) hk
theorem vY{kindOf:Str->Option NameKind}{x:Str}{v:Value}:∀{P:List Str}{vs:List Value}{i:Nat}{m:Str->Option Value},P.Nodup->P[i]?=some x->vs[i]?=some v->kindOf x≠some .local ->
  bindC kindOf (P.zip vs) m x=some v
 |[],_,_,_,_,h,_,_=>by simp at h
 |_::_,[],_,_,_,_,h,_=>by simp at h
 | p::P,w::vs,0,m,nd,h1,h2,hk=>by simp at h1 h2;subst h1;subst h2;show bindC kindOf ((p,w)::P.zip vs) m p=_;unfold bindC;rw[vW λv hv=>(Uz.mp nd).1 (List.of_mem_zip hv).1,if_neg hk];simp
 | p::P,w::vs,i+1,m,nd,h1,h2,hk=>by show bindC kindOf ((p,w)::P.zip vs) m x=_;unfold bindC;exact vY (i:=i) (Uz.mp nd).2 (by simpa using h1) (by simpa using h2) hk
noncomputable def oJ(N:List Str)(vs:List V):St:=vs.map some++List.replicate (N.length-vs.length) none
noncomputable def Em(CX:Pu)(P:Program)(w:World)(K:PySem.W.Frag)(mg:Str->Option Value)(base:Heap)(N:List Str)(qual:Str)(scope:Scope)(f:Addr)(cd:Value)(A:Around)(outer:List Env)(s:Shared)(H:Hp)(E:XK):Cx where
 prog:=P
 w:=w
 K:=K
 mg:=mg
 base:=base
 A:=A.deeper (envOfC qual scope s.heap.objs.size f cd)
 N:=N
 s₀:=s
 H₀:=H
 env:=envOfC qual scope s.heap.objs.size f cd
 outer:=outer
 stack:=envOfC qual scope s.heap.objs.size f cd::outer
 ex:=[]
 calm:=true
 fn:=λ_=>true
 pn:=[]
 xe:=λe s'=>wpAny (model P w) (A.deeper (envOfC qual scope s.heap.objs.size f cd)) (leaving (envOfC qual scope s.heap.objs.size f cd) e) (λ_ s''=>CX outer H s E e s'') (λe' s''=>CX outer H s E e' s'') s'
theorem zB{sc:Scope}{n:Nat}{x:Str}(h:sc.names.lookup x=some .cell):∃c,(cellsFrom n sc.names []).lookup x=some c:=by have q:=PySem.W.cellsFrom_some sc.names n [] (.inl h);exact Option.isSome_iff_exists.mp q
theorem BY{CX:Pu}{P:Program}{w:World}{K:PySem.W.Frag}{mg:Str->Option Value}{base:Heap}{N ps:List Str}{qual:Str}{scope:Scope}{f:Addr}{cd:Value}{A:Around}{outer:List Env}{s s1:Shared}{H:Hp}{E:XK}{us:List Value}{vs:List V}
  (S:aC N ps scope) (hd:A.handled=none) (e0:AN P w K mg base A outer s H) (hl:vs.length=ps.length) (r:cn vs us)
  (x:InCallC s s.heap.objs.size (bindL (envOfC qual scope s.heap.objs.size f cd).kindOf (ps.zip us) λ_=>none) (cellsFrom (s.heap.objs.size+1) scope.names []) (bindC (envOfC qual scope s.heap.objs.size f cd).kindOf (ps.zip us) λ_=>none) s1) :
  O7 (Em CX P w K mg base N qual scope f cd A outer s H E) [] (oJ N vs) H s1:=by
 have hpl:ps.length<=N.length:=by have:=congrArg List.length S.pre;rw[Va]at this;omega
 obtain⟨h1,tk,rfl,hk⟩:=x.done;have noA:∀b:Addr,b∉(Em CX P w K mg base N qual scope f cd A outer s H E).ex:=λb z=>absurd (show b∈([]:List Addr)from z) v6
 refine⟨⟨e0.mod,S.kind,rfl,rfl,Ud _,λy z c h1 h2=>?_,λy hy=>?_,λy c _ h=>?_,λ_=>hd,Around.frames_deeper e0.frames,.inr ⟨rfl,rfl⟩,λb z=>absurd z (noA b),e0.bs,e0.bsz,λb _ _=>noA b,λb z=>absurd z (noA b),e0.funs,e0.frf,e0.tbs⟩,
  rfl,e0.bare,Un.kept hk,⟨_,x.toInCall.ns,λi y v h1 h2 h3=>?_⟩,λy c h=>⟨_,x.cell y c h⟩,e0.hok.fresh (Ud _),λy c h=>?_,λp hp=>absurd (show p∈([]:List (Addr×Obj))from hp) v6,e0.hok.kept hk,?_⟩
 . exact name_of_addr x.apart (Vk h1) (Vk h2)
 .
  have hy:scope.names.lookup y=some .cell∨scope.names.lookup y=some .free:=hy;rcases hy with hy|hy
  . exact zB hy
  . exact absurd rfl (S.nofree _ (Vk hy))
 . exact We (x.above y c (Vk h))
 .
  have hi:i<vs.length:=by
   unfold oJ at h2;by_cases hi:i<vs.length
   . exact hi
   . rw[Uv (by simpa using hi)]at h2;rw[List.getElem?_replicate]at h2;split at h2<;>cases h2
  have ha:vs[i]?=some v:=by
   unfold oJ at h2;rw[UV (by simpa using hi),Ui]at h2
   cases e:vs[i]? with
   |none=>rw[e]at h2;cases h2
   |some a=>rw[e]at h2;cases h2;rfl
  obtain⟨u,hu,rv⟩:=r.get ha;have hp:ps[i]?=some y:=by rw[<- S.pre,List.getElem?_take_of_lt xL];exact h1
  have ndP:ps.Nodup:=by rw[<- S.pre];exact S.nd.sublist (List.take_sublist _ _)
  refine⟨u,rv,?_⟩;rcases S.par y (List.mem_of_getElem? hp)with k|k
  . exact .inl ⟨k,vX ndP hp hu k⟩
  . obtain⟨c,e⟩:=zB (n:=s.heap.objs.size+1) k;refine .inr ⟨.inl k,c,e,?_⟩;have q:=x.cell y c e;rw[vY ndP hp hu (by show scope.names.lookup y≠_;rw[k];decide)]at q;exact q
 . exact .inl (e0.hok.fresh (We (x.above y c (Vk h))))
 . unfold oJ;show _=N.length;rw[Us,TY,List.length_replicate];omega
theorem HK{CX:Pu}{P:Program}{w:World}{K:PySem.W.Frag}{mg:Str->Option Value}{base:Heap}{k:Nat}{f:Addr}{name qual:Str}{params:Arguments}{body:List Stmt}{scope:Scope}{dV kV doc pm cdv ct oc:Value}{an od:Option Addr}
  {osl:Array (Option Value)} {N ps:List Str} {sp:Sp} (lk:K.lookup f=some ⟨oc,od,.func (PySem.W.fnOf name qual params body scope dV kV doc pm an cdv ct),osl⟩) (hcd:PySem.W.codeIn K cdv qual=true) (S:aC N ps scope)
  (len:∀vs H Q E,sp vs H Q E->vs.length=ps.length)
  (hbody:∀(A:Around)(outer:List Env)(s:Shared)(H:Hp)(vs:List V)(Q:VK)(E:XK),gG k (A.deeper (envOfC qual scope s.heap.objs.size f cdv))->sp vs H Q E ->
   ∃t,O8 (Em CX P w K mg base N qual scope f cdv A outer s H E) body t/\t {nx:=λ_ H'=>Q .non H',rt:=Q} (oJ N vs) H) :
  FnOk P w K mg base CX (k+1) f (PySem.W.fnOf name qual params body scope dV kV doc pm an cdv ct) ps sp:=by
 refine⟨len,λA outer s H args us vs Q E hr e0 hb r hsp=>?_⟩;have hl:=len _ _ _ _ hsp;have KX:K.In s.heap:=e0.mod.kin.keeps λb o e=>(e0.bs b o e).1;have lim:s.heap.NoLimit:=e0.mod.nolimit.keeps λb o e=>(e0.bs b o e).1
 have hkind:∀y∈ps.zip us,scope.names.lookup y.1=some .local∨(scope.names.lookup y.1=some .cell/\((cellsFrom (s.heap.objs.size+1) scope.names []).lookup y.1).isSome=true):=fun⟨n,v⟩ hy=>by
  rcases S.par n (List.of_mem_zip hy).1 with q|q
  . exact .inl q
  . exact .inr ⟨q,PySem.W.cellsFrom_some _ _ _ (.inl q)⟩
 refine codeAny_call_function hr.depth (KX _ _ lk) rfl S.co S.gen rfl (PySem.W.codeRec_of KX hcd) (hb _ _ _ _ ?_);refine wpAny_newFunctionEnv_cells S.kind hkind λenv he s1 x=>?_;subst he;refine⟨lim.keeps x.toInCall.keep,codeAny_func ?_⟩;obtain⟨t,ht,hq⟩:=hbody A outer s H vs Q E (hr.deeper _) hsp;have I:O7 (Em CX P w K mg base N qual scope f cdv A outer s H E) [] (oJ N vs) H s1:=BY S hr.hd e0 hl r x;refine Vc (ht [] s1 (oJ N vs) H _ I hq) (λfl s' hs=>?_) λe s' hs=>hs
 have Pb:∀{σ':St}{H':Hp}{v:V}{u:Value},O7 (Em CX P w K mg base N qual scope f cdv A outer s H E) [] σ' H' s'->cB v u->Q v H'->CE outer P w H s Q u s' :=
  λ{σ' H' v u} J rv q=>⟨v,H',J.os,J.bare,J.base,J.hok,rv,q⟩
 cases fl with
 | ret u =>
  obtain⟨v,σ',H',J,rv,q⟩:=hs;exact Pb J rv q
 | next =>
  obtain⟨σ',H',J,q⟩:=hs;exact Pb (v:=V.non) (u:=Value.none) J rfl q
 | brk =>
  obtain⟨_,_,_,q⟩:=hs;exact False.elim q
 | cont =>
  obtain⟨_,_,_,q⟩:=hs;exact False.elim q
section
variable{X:Cx}{x:Str}{p pos:Pos}{e:Expr}{es:List Expr}{t:TA}{id:String}{r:List V->Hp->VK->Prop}
def Pv(r:List V->Hp->VK->Prop)(t:TA):TE:=λσ H Q=>t σ H λvs H1=>r vs H1 Q
theorem zC(hc:k9 X (.builtin id) r)(hg:Gl X x)(hm:X.mg x=none)(hv:bootBuiltins x=some (.builtin id))(ha:PA X (e::es) t) (hn:x≠"__name__":=by decide) (hdb:(x == ("__debug__" : Str))=false:=by decide)
  (he:starEach (e::es) X.env=(false,eval e X.env)::starEach es X.env:=by rfl) (hpl:(backTo pos (starEach es X.env)).any (·.1)=false:=by rfl):PE X (.Call (.Name x p) (e::es) [] pos) (Pv r t):=by
 intro gV s σ H Q I h;refine Ve (ly I hg hm hv ?_ hn hdb);exact PyProof.Rows.callWith_builtin1 (O9 (ha pos gV s σ H _ I h) λus s1 ⟨vs,H1,I1,r1,q1⟩=>hc gV s1 σ H1 vs us Q I1 r1 q1) he hpl
end
end L2
namespace HT
open PySem PyProof.Rows
section
variable{prog:Program}{w:World}{A:Around}{E:Value->Shared->Prop}{s:Shared}
noncomputable def sIx(n d:Nat):Option Int->Nat
 |none=>d
 |some v=>if v<0 then(v+(n:Int)).toNat else min v.toNat n
theorem KH(n d:Nat)(hd:d<=n)(o:Option Int):sIx n d o<=n:=by
 cases o with
 |none=>exact hd
 | some v =>
  show(if v<0 then(v+(n:Int)).toNat else min v.toNat n)<=n
  by_cases hv:v<0
  . rw[if_pos hv];omega
  . rw[if_neg hv];exact Nat.min_le_right _ _
theorem BZ(v:Int)(n d:Nat):(if v<0 then max (v+(n:Int)) 0 else min v (n:Int))=((sIx n d (some v):Nat):Int):=by
 show(if v<0 then max (v+(n:Int)) 0 else min v (n:Int))=(((if v<0 then(v+(n:Int)).toNat else min v.toNat n):Nat):Int)
 by_cases hv:v<0
 . simp only[if_pos hv];omega
 . simp only[if_neg hv];omega
theorem AO(lo hi:Option Int)(n:Nat):Builtin.Slice.sliceAdjust lo hi 1 (n:Int)=(((sIx n 0 lo:Nat):Int),((sIx n n hi:Nat):Int)):=by
 have h1:¬((1:Int)<0):=by omega
 unfold Builtin.Slice.sliceAdjust;simp only[h1,V8];refine Prod.ext ?_ ?_
 .
  cases lo with
  |none=>rfl
  |some v=>exact BZ v n 0
 .
  cases hi with
  |none=>rfl
  |some v=>exact BZ v n n
theorem AQ(i j:Nat):Builtin.Slice.slicePlaces (i:Int) (j:Int) 1=j-i:=by
 unfold Builtin.Slice.slicePlaces;have h1:(1:Int) > 0:=by omega
 simp only[h1,Wg,Int.ediv_one];split<;>omega
theorem ua{v:Value}{o:Option Int}{Q:Option Int->Shared->Prop}(p:IsPart v o)(h:Q o s):wpAny (model prog w) A (Builtin.Slice.slicePartIndex v) Q E s:=by
 cases p with
 |none=>exact slicePart_none h
 |int i t=>exact slicePart_int h
theorem p9{sl:Addr}{vl vu:Value}{lo hi:Option Int}{n:Nat}{Q:Int×Int×Nat->Shared->Prop}(hs:s.heap.IsSliceOf sl vl vu .none)(pl:IsPart vl lo)(pu:IsPart vu hi)
  (h:Q (((sIx n 0 lo:Nat):Int),1,sIx n n hi-sIx n 0 lo) s):wpAny (model prog w) A (Builtin.Slice.sliceApplied (.ref sl) (pure (n:Int))) Q E s:=by
 obtain⟨os,hos,hcs,hds⟩:=id hs;unfold Builtin.Slice.sliceApplied Builtin.Slice.sliceFields;refine tu (tu (VY hos hds (x:=vl) rfl (tu (VY hos hds (x:=vu) rfl (tu (VY hos hds (x:=.none) rfl (Ub ?_)))))));refine tu (slicePart_none ?_)
 show wpAny _ _ (if((1:Int) == 0)=true then _ else _) _ _ s
 rw[if_neg (by decide)];refine tu (ua pl (tu (ua pu (tu (Ub ?_)))))
 show wpAny _ _ (match Builtin.Slice.sliceAdjust lo hi 1 (n:Int)with|(lo,hi)=>pure (lo,(1:Int),Builtin.Slice.slicePlaces lo hi 1)) _ _ s
 rw[AO lo hi n];show wpAny _ _ (pure (((sIx n 0 lo:Nat):Int),(1:Int),Builtin.Slice.slicePlaces ((sIx n 0 lo:Nat):Int) ((sIx n n hi:Nat):Int) 1)) _ _ s;rw[AQ];exact Ub h
theorem EE(xs:Array Value)(i k:Nat):((List.range k).filterMap λ(m:Nat)=>xs[((i:Int)+(m:Int)*1).toNat]?).toArray=((xs.toList.drop i).take k).toArray:=by
 have e:(λ(m:Nat)=>xs[((i:Int)+(m:Int)*1).toNat]?)=λm=>xs[i+m]?:=by
  funext m
  have:((i:Int)+(m:Int)*1).toNat=i+m:=by omega
  rw[this]
 rw[e];have:=pick_run xs i k;rw[List.filterMap_map]at this;have e2:((λx=>xs[x]?) ∘ λx=>i+x)=λm=>xs[i+m]?:=rfl;rw[e2]at this;rw[this]
theorem getItem_tuple_cut{t sl:Addr}{items:Array Value}{vl vu:Value}{lo hi:Option Int}{Q:Value->Shared->Prop}(ht:IsTup s.heap t items)(hs:s.heap.IsSliceOf sl vl vu .none)(pl:IsPart vl lo)(pu:IsPart vu hi)
  (hw:¬(sIx items.size 0 lo=0/\sIx items.size items.size hi=items.size))
  (h:Q (.ref s.heap.objs.size) {s with heap:=s.heap.push {cls:=.type "tuple",data:=.seq ((items.toList.drop (sIx items.size 0 lo)).take (sIx items.size items.size hi-sIx items.size 0 lo)).toArray} })
  (hsz:items.size<=sizeLine):wpAny (model prog w) A (getItem (.ref t) (.ref sl)) Q E s:=by
 have htake:sizeOk (.seq ((items.toList.drop (sIx items.size 0 lo)).take (sIx items.size items.size hi-sIx items.size 0 lo)).toArray):=by show((items.toList.drop (sIx items.size 0 lo)).take (sIx items.size items.size hi-sIx items.size 0 lo)).toArray.size<=sizeLine;rw[Uk,Va,Vh,Array.length_toList];omega
 have hj:sIx items.size items.size hi<=items.size:=KH _ _ (Ud _) hi;obtain⟨os,hos,hcs,hds⟩:=id hs;have hTs:s.TypeIs (.ref sl) "slice":=⟨os,hos,hcs⟩;unfold getItem
 try with_reducible refine Vn ?_
 first|refine tu (Ub ?_)|skip
 refine tu (wpAny_sequenceKey ht.typeIs x_ ?_)
 refine tu (wpAny_callSpecial?_slot (name:=Str.ofString "__getitem__") ht.typeIs PyProof.Rows.slot_tuple_getitem
  (wpAny_call_entry PyProof.Rows.slot_tuple_getitem ht.typeIs entry_tuple_getitem ?_ (args_tuple_getitem _ _)))
 show wpAny _ _ (Builtin.Tuple.tupleItemsOf (.ref t) >>= _) _ _ s;refine tu (tupleItemsOf_ ht ?_);refine tu (wpAny_typeOf hTs ?_);rw[if_pos (by decide)];refine tu (p9 hs pl pu ?_);have hno:¬((((sIx items.size 0 lo:Nat):Int) == 0 && (1:Int) == 1 && (sIx items.size items.size hi-sIx items.size 0 lo) == items.size)=true):=by intro q;rw[Uc,Uc]at q;have q1:((sIx items.size 0 lo:Nat):Int)=0:=eq_of_beq q.1.1;have q2:sIx items.size items.size hi-sIx items.size 0 lo=items.size:=eq_of_beq q.2;exact hw ⟨xL,xL⟩
 show wpAny _ _ (if(((sIx items.size 0 lo:Nat):Int) == 0 && (1:Int) == 1 && (sIx items.size items.size hi-sIx items.size 0 lo) == items.size)=true then _ else _) _ _ s
 rw[if_neg hno,EE]
 first
  |exact tu (m:=Builtin.Tuple.tupleExact _) (VF (Ub ⟨_,rfl,Ub h⟩) htake)
  |exact tu (m:=Builtin.Tuple.tupleExact _) (VF (tu (Ub (Ub ⟨_,rfl,Ub h⟩))) htake)
  |exact tu (tu (m:=Builtin.Tuple.tupleExact _) (VF (Ub (Ub ⟨_,rfl,Ub h⟩)) htake))
  |exact tu (tu (m:=Builtin.Tuple.tupleExact _) (VF (Ub ⟨_,rfl,Ub h⟩) htake))
end
end HT
namespace L2
open PySem PySem.Spec PyProof.Rows
noncomputable abbrev TO:=St->Hp->(Option Int->Hp->Prop)->Prop
def PO(X:Cx)(e:Option Expr)(t:TO):Prop :=
 ∀(gV:List (Addr×Obj))(s:Shared)(σ:St)(H:Hp)(Q:Option Int->Hp->Prop),O7 X gV σ H s->t σ H Q ->
  wpAny (model X.prog X.w) X.A (evalPart e X.env) (λu s'=>∃o H',O7 X gV σ H' s'/\IsPart u o/\Q o H') X.xe s
noncomputable def HL:TO:=λ_ H Q=>Q none H
noncomputable def MY(t:TE):TO:=λσ H Q=>t σ H λx H1=>∃i,x=.int i/\Q (some i) H1
section
variable{X:Cx}{e:Expr}{te:TE}{lo hi:Option Expr}{tl th:TO}{pos p2:Pos}
theorem HM:PO X none HL:=by intro gV s σ H Q I h;rw[evalPart_none];exact Ub ⟨none,H,I,.none,h⟩
theorem HN(h:PE X e te):PO X (some e) (MY te):=by intro gV s σ H Q I hw;rw[evalPart_some];refine O9 (h gV s σ H _ I hw) λu s1 ⟨x,H1,I1,r1,q1⟩=>?_;obtain⟨i,rfl,q⟩:=q1;obtain⟨t,rfl⟩:=r1;exact⟨some i,H1,I1,.int i t,q⟩
def Pw(X:Cx)(r:V->Option Int->Option Int->Hp->VK->Prop):Prop :=
 ∀(gV:List (Addr×Obj))(s:Shared)(σ:St)(H:Hp)(x:V)(v vl vu:Value)(lo hi:Option Int)(sl:Addr)(Q:VK),O7 X gV σ H s->cB x v->s.heap.IsSliceOf sl vl vu .none->IsPart vl lo->IsPart vu hi->r x lo hi H Q ->
  ∃ T id,typeLookup (.type T) "__getitem__"=pure (some (.builtin id))/\s.TypeIs v T/\wpAny (model X.prog X.w) X.A (getItem v (.ref sl)) (EP X gV σ Q) X.xe s
theorem Pw.or{r r':V->Option Int->Option Int->Hp->VK->Prop}(h:Pw X r)(h':Pw X r'):Pw X (λx lo hi H Q=>r x lo hi H Q∨r' x lo hi H Q):=by
 intro gV s σ H x v vl vu lo hi sl Q I rx hs pl pu q;rcases q with q|q
 . exact h gV s σ H x v vl vu lo hi sl Q I rx hs pl pu q
 . exact h' gV s σ H x v vl vu lo hi sl Q I rx hs pl pu q
def Px(r:V->Option Int->Option Int->Hp->VK->Prop)(te:TE)(tl th:TO):TE:=λσ H Q=>te σ H λx H1=>tl σ H1 λl H2=>th σ H2 λu H3=>r x l u H3 Q
theorem EF{r:V->Option Int->Option Int->Hp->VK->Prop}(hr:Pw X r)(he:PE X e te)(hl:PO X lo tl)(hu:PO X hi th):PE X (.Subscript e (.Slice lo hi none p2) pos) (Px r te tl th):=by intro gV s σ H Q I h;refine Subscript_ (O9 (he gV s σ H _ I h) λv s1 ⟨x,H1,I1,r1,q1⟩=>?_);refine wpAny_Slice (O9 (hl gV s1 σ H1 _ I1 q1) λvl s2 ⟨l,H2,I2,pl,q2⟩=>O9 (hu gV s2 σ H2 _ I2 q2) λvu s3 ⟨u,H3,I3,pu,q3⟩=>?_);rw[evalPart_none];refine Ub ?_;have I4:O7 X gV σ H3 {s3 with heap:=s3.heap.push {cls:=.type "slice",data:=.fields #[vl,vu,.none] } }:=I3.kept (t':=s3.toks) λb ob q=>TN _ q;obtain⟨T,id,hT,ht,hg⟩:=hr gV {s3 with heap:=s3.heap.push {cls:=.type "slice",data:=.fields #[vl,vu,.none] } } σ H3 x v vl vu l u s3.heap.objs.size Q I4 r1 (Heap.IsSliceOf.new ..) pl pu q3;show wpAny (model X.prog X.w) X.A (subscriptTail e (.Slice lo hi none p2) v (.ref s3.heap.objs.size)) (EP X gV σ Q) X.xe {s3 with heap:=s3.heap.push {cls:=.type "slice",data:=.fields #[vl,vu,.none] } };exact tail_any (ops:=[.ref s3.heap.objs.size,v]) ht hT hg (by with_unfolding_all rfl)
noncomputable def G0(xs:List V)(lo hi:Option Int):List V:=(xs.drop (HT.sIx xs.length 0 lo)).take (HT.sIx xs.length xs.length hi-HT.sIx xs.length 0 lo)
theorem qK(xs:List V)(lo hi:Option Int):(G0 xs lo hi).length<=xs.length:=by unfold G0;rw[Va,Vh];omega
def Oy(K:PySem.W.Frag):V->Option Int->Option Int->Hp->VK->Prop:=λx lo hi H Q=>∃a xs,x=.ref a/\Pd K H a xs /\
 ¬(HT.sIx xs.length 0 lo=0/\HT.sIx xs.length xs.length hi=xs.length)/\∀p,H p=none->Q (.ref p) (OZ H p (.tup (G0 xs lo hi)))
theorem KI:Pw X (Oy X.K):=by
 intro gV s σ H x v vl vu lo hi sl Q I rx hs pl pu h;obtain⟨a,xs,rfl,hx,hw,q⟩:=h;cases rx;obtain⟨its,r,ht,hz⟩:=I.tuple hx;have p4:its.toArray.size=xs.length:=by rw[Uk];exact r.length.symm
 refine⟨"tuple",_,PyProof.Rows.slot_tuple_getitem.lookup,ht.typeIs,?_⟩;refine HT.getItem_tuple_cut ht hs pl pu (by rw[p4];exact hw) ?_ (by rw[p4];exact hz);rw[p4];refine⟨.ref s.heap.objs.size,_,I.laid (t':=s.toks) (o:=.tup (G0 xs lo hi)) (λb ob q=>TN _ q) (Ud _) ?_,rfl,q _ (I.hok.fresh (Ud _))⟩;exact⟨T9 (qK xs lo hi) hz,_,(r.drop (HT.sIx xs.length 0 lo)).take (HT.sIx xs.length xs.length hi-HT.sIx xs.length 0 lo),IsTup.new _ _⟩
end
noncomputable def Py(n:Nat)(i:Int):Option Nat:=if 0<=i then(if i<n then some i.toNat else none)else if -(n:Int)<=i then some (i+n).toNat else none
noncomputable def Pz{α:Type}(xs:List α)(i:Int):Option α:=(Py xs.length i).bind λj=>xs[j]?
theorem B0{n:Nat}{i:Int}{j:Nat}(h:Py n i=some j):seqIndex? i n=some j/\j<n/\-(n:Int)<=i/\i<n:=by
 unfold Py at h;by_cases h0:0<=i
 .
  rw[if_pos h0]at h;by_cases h1:i<n
  . rw[if_pos h1]at h;have e:i.toNat=j:=Uq h;exact⟨by rw[seqIndex_of h0 h1,e],xL,xL,h1⟩
  . rw[if_neg h1]at h;cases h
 .
  rw[if_neg h0]at h;by_cases h1 : -(n:Int)<=i
  . rw[if_pos h1]at h;have e:(i+n).toNat=j:=Uq h;exact⟨by rw[seqIndex_neg xL h1,e],xL,h1,xL⟩
  . rw[if_neg h1]at h;cases h
theorem ya{α:Type}{xs:List α}{i:Int}{v:α}(h:Pz xs i=some v):∃j,seqIndex? i xs.length=some j/\xs[j]?=some v/\j<xs.length/\-(xs.length:Int)<=i/\i<xs.length:=by
 unfold Pz at h
 cases e:Py xs.length i with
 |none=>rw[e]at h;cases h
 | some j =>
  rw[e]at h;obtain⟨h1,h2,h3,h4⟩:=B0 e;exact⟨j,h1,h,h2,h3,h4⟩
theorem jG{α:Type}{xs:List α}{j:Nat}{v:α}(h:xs[j]?=some v):Pz xs (j:Int)=some v:=by
 have hj:j<xs.length:=(TR.mp h).1;have e:Py xs.length (j:Int)=some j:=by unfold Py;rw[if_pos (by omega),if_pos (by omega)];simp
 unfold Pz;rw[e];exact h
def yb(b:Expr):Prop:=∀o i,subscripted b false o i=operate [o,i] (getItem o i)
def PD(X:Cx)(r:R2):Prop :=
 ∀(value slice:Expr)(gV:List (Addr×Obj))(s:Shared)(σ:St)(H:Hp)(x y:V)(v u:Value)(Q:VK),O7 X gV σ H s->cB x v->cB y u->r x y H Q ->
  subscripted slice false v u=operate [v,u] (getItem v u)->wpAny (model X.prog X.w) X.A (subscriptTail value slice v u) (EP X gV σ Q) X.xe s
def PF(X:Cx)(id:String)(r:V->List V->Hp->VK->Prop):Prop :=
 ∀(gV:List (Addr×Obj))(s:Shared)(σ:St)(H:Hp)(x:V)(xs:List V)(v:Value)(us:List Value)(Q:VK),O7 X gV σ H s->cB x v->cn xs us->r x xs H Q ->
  wpAny (model X.prog X.w) X.A (call (.builtin id) (v::us)) (EP X gV σ Q) X.xe s
section
variable{X:Cx}{a b:Expr}{ta tb:TE}{pos:Pos}
theorem MZ{r:R2}(hr:PD X r)(ha:PE X a ta)(hb:PE X b tb)(hs:yb b):PE X (.Subscript a b pos) (Pn r ta tb):=by intro gV s σ H Q I h;exact Subscript_ (Ow ha hb I h λv u s2 x y H2 I2 rx ry q=>hr a b gV s2 σ H2 x y v u Q I2 rx ry q (hs _ _))
def Oz(K:PySem.W.Frag):R2:=λx y H Q=>∃p xs i v,x=.ref p/\y=.int i/\Pc K H p xs/\Pz xs i=some v/\Q v H
def OA(K:PySem.W.Frag):R2:=λx y H Q=>∃p xs i v,x=.ref p/\y=.int i/\Pd K H p xs/\Pz xs i=some v/\Q v H
def OB:R2:=λx y H Q=>∃z i c,x=.str z/\y=.int i/\z.length<=sizeLine/\Pz z.cps.toList i=some c/\Q (.str ⟨#[c]⟩) H
theorem B1:PD X (Oz X.K):=by
 intro value slice gV s σ H x y v u Q I rx ry h hs;obtain⟨p,xs,i,z,rfl,rfl,hq,he,q⟩:=h;cases rx;obtain⟨t,rfl⟩:=ry;obtain⟨its,r,pl,hz⟩:=I.list hq;obtain⟨j,h1,h2,h3,h4,h5⟩:=ya he;obtain⟨w,ew,rw'⟩:=r.get h2;have hl:=r.length;have hn:=t9;have Pb:EP X gV σ Q w s:=⟨z,H,I,rw',q⟩;by_cases h0:0<=i
 .
  have hj:i.toNat=j:=by rw[seqIndex_of h0 h5]at h1;exact Uq h1
  exact item_listR pl.isList h0 xL (by rw[hj];simpa using ew) Pb hs
 .
  have hj:(i+(its.toArray.size:Int)).toNat=j:=by rw[seqIndex_neg xL h4]at h1;rw[Uk,<- hl];exact Uq h1
  exact subscriptTail_builtinR (x:=w) pl.isList.typeIs slot_list_getitem.lookup
   (wpAny_getItem_list_neg (Q:=λr s'=>r=w/\EP X gV σ Q r s') pl.isList xL (by rw[Uk]<;>omega) xL (by rw[hj];simpa using ew) ⟨rfl,Pb⟩) hs
theorem KJ:PD X (OA X.K):=by
 intro value slice gV s σ H x y v u Q I rx ry h hs;obtain⟨p,xs,i,z,rfl,rfl,hq,he,q⟩:=h;cases rx;obtain⟨t,rfl⟩:=ry;obtain⟨its,r,pl,hz⟩:=I.tuple hq;obtain⟨j,h1,h2,h3,h4,h5⟩:=ya he;obtain⟨w,ew,rw'⟩:=r.get h2;have hl:=r.length;have hn:=t9;have Pb:EP X gV σ Q w s:=⟨z,H,I,rw',q⟩
 exact subscriptTail_builtinR (x:=w) pl.typeIs slot_tuple_getitem.lookup
  (getItem_tuple (j:=j) (Q:=λr s'=>r=w/\EP X gV σ Q r s') pl xL xL (by rw[Uk,<- hl];exact h1) (by simpa using ew) ⟨rfl,Pb⟩) hs
theorem KL:PD X OB:=by
 intro value slice gV s σ H x y v u Q I rx ry h hs;obtain⟨z,i,c,rfl,rfl,hz,he,q⟩:=h;obtain⟨t,rfl⟩:=rx;obtain⟨t',rfl⟩:=ry;obtain⟨j,h1,h2,h3,h4,h5⟩:=ya he;have hl:z.cps.toList.length=z.length:=by simp[Str.length]
 rw[hl]at h1 h4 h5;have hn:=t9
 exact tail_any (typeIs_str s z t) slot_str_getitem.lookup (getItem_str (c:=c) (by
  have e1:decide (i < -(2^63:Int))=false:=Ul xL;have e2:decide (i≥2^63)=false:=Ul xL
  rw[e1,e2,V5]) (by rw[h1];simpa using h2) ⟨.str ⟨#[c]⟩,H,I.tok _,⟨_,rfl⟩,q⟩) hs
theorem AR(its:List Value)(n j:Nat)(u:Value):Obj.mapSeq (·.setIfInBounds j u) {cls:=.type "list",data:=.seq its.toArray n}={cls:=.type "list",data:=.seq (its.set j u).toArray n}:=by simp[Obj.mapSeq]
theorem O7.lst{gV:List (Addr×Obj)}{σ:St}{H:Hp}{s:Shared}{p:Addr}{xs:List V}(I:O7 X gV σ H s)(h:H p=some (.lst xs)) :
  ∃(its:List Value)(n:Nat),cn xs its/\s.heap.get? p=some {cls:=.type "list",data:=.seq its.toArray n}/\xs.length<=sizeLine:=by
 obtain⟨z,its,n,r,e⟩:=I.hok p _ h;exact⟨its,n,r,e,z⟩
theorem O7.lstUpd{gV:List (Addr×Obj)}{σ:St}{H:Hp}{s:Shared}{p:Addr}{xs ys:List V}{its its':List Value}{n n':Nat}{f:Obj->Obj}(I:O7 X gV σ H s)(h:H p=some (.lst xs))
  (ho:s.heap.get? p=some {cls:=.type "list",data:=.seq its.toArray n}) (hf:f {cls:=.type "list",data:=.seq its.toArray n}={cls:=.type "list",data:=.seq its'.toArray n' }) (r:cn ys its') (hz:ys.length<=sizeLine) (t:Nat) :
  O7 X gV σ (OZ H p (.lst ys)) {s with heap:=s.heap.update p f,toks:=t}:=by
 have e:(s.heap.update p f).get? p=some {cls:=.type "list",data:=.seq its'.toArray n' }:=by rw[Vl f ho (by rw[hf]<;>rfl),hf]
 refine I.write (x:=p) (e:=p) (by rw[h];trivial) (.inl rfl) (λb u hb q=>(UT _ _ (U3 hb)).trans q) ⟨_,e⟩ ?_;exact⟨hz,its',n',r,e⟩
def M0:V->V->V->Hp->(Hp->Prop)->Prop:=λo i v H Q=>∃p xs k j,o=.ref p/\i=.int k/\H p=some (.lst xs)/\Py xs.length k=some j/\Q (OZ H p (.lst (xs.set j v)))
theorem EG:N0 X M0:=by
 intro gV s σ H o i v ov iv u Q I ro ri rv h;obtain⟨p,xs,k,j,rfl,rfl,hp,hj,q⟩:=h;cases ro;obtain⟨t,rfl⟩:=ri;obtain⟨its,n,r,ho,hz⟩:=I.lst hp;obtain⟨h1,h2,h3,h4⟩:=B0 hj;have hl:=r.length;have hn:=t9
 have I':O7 X gV σ (OZ H p (.lst (xs.set j v))) {s with heap:=s.heap.update p (Obj.mapSeq (·.setIfInBounds j u)) } :=
  I.lstUpd hp ho (AR its n j u) (r.set rv j) (by rw[Vo];exact hz) s.toks
 by_cases h0:0<=k
 .
  have hk:k.toNat=j:=by rw[seqIndex_of h0 h4]at h1;exact Uq h1
  exact PySem.W.ki_setAt ho h0 xL (by rw[Uk,<- hl];exact h4) (by rw[hk];exact⟨_,I',q⟩)
 .
  have hk:(k+(its.toArray.size:Int)).toNat=j:=by rw[seqIndex_neg xL h3]at h1;rw[Uk,<- hl];exact Uq h1
  exact PySem.W.ki_setBack ho xL (by rw[Uk,<- hl];exact h3) xL (by rw[hk];exact⟨_,I',q⟩)
theorem vZ(lo hi:Option Int)(n:Nat):(sliceBounds lo hi none n).1=((HT.sIx n 0 lo:Nat):Int)/\(sliceBounds lo hi none n).2.1=((HT.sIx n n hi:Nat):Int)/\(sliceBounds lo hi none n).2.2=1:=by
 refine⟨?_,?_,rfl⟩
 .
  cases lo with
  |none=>simp[sliceBounds,HT.sIx]
  | some i =>
   simp only[sliceBounds,HT.sIx,Option.getD_none,show(1:Int) > 0 by decide,Wg];by_cases h:i<0
   . simp only[h,Wg]<;>omega
   . simp only[h,V8]<;>omega
 .
  cases hi with
  |none=>simp[sliceBounds,HT.sIx]
  | some i =>
   simp only[sliceBounds,HT.sIx,Option.getD_none,show(1:Int) > 0 by decide,Wg];by_cases h:i<0
   . simp only[h,Wg]<;>omega
   . simp only[h,V8]<;>omega
theorem uC(its:List Value)(lo hi:Option Int):slicePick its.toArray lo hi none=((its.drop (HT.sIx its.length 0 lo)).take (HT.sIx its.length its.length hi-HT.sIx its.length 0 lo)).toArray:=by obtain⟨h1,h2,h3⟩:=vZ lo hi its.toArray.size;unfold slicePick;rw[h1,h2,h3];simp only[sliceRange_one,pick_run,Uk]<;>rfl
def OC(K:PySem.W.Frag):V->Option Int->Option Int->Hp->VK->Prop:=λx lo hi H Q=>∃a xs,x=.ref a/\Pc K H a xs/\∀p,H p=none->Q (.ref p) (OZ H p (.lst (G0 xs lo hi)))
theorem HP:Pw X (OC X.K):=by intro gV s σ H x v vl vu lo hi sl Q I rx hs pl pu h;obtain⟨a,xs,rfl,hx,q⟩:=h;cases rx;obtain⟨its,r,ht,hz⟩:=I.list hx;have p4:=r.length;refine⟨"list",_,slot_list_getitem.lookup,ht.isList.typeIs,?_⟩;refine wpAny_getItem_list_slice ht.isList hs pl pu .none v6 ?_ (by rw[Uk]<;>omega);rw[uC,<- p4];refine⟨.ref s.heap.objs.size,_,I.laid (t':=s.toks) (o:=.lst (G0 xs lo hi)) (λb ob q=>TN _ q) (Ud _) ?_,rfl,q _ (I.hok.fresh (Ud _))⟩;exact⟨T9 (qK xs lo hi) hz,_,0,(r.drop (HT.sIx xs.length 0 lo)).take (HT.sIx xs.length xs.length hi-HT.sIx xs.length 0 lo),Up _ rfl⟩
noncomputable def sR:V->Bool
 |.non=>true
 |.bl _=>true
 |.int _=>true
 |.str _=>true
 |_=>false
noncomputable def PH:V->V->Bool
 |.non,.non=>true
 |.bl a,.bl b=>a == b
 |.bl a,.int b=>(if a then 1 else 0) == b
 |.int a,.bl b=>a == (if b then 1 else 0)
 |.int a,.int b=>a == b
 |.str a,.str b=>a == b
 |_,_=>false
theorem KM{A:Around}{s:Shared}{y x:V}{u v:Value}(ry:cB y u)(rx:cB x v)(fy:sR y=true)(fx:sR x=true):SeqAt.EqAt A s u v (PH y x):=by
 cases y with
 | non =>
  cases ry
  cases x with
  |non=>cases rx;exact SeqAt.EqAt.same _
  |bl b=>cases rx;exact SeqAt.EqAt.none_bool b
  |int b=>obtain⟨t,rfl⟩:=rx;exact SeqAt.EqAt.none_int b t
  |str b=>obtain⟨t,rfl⟩:=rx;exact SeqAt.EqAt.none_str b t
  |_=>exact absurd (show false=true from fx) U2
 | bl a =>
  cases ry
  cases x with
  |non=>cases rx;exact SeqAt.EqAt.bool_none a
  |bl b=>cases rx;exact SeqAt.EqAt.bool_bool a b
  |int b=>obtain⟨t,rfl⟩:=rx;exact SeqAt.EqAt.bool_int a b t
  |str b=>obtain⟨t,rfl⟩:=rx;exact SeqAt.EqAt.bool_str a b t
  |_=>exact absurd (show false=true from fx) U2
 | int a =>
  obtain⟨t',rfl⟩:=ry
  cases x with
  |non=>cases rx;exact SeqAt.EqAt.int_none a t'
  |bl b=>cases rx;exact SeqAt.EqAt.int_bool a t' b
  |int b=>obtain⟨t,rfl⟩:=rx;exact SeqAt.EqAt.int_int a t' b t
  |str b=>obtain⟨t,rfl⟩:=rx;exact SeqAt.EqAt.int_str a t' b t
  |_=>exact absurd (show false=true from fx) U2
 | str a =>
  obtain⟨t',rfl⟩:=ry
  cases x with
  |non=>cases rx;exact SeqAt.EqAt.str_none a t'
  |bl b=>cases rx;exact SeqAt.EqAt.str_bool a t' b
  |int b=>obtain⟨t,rfl⟩:=rx;exact SeqAt.EqAt.str_int a t' b t
  |str b=>obtain⟨t,rfl⟩:=rx;exact SeqAt.EqAt.str_str a t' b t
  |_=>exact absurd (show false=true from fx) U2
 |_=>exact absurd (show false=true from fy) U2
noncomputable def PJ(x:V)(u:Value):Bool:=match u with
 |.none=>PH .non x
 |.bool b=>PH (.bl b) x
 |.int i _=>PH (.int i) x
 |.str z _=>PH (.str z) x
 |_=>false
theorem G1{x y:V}{u:Value}(r:cB y u)(f:sR y=true):PJ x u=PH y x:=by
 cases y with
 |non=>cases r;rfl
 |bl b=>cases r;rfl
 |int i=>obtain⟨t,rfl⟩:=r;rfl
 |str z=>obtain⟨t,rfl⟩:=r;rfl
 |_=>exact absurd (show false=true from f) U2
theorem qL{x:V}:∀{xs:List V}{us:List Value},cn xs us->xs.all sR=true->us.any (PJ x)=xs.any λy=>PH y x
 |_,_,.nil,_=>rfl
 | y::xs,u::us,.cons r t,f=>by rw[List.all_cons,Uc]at f;rw[VJ,VJ,G1 r f.1,qL t f.2]
theorem nh{A:Around}{s:Shared}{x:V}{v:Value}(rx:cB x v)(fx:sR x=true):∀{xs:List V}{us:List Value},cn xs us->xs.all sR=true->∀u∈us,SeqAt.EqAt A s u v (PJ x u)
 |_,_,.nil,_=>λu hu=>by cases hu
 | y::xs,u::us,.cons r t,f=>λu' hu=>by
  rw[List.all_cons,Uc]at f;rcases Ue.mp hu with rfl|hu
  . rw[G1 r f.1];exact KM r rx f.1 fx
  . exact nh rx fx t f.2 u' hu
noncomputable def PN(x:V)(xs:List V):Bool:=xs.any λy=>PH y x
def PP(K:PySem.W.Frag)(neg:Bool):R2:=λx y H Q=>∃p xs,y=.ref p/\(Pc K H p xs∨Pd K H p xs)/\sR x=true/\xs.all sR=true/\Q (.bl (if neg then !PN x xs else PN x xs)) H
theorem B2:Pk X (compareOp .In) (PP X.K false):=by
 intro gV s σ H x y v u Q I rx ry h;obtain⟨p,xs,rfl,hq,fx,fs,q⟩:=h;cases ry;rcases hq with hq|hq
 . obtain⟨its,r,pl,hz⟩:=I.list hq;refine SeqAt.in_listAt (PJ x) pl.isList (λw hw=>nh rx fx r fs w (by simpa using hw)) ⟨.bl _,H,I,rfl,?_⟩;rw[show its.toArray.any (PJ x)=its.any (PJ x) by simp,qL r fs];exact q
 . obtain⟨its,r,pl,hz⟩:=I.tuple hq;refine SeqAt.in_tupleAt (PJ x) pl (λw hw=>nh rx fx r fs w (by simpa using hw)) ⟨.bl _,H,I,rfl,?_⟩;rw[show its.toArray.any (PJ x)=its.any (PJ x) by simp,qL r fs];exact q
theorem v5:Pk X (compareOp .NotIn) (PP X.K true):=by
 intro gV s σ H x y v u Q I rx ry h;obtain⟨p,xs,rfl,hq,fx,fs,q⟩:=h;cases ry;rcases hq with hq|hq
 . obtain⟨its,r,pl,hz⟩:=I.list hq;refine SeqAt.notIn_listAt (PJ x) pl.isList (λw hw=>nh rx fx r fs w (by simpa using hw)) ⟨.bl _,H,I,rfl,?_⟩;rw[show its.toArray.any (PJ x)=its.any (PJ x) by simp,qL r fs];exact q
 . obtain⟨its,r,pl,hz⟩:=I.tuple hq;refine SeqAt.notIn_tupleAt (PJ x) pl (λw hw=>nh rx fx r fs w (by simpa using hw)) ⟨.bl _,H,I,rfl,?_⟩;rw[show its.toArray.any (PJ x)=its.any (PJ x) by simp,qL r fs];exact q
theorem pN:k9 X (.builtin "len") (λxs H Q=>∃ p ys,xs=[.ref p]/\(Pc X.K H p ys∨Pd X.K H p ys)/\Q (.int ys.length) H):=by
 intro gV s σ H xs us Q I r h;obtain⟨p,ys,rfl,hq,q⟩:=h;obtain⟨u,rfl,rx⟩:=vU r;cases rx;have hn:=t9;rcases hq with hq|hq
 . obtain⟨its,r',pl,hz⟩:=I.list hq;have p4:=r'.length;exact Calls.call_len_list pl.isList (by simp only[Uk]<;>omega) ⟨.int ys.length,H,I.tok _,⟨s.toks+1,by rw[Uk,p4]⟩,q⟩
 . obtain⟨its,r',pl,hz⟩:=I.tuple hq;have p4:=r'.length;exact len_tuple pl (by simp only[Uk]<;>omega) ⟨.int ys.length,H,I.tok _,⟨s.toks+1,by rw[Uk,p4]⟩,q⟩
theorem v7:k9 X (.builtin "len") (λxs H Q=>∃ z,xs=[.str z]/\z.length<=sizeLine/\Q (.int z.length) H):=by intro gV s σ H xs us Q I r h;obtain⟨z,rfl,hz,q⟩:=h;obtain⟨u,rfl,t,rfl⟩:=vU r;have hn:=t9;exact len_str xL ⟨.int z.length,H,I.tok _,⟨_,rfl⟩,q⟩
theorem k9.or{f:Value}{r r':List V->Hp->VK->Prop}(h:k9 X f r)(h':k9 X f r'):k9 X f (λxs H Q=>r xs H Q∨r' xs H Q):=by
 intro gV s σ H xs us Q I rs q;rcases q with q|q
 . exact h gV s σ H xs us Q I rs q
 . exact h' gV s σ H xs us Q I rs q
theorem v8:k9 X (.type "list") (λxs H Q=>∃ p ys,xs=[.ref p]/\(Pc X.K H p ys∨Pd X.K H p ys)/\∀ l,H l=none->Q (.ref l) (OZ H l (.lst ys))):=by
 intro gV s σ H xs us Q I r h;obtain⟨p,ys,rfl,hq,q⟩:=h;obtain⟨u,rfl,rx⟩:=vU r;cases rx
 have Pb:∀(its:List Value),cn ys its->ys.length<=sizeLine->∀(h':Heap)(c':Nat),(∀b o',s.heap.get? b=some o'->h'.get? b=some o') ->
   h'.get? s.heap.objs.size=some {cls:=.type "list",dict:=none,data:=.seq its.toArray c',slots:=#[] }->EP X gV σ Q (.ref s.heap.objs.size) {s with heap:=h' }:=λits r' hz h' c' kp e =>
  ⟨.ref s.heap.objs.size,_,I.laid (t':=s.toks) kp (Ud _) (show eX X.prog X.w _ h' _ (.lst ys)from⟨hz,its,c',r',e⟩),rfl,q _ (I.hok.fresh (Ud _))⟩
 rcases hq with hq|hq
 . obtain⟨its,r',pl,hz⟩:=I.list hq;have p4:=r'.length;obtain⟨o,ho,hc,n,hd⟩:=pl.isList;exact call_list_seq p (.inl rfl) ho hc hd (λh' c' kp e=>Pb its r' hz h' c' kp e) (by simp only[Uk]<;>omega)
 . obtain⟨its,r',pl,hz⟩:=I.tuple hq;have p4:=r'.length;obtain⟨o,ho,hc,n,hd⟩:=pl;exact call_list_seq p (.inr rfl) ho hc hd (λh' c' kp e=>Pb its r' hz h' c' kp e) (by simp only[Uk]<;>omega)
def PQ(K:PySem.W.Frag)(T:String)(x:V)(H:Hp):Prop:=match x with
 |.str _=>T="str"
 |.int _=>T="int"
 | .ref p=>(T="list"/\∃ xs,Pc K H p xs)∨(T="tuple"/\∃ o,K.lookup p=some o/\o.cls=.type "tuple"/\o.dict=none) ∨
   (T="dict"/\((∃ kvs,H p=some (.dK kvs))∨∃ kvs,H p=some (.dT kvs)))∨(T="set"/\∃ S n,H p=some (.set S n))
 |_=>False
theorem KN{gV:List (Addr×Obj)}{σ:St}{H:Hp}{s:Shared}{T:String}{x:V}{v:Value}(I:O7 X gV σ H s)(r:cB x v)(ty:PQ X.K T x H) :
  s.TypeIs v T/\∀a,v=.ref a->∃ob,s.heap.get? a=some ob/\ob.dict=none:=by
 cases x with
 | str z =>
  obtain⟨t,rfl⟩:=r;cases(show T="str" from ty);exact⟨typeIs_str s z t,λ_ e=>nomatch e⟩
 | int i =>
  obtain⟨t,rfl⟩:=r;cases(show T="int" from ty);exact⟨typeIs_int s i t,λ_ e=>nomatch e⟩
 | ref p =>
  cases r;rcases ty with⟨rfl,xs,hq⟩|⟨rfl,o,hk,hc,hd⟩|⟨rfl,hk⟩|⟨rfl,S,n,hk⟩
  . obtain⟨its,_,pl,_⟩:=I.list hq;refine⟨pl.isList.typeIs,λa e=>?_⟩;cases e;obtain⟨o,n,e,c,hd,_⟩:=pl;exact⟨o,e,hd⟩
  . refine⟨⟨o,I.kIn p o hk,hc⟩,λa e=>?_⟩;cases e;exact⟨o,I.kIn _ o hk,hd⟩
  .
   have z:∃o,s.heap.get? p=some o/\o.ExactDict:=by
    rcases hk with⟨kvs,hk⟩|⟨kvs,hk⟩
    . obtain⟨_,_,_,_,o,_,_,e,ex,_⟩:=I.hok p _ hk;exact⟨o,e,ex⟩
    . obtain⟨_,_,_,_,o,_,_,e,ex,_⟩:=I.hok p _ hk;exact⟨o,e,ex⟩
   obtain⟨o,e,ex⟩:=z;refine⟨⟨o,e,ex.1⟩,λa e2=>?_⟩;cases e2;exact⟨o,e,ex.2.1⟩
  . obtain⟨o,_,_,_,e,ex,_⟩:=I.hok p _ hk;refine⟨⟨o,e,ex.1⟩,λa e2=>?_⟩;cases e2;exact⟨o,e,ex.2.1⟩
 |_=>exact False.elim ty
def PR(K:PySem.W.Frag)(T:String)(r:V->List V->Hp->VK->Prop)(to:TE)(t:TA):TE:=λσ H Q=>to σ H λx H1=>PQ K T x H1/\t σ H1 λxs H2=>r x xs H2 Q
variable{o e:Expr}{es:List Expr}{to:TE}{t:TA}{name:Str}{apos cpos:Pos}{T id:String}{r:V->List V->Hp->VK->Prop}
theorem KO(pa:PlainAttrs T)(slot:Slot T name id) (hty:typeOf (.builtin id)=pure (.type "method_descriptor")) (hm:PF X id r) (ho:PE X o to) (ha:PA X (e::es) t)
  (hbase:attributeBase o name X.env (eval o X.env)=eval o X.env:=by rfl)
  (hfew:((backTo cpos (starEach (e::es) X.env)).all (λx=>!x.1) && (backToKw cpos (keywordEach [] X.env)).all (λx=>x.1.isSome)
   && decide ((e::es).length+([]:List Keyword).length+(if([]:List Keyword).isEmpty then 0 else 1)<30))=true:=by rfl)
  (hline:(apos.endLine == cpos.line)=true:=by rfl) (hs:starEach (e::es) X.env=(false,eval e X.env)::starEach es X.env:=by rfl) (hplain:(backTo cpos (starEach es X.env)).any (·.1)=false:=by rfl) :
  PE X (.Call (.Attribute o name apos) (e::es) [] cpos) (PR X.K T r to t):=by
 intro gV s σ H Q I h;refine wpAny_Call_method_late hbase hfew hline rfl (O9 (ho gV s σ H _ I h) λv s1 ⟨x,H1,I1,r1,ty,q1⟩=>?_);obtain⟨h1,h2⟩:=KN I1 r1 ty;refine⟨T,id,pa,slot,hty,h1,h2,?_⟩;have hA:=ha cpos gV s1 σ H1 _ I1 q1;rw[hs]at hA ⊢;refine Calls.callWith_builtin (by show(false ||(backTo cpos (starEach es X.env)).any (·.1))=false;rw[hplain]<;>rfl) (Calls.evalArgs_plain ?_);exact O9 hA λus s2 ⟨vs,H2,I2,r2,q2⟩=>hm gV s2 σ H2 x vs v us Q I2 r1 r2 q2
/- xs.append(e),list.index on a module's tuple .. are PF facts of 06m -/
end
def PU(X:Cx)(id:String)(r:V->List V->Hp->VK->Prop):Prop :=
 ∀(gV:List (Addr×Obj))(s:Shared)(σ:St)(H:Hp)(x:V)(xs:List V)(v:Value)(us:List Value)(Q:VK),O7 X gV σ H s->cB x v->cn xs us->r x xs H Q ->
  wpAny (model X.prog X.w) X.A (call (.builtin id) (v::us)) (EP X gV σ Q) X.xe s
theorem cn.one:∀{x:V}{us:List Value},cn [x] us->∃u,us=[u]/\cB x u
 |_,_,.cons r .nil=>⟨_,rfl,r⟩
theorem cn.two:∀{x y:V}{us:List Value},cn [x,y] us->∃u v,us=[u,v]/\cB x u/\cB y v
 |_,_,_,.cons r (.cons q .nil)=>⟨_,_,rfl,r,q⟩
theorem cn.rep{xs:List V}{us:List Value}(h:cn xs us):∀k:Nat,cn (List.replicate k xs).flatten (List.replicate k us).flatten
 |0=>.nil
 | k+1=>by rw[UK,UK,Vv,Vv];exact cn.append h (cn.rep h k)
theorem v9(its:List Value):∀(k:Nat)(acc:List Value),
  List.foldl (λx1 x2=>x1++x2) acc.toArray (List.replicate k its.toArray)=(acc++(List.replicate k its).flatten).toArray
 |0,acc=>by simp
 | k+1,acc=>by
  have e:acc.toArray++its.toArray=(acc++its).toArray:=by simp
  have e2:(acc++its)++(List.replicate k its).flatten=acc++(List.replicate (k+1) its).flatten:=by rw[UK,Vv,UQ]
  rw[<- e2,<- v9 its k (acc++its),<- e,UK,List.foldl_cons]
section
variable{X:Cx}{gV:List (Addr×Obj)}{σ:St}{H:Hp}{s:Shared}{l:Addr}{xs ys:List V}
theorem O7.lset{its its':List Value}{n:Nat}{f:Array Value->Array Value}{t':Nat}(I:O7 X gV σ H s)(hH:H l=some (.lst xs))
  (e:s.heap.get? l=some {cls:=.type "list",data:=.seq its.toArray n}) (hf:f its.toArray=its'.toArray) (hv:cn ys its') (hz:ys.length<=sizeLine) :
  O7 X gV σ (OZ H l (.lst ys)) {s with heap:=s.heap.update l (Obj.mapSeq f),toks:=t' }:=by
 have q:=PySem.IsL.update e f;rw[hf]at q;refine I.write (x:=l) (e:=l) (by rw[hH];exact trivial) (.inl rfl) (λb' u hb hu=>(UT s.heap (Obj.mapSeq f) (U3 hb)).trans hu) ⟨_,q⟩ ?_;exact⟨hz,its',_,hv,q⟩
theorem O7.lnew{its:List Value}{t':Nat}(I:O7 X gV σ H s)(hv:cn ys its)(hz:ys.length<=sizeLine) :
  O7 X gV σ (OZ H s.heap.objs.size (.lst ys)) {s with heap:=s.heap.push {cls:=.type "list",data:=.seq its.toArray},toks:=t' } :=
 I.laid (λ_ _ q=>TN _ q) (Ud _) ⟨hz,its,0,hv,Up _ rfl⟩
theorem O7.fresh(I:O7 X gV σ H s):H s.heap.objs.size=none:=I.hok.fresh (Ud _)
theorem O7.lstM(I:O7 X gV σ H s)(hH:H l=some (.lst xs)):xs.length<=sizeLine/\∃(its:List Value)(n:Nat),cn xs its/\xs.length=its.length/\s.heap.get? l=some {cls:=.type "list",data:=.seq its.toArray n}:=by obtain⟨z,its,n,r,e⟩:=I.hok l _ hH;exact⟨z,its,n,r,r.length,e⟩
theorem EH{n:Nat}(h:n<=sizeLine):Builtin.List.listTooLong n=false:=by unfold Builtin.List.listTooLong;exact Ul xL
end
section
variable{X:Cx}
def HQ:V->List V->Hp->VK->Prop:=λx vs H Q=>∃l xs y,x=.ref l/\vs=[y]/\H l=some (.lst xs)/\xs.length<sizeLine/\Q .non (OZ H l (.lst (xs++[y])))
theorem wb:PU X "list.append" HQ:=by intro gV s σ H x vs v us Q I rx rv h;obtain⟨l,xs,y,rfl,rfl,hH,hz,q⟩:=h;cases rx;obtain⟨u,rfl,ru⟩:=rv.one;obtain⟨z,its,n,r,hl,e⟩:=I.lstM hH;refine call_meets F.slot_list_append ⟨_,e,rfl⟩ F.entry_list_append (F.args_list_append_2 _ _) (PySem.list_append l its.toArray n u (by rw[Uk];omega)) ⟨e,?_⟩;refine⟨.non,_,I.lset (its':=its++[u]) hH e v6 (r.append (.cons ru .nil)) ?_,rfl,q⟩;rw[Us,List.length_singleton];omega
def OD:R2:=λx y H Q=>∃l k xs,x=.ref l/\y=.int k/\H l=some (.lst xs)/\-(2^63)<=k/\k<2^63/\xs.length*k.toNat<=sizeLine /\
 ∀p,H p=none->Q (.ref p) (OZ H p (.lst (List.replicate k.toNat xs).flatten))
theorem HR{α:Type}(xs:List α)(k:Nat):(List.replicate k xs).flatten.length=k*xs.length:=by
 induction k with
 |zero=>simp
 |succ k ih=>rw[UK,Vv,Us,ih,Nat.succ_mul,Nat.add_comm]
theorem KP:Pk X (binaryOp .Mult) OD:=by
 intro gV s σ H x y v u Q I rx ry h;obtain⟨l,k,xs,rfl,rfl,hH,h1,h2,hz,q⟩:=h;cases rx;obtain⟨t,rfl⟩:=ry;obtain⟨z,its,n,r,hl,e⟩:=I.lstM hH;have p4:its.toArray.size*k.toNat<=sizeLine:=by rw[Uk,<- hl];exact hz
 have hcap:¬its.toArray.size*k.toNat > (2^63-1) / 8:=by
  have:(sizeLine:Nat)<=(2^63-1) / 8:=by decide
  omega
 have hfit:¬(!Builtin.List.listFitsIndex k)=true:=by rw[fitsIndex_both h1 h2];exact U2
 have hlong:¬Builtin.List.listTooLong (its.toArray.size*k.toNat)=true:=by rw[EH p4];exact U2
 have hnew:List.foldl (λx1 x2=>x1++x2) #[] (List.replicate (if its.toArray.isEmpty=true then 0 else k.toNat) its.toArray)=(List.replicate k.toNat its).flatten.toArray:=by
  have f0:∀m:Nat,List.foldl (λx1 x2=>x1++x2) #[] (List.replicate m its.toArray)=(List.replicate m its).flatten.toArray:=λm=>by have:=v9 its m [];rw[Vy]at this;exact this
  rw[f0]
  cases its with
  |nil=>simp
  |cons a r'=>rw[if_neg (by simp)]
 refine wpAny_binaryOp_repeat_ref (T:="list") (U:="int") x_ ⟨_,e,rfl⟩ (λs'=>typeIs_int s' k t) noFill_list_mul F.fills_int_mul F.slot_int_rmul repeat_list F.slot_int_index.lookup
  (call_meets F.slot_int_rmul (typeIs_int s k t) F.entry_int_rmul (F.args_int_rmul_2 _ _) (int___rmul___int_list k t l its.toArray n)
   ⟨e,rfl,⟨_,e,rfl⟩,call_meets F.slot_list_mul ⟨_,e,rfl⟩ F.entry_list_mul (F.args_list_mul_2 _ _) (AutoListH.list___mul___list_int_3 l its.toArray n k t hfit hcap hlong) ⟨e,?_⟩⟩)
 rw[hnew];exact⟨.ref _,_,I.lnew (t':=s.toks) (r.rep k.toNat) (by rw[HR,Nat.mul_comm];exact hz),rfl,q _ I.fresh⟩
end
end L2
namespace Att
open PySem PySem.W PySem.Calls PyProof.Rows
theorem qM{P:Params}{h:Heap}:∀(ns:List Int)(vs:List Value),WellAll P h vs (ns.map WData.int)->IntsAre vs ns:=by
 intro ns
 induction ns with
 | nil =>
  intro vs w;rw[List.map_nil]at w;cases w;exact .nil
 | cons n ns ih =>
  intro vs w;rw[Ur]at w
  cases w with
  | cons a b =>
   cases a;exact .cons _ _ (ih _ b)
theorem B3{l:OpenLaw}{n:Nat}(hn:l.most=some n){P:Params}{h:Heap}{args:List WData}{vals:List Value}
  (hpre:l.row.toRowW.claim.pre args=true) (hwl:WellAll P h vals args) :
  ∃ a vs ns,vals=[Value.ref a]/\args=[WData.list (ns.map WData.int)]/\h.get? a=some {cls:=.type "list",data:=.seq vs.toArray}/\IntsAre vs ns/\ns.length<=n:=by
 have hsh:WShape.hasAll [] args [.list .int]=true:=(pre_splitW hpre).1;have hc:l.pre.holds [] {args:=args}=true:=(pre_splitW hpre).2;obtain⟨d,r,rfl,h1,h2⟩:=hasAllW_cons hsh;obtain rfl:=hasAllW_nil h2;obtain⟨xs,rfl,h3⟩:=hasW_list h1;obtain⟨ns,rfl⟩:=items_int h3
 have p4:ns.length<=n:=by
  unfold OpenLaw.pre at hc;have h4:(WTm.not (.lt (.lit (.int (n:Int))) (.len (.arg 0)))).holds [] {args:=[.list (ns.map .int)] }=true:=by have h4:=(holds_andW hc).1;rw[hn]at h4;exact h4
  have h5:=condW_of h4 (w_not (w_lt w_lit (w_len_list (w_arg rfl))));rw[TY]at h5;refine Nat.le_of_not_lt λq=>?_;have q':(n:Int)<((ns.length:Nat):Int):=by omega
  first
   |(rw[UI q']at h5;exact absurd h5 x_)
   |(simp at h5;omega)
 cases hwl with
 | cons w1 w2 =>
  cases w2
  cases w1 with
  |list ho hall=>exact⟨_,_,ns,rfl,rfl,ho,qM ns _ hall,p4⟩
theorem B4(l:OpenLaw)(args:List WData):l.row.toRowW.claim.post args (.bool true) args=true :=
 postW_of (r:=l.row.toRowW) (X:=(true == true))
  (show WShape.has [] (.bool true) .bool=true by first|rfl|decide|simp[WShape.has,WShape.arms,WShape.armsAll])
  (show(WTm.eq .res (.lit (.bool true))).value [] {args:=args,res:=some (.bool true),after:=args}=some (.bool (true == true))from w_eq_bool (w_res rfl) w_lit) rfl
theorem attach_call{l:OpenLaw}{n:Nat}{q:Program}{loose:List Str}{XP:(Str->Option Value)->Heap->Prop}{YP:World->Heap->Prop}{d:DefRec}
  (hn:l.most=some n) (hdf:d.params.defaults=[])
  (call:∀(w:World)(s₀ s₁:Shared)(mg mb:Str->Option Value)(fa:Addr)(o:Obj)(pm cd doc:Value)(a:Addr)(vs:List Value)(ns:List Int),
   Ground q loose [] XP w s₀ mg mb s₁.heap->YP w s₁.heap ->
   s₁.heap.get? fa=some o->o.data=.func (docDef d.name d.params d.body d.scope pm cd doc)->s₁.heap.CodeRec cd d.name->mg d.name=some (.ref fa) ->
   s₁.heap.get? a=some {cls:=.type "list",data:=.seq vs.toArray}->IntsAre vs ns->ns.length<=n->s₁.gens=#[] ->
   codeAny (model l.prog w) callerA (.call (.ref fa) ⟨[.ref a],[]⟩) (λr s'=>r=.ok (.ret (.bool true))/\OldK s₁.heap s'.heap/\s'.os=s₁.os/\AllBare s'.gens) s₁) :
  WalkO q loose XP YP l.row.toRowW d [] (λf vs=>PySem.call f vs):=by
 intro w s₀ s₁ mg mb G Y fa o pm cd doc dV kV ho hd hcd hD hmg hg args vals as hpre hlay hrd hwl hlo;obtain rfl:dV=.none:=Dflts.none hD hdf;obtain rfl:kV=.none:=Dflts.noKw hD;obtain⟨a,vs,ns,rfl,rfl,hobj,hints,p4⟩:=B3 hn hpre hwl;refine enter_call (codeAny_mono (call w s₀ s₁ mg mb fa o pm cd doc a vs ns G Y ho (fd_plain hd) hcd hmg hobj hints p4 hg) λr s' hq=>?_);obtain⟨rfl,h2,h3,h4⟩:=hq;exact⟨.inl ⟨.bool true,.bool true,[],rfl,λ_=>rfl,.bool true,B4 l _,λ_=>⟨List.Pairwise.nil,λ_ hm=>(nomatch hm)⟩⟩,h2,h3,h4⟩
section
noncomputable def noObjs(h:Heap):Heap:={h with objs:=#[] }
theorem noObjs_get(h:Heap)(b:Addr):(noObjs h).get? b=none:=by
 cases e:(noObjs h).get? b with
 |none=>rfl
 |some o=>exact absurd (TZ e) (Nat.not_lt_zero _)
noncomputable def N4(h:Heap)(L d:Addr):List (Addr×Obj):=(List.range h.objs.size).filterMap λa=>if a=L∨a=d then none else(h.get? a).map λo=>(a,o)
end
end Att
namespace L2
open PySem PySem.Spec PyProof.Rows
theorem wc:∀{vs:List Value}{ns:List Int},IntsAre vs ns->cn (ns.map V.int) vs
 |_,_,.nil=>.nil
 |_,_,.cons n t h=>.cons ⟨t,rfl⟩ (wc h)
def MF(H:Hp):Prop:=∀b,H b=none∨(∃o xs,H b=some (.frz o (.lst xs)))∨∃q,H b=some (.tbl q)
noncomputable def eY(K:PySem.W.Frag):List (Addr×Str):=lamNames.filterMap λx=>(PySem.W.tabIn K x).map λp=>(p.2,t8 x)
noncomputable def tabsOk(K:PySem.W.Frag):Bool:=decide ((eY K).map (·.1)).Nodup && (eY K).all λp=>(K.lookup p.1).isNone
theorem B5{K:PySem.W.Frag}{P:Addr}{q:Str}(h:(P,q)∈eY K):∃x∈lamNames,∃c,PySem.W.tabIn K x=some (c,P)/\q=t8 x:=by
 obtain⟨x,hx,e⟩:=VP.mp h
 cases z:PySem.W.tabIn K x with
 |none=>rw[z]at e;cases e
 |some p=>rw[z]at e;cases e;exact⟨x,hx,p.1,z,rfl⟩
theorem lz{α β:Type}[BEq α][LawfulBEq α]:∀{l:List (α×β)}{a:α}{b:β},l.lookup a=some b->(a,b)∈l
 |[],_,_,h=>nomatch h
 | (x,y)::r,a,b,h=>by
  rw[UR]at h
  cases hb:a == x with
  |true=>rw[hb]at h;cases h;rw[eq_of_beq hb];exact .head _
  |false=>rw[hb]at h;exact .tail _ (lz h)
theorem jH{α β:Type}[BEq α][LawfulBEq α]:∀{l:List (α×β)}{a:α}{b:β},(l.map (·.1)).Nodup->(a,b)∈l->l.lookup a=some b
 |[],_,_,_,h=>nomatch h
 | (x,y)::r,a,b,nd,h=>by
  rw[Ur,Uz]at nd;rw[UR];rcases Ue.mp h with e|h
  . cases e;simp
  . have:a≠x:=λz=>nd.1 (z ▸ List.mem_map_of_mem (f:=(·.1)) h);rw[show(a == x)=false from beq_false_of_ne this];exact jH nd.2 h
theorem AS{K:PySem.W.Frag}{x:Str}{c P:Addr}(h:PySem.W.tabIn K x=some (c,P)):K.lookup c≠none:=by
 unfold PySem.W.tabIn at h;split at h
 .
  split at h
  .
   split at h
   .
    split at h
    .
     rename_i hco;split at h
     . cases h;intro z;rw[hco]at z;cases z
     . cases h
    . cases h
   . cases h
  . cases h
 . cases h
theorem EJ{P:Program}{w:World}{K:PySem.W.Frag}{mg mb:Str->Option Value}{CX:Pu}{k:Nat}{fa a:Addr}{fd:FuncData}{x:Str}{sp:Sp}{s₁:Shared}{vs:List Value}{ns:List Int}
  (KX:K.In s₁.heap) (hns:s₁.heap.Ns mainGlobals mg) (hb:s₁.heap.Ns builtinsNs mb) (hbb:∀ x:Str,x≠"__name__"->mb x=bootBuiltins x) (hlim:s₁.heap.NoLimit) (hsys:∃ mm,s₁.heap.Ns sysModules mm) (hbm:Kt mg s₁.heap) (hto:tabsOk K=true)
  (htb:∀x∈lamNames,∀c P,PySem.W.tabIn K x=some (c,P)->PySem.W.CodeHd s₁.heap c P/\s₁.heap.get? P=some (PySem.W.tabObj #[])) (hg:s₁.gens=#[])
  (ha:s₁.heap.get? a=some {cls:=.type "list",data:=.seq vs.toArray}) (hi:IntsAre vs ns) (hl:ns.length<=sizeLine) (hr:gG k callerA)
  (F:∀base:Heap,K.In base->base.Ns mainGlobals mg->FnOk P w K mg base CX k fa fd [x] sp) (hbind:∀(s:Shared)(u:Value),BindsTo s fd ⟨[u],[]⟩ [(x,u)])
  (hsp:∀H:Hp,MF H->Pc K H a (ns.map V.int)->sp [.ref a] H (λv _=>v=.bl true) λ_ _ _=>False)
  (hCX:∀H e s',CX [] H s₁ (λ_ _ _=>False) e s'->False) :
  codeAny (model P w) callerA (.call (.ref fa) ⟨[.ref a],[]⟩) (λr s'=>r=.ok (.ret (.bool true))/\OldK s₁.heap s'.heap/\s'.os=s₁.os/\AllBare s'.gens) s₁:=by
 have rv:=wc hi;have lenV:=hi.length;obtain⟨nd,kn⟩:=V0.mp hto;have nd:=of_decide_eq_true nd;have tabAt:∀{b:Addr}{q:Str},(eY K).lookup b=some q->PySem.isCodeTable s₁.heap b/\s₁.heap.get? b=some (PySem.W.tabObj #[])/\K.lookup b=none:=λ{b q} e=>by have hm:(b,q)∈eY K:=lz e;obtain⟨x,hx,c,e1,_⟩:=B5 hm;obtain⟨h1,h2⟩:=htb x hx c b e1;refine⟨(h1.tab h2).isCodeTable,h2,?_⟩;have:=UW.mp kn (b,q) hm;simpa using this
 have core:∀H:Hp,MF H->Pc K H a (ns.map V.int)->O0 P w H s₁.heap->(∀b,H b≠none->b=a∨∃q,H b=some (.tbl q)/\(eY K).lookup b=some q)->(∀b,H b≠none->K.lookup b=none)->O3 K H ->
   codeAny (model P w) callerA (.call (.ref fa) ⟨[.ref a],[]⟩) (λr s'=>r=.ok (.ret (.bool true))/\OldK s₁.heap s'.heap/\s'.os=s₁.os/\AllBare s'.gens) s₁:=by
  intro H hO hS hok hA hK hT;have base_of:∀{b:Addr}{o:Obj},s₁.heap.get? b=some o->H b=none->(Es s₁.heap H).get? b=some o:=λe n=>Et e n
  have noB:∀{b:Addr}{o:Obj},s₁.heap.get? b=some o->(∀us n,o.data≠.seq us n)->(∀us,o.data≠.fields us)->H b=none:=λ{b o} e d1 d2=>by
   cases q:H b with
   |none=>rfl
   | some u =>
    rcases hA b (by rw[q];simp)with e' | ⟨z,_,e'⟩
    . subst e';rw[ha]at e;cases e;exact absurd rfl (d1 _ _)
    . rw[(tabAt e').2.1]at e;cases e;exact absurd rfl (d2 _)
  have noA:∀{b:Addr}{o:Obj}{es:Array DictEntry}{ep:Nat},s₁.heap.get? b=some o->o.data=.dict es ep->H b=none:=λ{b o es ep} e d =>
   noB e (λus n z=>by rw[d]at z;cases z) λus z=>by rw[d]at z;cases z
  have nsK:∀{b:Addr}{m:Str->Option Value},s₁.heap.Ns b m->(Es s₁.heap H).Ns b m:=λ{b m} ⟨o,es,ep,e,d,r⟩=>⟨o,es,ep,base_of e (noA e d),d,r⟩
  have hKb:K.In (Es s₁.heap H):=λb o e=>base_of (KX b o e) (by
   cases q:H b with
   |none=>rfl
   |some u=>rw[hK b (by rw[q];simp)]at e;cases e)
  have hM:Mod K mg (Es s₁.heap H):=⟨hKb,nsK hns,⟨mb,nsK hb,hbb⟩,let ⟨mc,h1,h2⟩:=hlim;⟨mc,nsK h1,h2⟩,let ⟨mm,h1⟩:=hsys;⟨mm,nsK h1⟩,by
   obtain⟨bm,ob,b1,b2,b3,b4,b5,b6⟩:=hbm
   exact⟨bm,ob,b1,b2,base_of b3 (noB b3 (λus n z=>by rw[b6]at z;cases z) λus z=>by rw[b6]at z;cases z),b4,b5,b6⟩,λx hx c P e=>by
   obtain⟨⟨o,vs,file,tf,flags,tg,PV,text,tt,e1,r⟩,_⟩:=htb x hx c P e
   exact⟨o,vs,file,tf,flags,tg,PV,text,tt,base_of e1 (by
    cases q:H c with
    |none=>rfl
    |some u=>exact absurd (hK c (by rw[q];simp)) (AS e)),r⟩⟩
  have e0:AN P w K mg (Es s₁.heap H) callerA [] s₁ H:=⟨rfl,hM,λb o e=>Hx e,Nat.le_of_eq (BH _ _),trivial,λb hb=>absurd (show b∈([]:List Addr)from hb) v6,hok,.of_eq hg,hT⟩;refine codeAny_mono ((F _ hKb (nsK hns)).run callerA [] s₁ H ⟨[.ref a],[]⟩ [.ref a] [.ref a] _ _ hr e0 (hbind s₁ (.ref a)) (.cons rfl .nil) (hsp H hO hS)) λr s' h=>?_
  cases r with
  |error e=>exact(hCX H e s' h).elim
  | ok fl =>
   cases fl with
   |next=>exact False.elim h
   |brk=>exact False.elim h
   |cont=>exact False.elim h
   | ret u =>
    obtain⟨v,H',os,bare,un,hok',r',q⟩:=h;have q':v=.bl true:=q;subst q';obtain rfl:u=Value.bool true:=r'
    have Pb:∀b o,s₁.heap.get? b=some o->s'.heap.get? b=some o∨(PySem.isCodeTable s₁.heap b/\o=PySem.W.tabObj #[]/\∃ps,s'.heap.get? b=some (PySem.W.tabObj ps)):=λb o e=>by
     cases q:H b with
     |none=>exact .inl (un.keep b o e q (by intro z;exact absurd (show b∈([]:List Addr)from z) v6) v6)
     | some u =>
      rcases hO b with z|⟨ob,xs,z⟩|⟨t,z⟩
      . rw[q]at z;cases z
      . have z2:=un.frzs b ob _ z;obtain⟨e1,_⟩:=hok b _ z;obtain⟨e2,_⟩:=hok' b _ z2;rw[e]at e1;cases e1;exact .inl e2
      .
       rcases hA b (by rw[q];simp)with e' | ⟨t2,_,e'⟩
       . subst e';obtain⟨ps,e1,_⟩:=hok b _ z;rw[ha]at e1;cases e1
       . obtain⟨ps,e2,_⟩:=hok' b _ (un.tbls b _ z);obtain⟨t1,t2,_⟩:=tabAt e';rw[e]at t2;cases t2;exact .inr ⟨t1,rfl,ps,e2⟩
    refine⟨rfl,⟨λb o e=>?_,λb o e=>?_⟩,os,bare⟩
    .
     rcases Pb b o e with z|⟨t,rfl,ps,z⟩
     . exact .inl z
     . exact .inr (.inl ⟨t,rfl,#[],ps,rfl,by rw[Array.empty_append];exact z⟩)
    .
     rcases Pb b o e with z|⟨t,_,ps,z⟩
     . exact⟨o,z⟩
     . exact⟨_,z⟩
 have tbsOf:∀{H:Hp},(∀b q,(eY K).lookup b=some q->H b=some (.tbl q))->O3 K H:=λ{H} h x hx c P e=>h P _ (jH nd (VP.mpr ⟨x,hx,by rw[e];rfl⟩));have okT:∀{H:Hp}{b:Addr}{q:Str},(eY K).lookup b=some q->eX P w H s₁.heap b (.tbl q):=λ{H b q} e=>⟨#[],(tabAt e).2.1,trivial,λpos cv z=>by simp[codeAmong]at z⟩;have na:∀q,(eY K).lookup a≠some q:=λq z=>by have:=(tabAt z).2.1;rw[ha]at this;cases this
 cases hk:K.lookup a with
 | some o =>
  have e:=KX a o hk;rw[ha]at e;cases e;refine core (λb=>((eY K).lookup b).map .tbl) (λb=>?_) (.inr ⟨_,vs.toArray,_,hk,rfl,rfl,rfl,by rw[Uk,lenV];exact hl,by simpa using rv⟩) (λb u z=>?_) (λb z=>?_) (λb z=>?_) (tbsOf λb q e=>by show Option.map _ _=_;rw[e];rfl)
  .
   show Option.map HO.tbl ((eY K).lookup b)=none∨_
   cases q:(eY K).lookup b with
   |none=>exact .inl rfl
   |some t=>exact .inr (.inr ⟨t,by show Option.map _ _=_;rw[q];rfl⟩)
  .
   have z':Option.map HO.tbl ((eY K).lookup b)=some u:=z
   cases q:(eY K).lookup b with
   |none=>rw[q]at z';cases z'
   |some t=>rw[q]at z';cases z';exact okT q
  .
   have z':Option.map HO.tbl ((eY K).lookup b)≠none:=z
   cases q:(eY K).lookup b with
   |none=>rw[q]at z';exact absurd rfl z'
   |some t=>exact .inr ⟨t,rfl,rfl⟩
  .
   have z':Option.map HO.tbl ((eY K).lookup b)≠none:=z
   cases q:(eY K).lookup b with
   |none=>rw[q]at z';exact absurd rfl z'
   |some t=>exact(tabAt q).2.2
 | none =>
  have at_a:∀ b,(if b=a then some (HO.frz {cls:=.type "list",data:=.seq vs.toArray} (.lst (ns.map V.int)))else((eY K).lookup b).map .tbl)≠none->b=a∨∃ q,(eY K).lookup b=some q:=λb z=>by
   by_cases hb:b=a
   . exact .inl hb
   .
    rw[if_neg hb]at z
    cases q:(eY K).lookup b with
    |none=>rw[q]at z;exact absurd rfl z
    |some t=>exact .inr ⟨t,rfl⟩
  have tabA:∀ b q,(eY K).lookup b=some q->(if b=a then some (HO.frz {cls:=.type "list",data:=.seq vs.toArray} (.lst (ns.map V.int)))else((eY K).lookup b).map .tbl)=some (.tbl q):=λb q e=>by rw[if_neg (λ(z:b=a)=>na q (by rw[<- z];exact e)),e];rfl
  refine core (λb=>if b=a then some (.frz {cls:=.type "list",data:=.seq vs.toArray} (.lst (ns.map V.int)))else((eY K).lookup b).map .tbl) (λb=>?_) (.inl (.inr ⟨{cls:=.type "list",data:=.seq vs.toArray},if_pos rfl⟩)) (λb u z=>?_) (λb z=>?_) (λb z=>?_) (tbsOf λb q e=>tabA b q e)
  .
   by_cases hb:b=a
   . exact .inr (.inl ⟨_,_,if_pos hb⟩)
   .
    cases q:(eY K).lookup b with
    |none=>exact .inl (by show ite _ _ _=_;rw[if_neg hb,q];rfl)
    |some t=>exact .inr (.inr ⟨t,tabA b t q⟩)
  .
   by_cases hb:b=a
   . have z':=(if_pos hb).symm.trans z;cases z';subst hb;exact⟨ha,by rw[TY];exact hl,vs,_,rv,ha⟩
   .
    have z':=(if_neg hb).symm.trans z
    cases q:(eY K).lookup b with
    |none=>rw[q]at z';cases z'
    |some t=>rw[q]at z';cases z';exact okT q
  .
   rcases at_a b z with e|⟨q,e⟩
   . exact .inl e
   . exact .inr ⟨q,tabA b q e,e⟩
  .
   rcases at_a b z with e|⟨q,e⟩
   . rw[e];exact hk
   . exact(tabAt e).2.2
theorem walk_of{l:PySem.W.OpenLaw}{n k:Nat}{q:Program}{loose:List Str}{XP:(Str->Option Value)->Heap->Prop}{YP:World->Heap->Prop}{d:DefRec}{K:Params->PySem.W.Frag}{CX:World->Pu}{sp:World->Sp}{x:Str}
  (hn:l.most=some n) (hq:importsNone q=true) (hn2:n<=sizeLine) (hdf:d.params.defaults=[]) (hr:gG k callerA)
  (hY:∀(w:World)(h:Heap),YP w h->(K w.params).In h) (hto:∀w:World,tabsOk (K w.params)=true) (hrc:∀(w:World),∀x∈lamNames,PySem.W.tabIn (K w.params) x=none∨((recsOf q).find? λe=>e.name == x).isSome=true)
  (F:∀(w:World)(mg:Str->Option Value)(fa:Addr)(h:Heap),(K w.params).In h->h.Ns mainGlobals mg->mg d.name=some (.ref fa) ->
   ∃fd:FuncData,(∀(s:Shared)(u:Value),BindsTo s fd ⟨[u],[]⟩ [(x,u)]) /\
    ∀base:Heap,(K w.params).In base->base.Ns mainGlobals mg->FnOk l.prog w (K w.params) mg base (CX w) k fa fd [x] (sp w))
  (hsp:∀(w:World)(H:Hp)(a:Addr)(ns:List Int),ns.length<=n->MF H->Pc (K w.params) H a (ns.map V.int)->sp w [.ref a] H (λv _=>v=.bl true) λ_ _ _=>False)
  (hCX:∀(w:World)(H:Hp)(s:Shared)(e:Value)(s':Shared),CX w [] H s (λ_ _ _=>False) e s'->False) :
  PySem.W.WalkO q loose XP YP l.row.toRowW d [] (λf vs=>PySem.call f vs):=by
 refine Att.attach_call hn hdf λw s₀ s₁ mg mb fa o pm cd doc a vs ns G Y ho hd hcd hmg hobj hints p4 hg=>?_;have KX:=hY w _ Y;obtain⟨fd,hb,hF⟩:=F w mg fa _ KX G.T.g hmg
 exact EJ KX G.T.g G.T.b G.T.builtins G.T.nolimit (let ⟨mm,h1,_⟩:=(G.T.seer hq).mods;⟨mm,h1⟩) (let ⟨bm,ob,b1,b2,b3,b4,b5,b6⟩:=G.T.bmain;⟨bm,ob,b1,b2,b3,b4,b5,b6⟩) (hto w) (λy hy c P e=>by
  rcases hrc w y hy with z|z
  . rw[z]at e;cases e
  .
   obtain⟨d',hd'⟩:=Option.isSome_iff_exists.mp z
   exact PySem.W.tab_of G.T KX hd' e) hg hobj hints (T9 p4 hn2) hr hF hb (λH hO hS=>hsp w H a ns p4 hO hS) λH e s'=>hCX w H s₁ e s'
noncomputable def jI(s:Stmt):Arguments:=match s with
 |.FunctionDef _ a _ _ _ _ _ _ _ _=>a
 |_=>{posonlyargs:=[],args:=[],vararg:=none,kwonlyargs:=[],kw_defaults:=[],kwarg:=none,defaults:=[] }
noncomputable def dz(s:Stmt):List Stmt:=match s with
 |.FunctionDef _ _ b _ _ _ _ _ _ _=>b
 |_=>[]
noncomputable def au(s:Stmt):Scope:=match s with
 |.FunctionDef _ _ _ _ _ _ sc _ _ _=>sc
 |_=>{kind:=.function,names:=[],isGenerator:=false,isCoroutine:=false}
noncomputable abbrev CX0:Pu:=λ_ _ _ _ _ _=>False
noncomputable abbrev E0:XK:=λ_ _ _=>False
theorem HS{X:Cx}:zA CX0 X E0:=λ_ _ _ _ _ _ _ h=>h.elim
structure PX (K:PySem.W.Frag) (x qual:Str) (st:Stmt) (f:Addr) (fd:FuncData):Prop where
 ex:∃(oc:Value)(od:Option Addr)(kV doc pm:Value)(an:Option Addr)(cdv ct:Value)(osl:Array (Option Value)),
  fd=PySem.W.fnOf x qual (jI st) (dz st) (au st) .none kV doc pm an cdv ct/\K.lookup f=some ⟨oc,od,.func fd,osl⟩/\PySem.W.codeIn K cdv qual=true
 kp:PySem.W.keepIn K (.ref f)=true
section
variable{P:Program}{w:World}{K:PySem.W.Frag}{mg:Str->Option Value}{base:Heap}
theorem PX.ok{x qual:Str}{st:Stmt}{f:Addr}{fd:FuncData}{N ps:List Str}{k:Nat}{sp:Sp}(F:PX K x qual st f fd)(S:aC N ps (au st))(len:∀vs H Q E,sp vs H Q E->vs.length=ps.length)
  (hbody:∀(cdv:Value)(A:Around)(outer:List Env)(s:Shared)(H:Hp)(vs:List V)(Q:VK)(E:XK),gG k (A.deeper (envOfC qual (au st) s.heap.objs.size f cdv))->sp vs H Q E ->
   ∃t,O8 (Em CX0 P w K mg base N qual (au st) f cdv A outer s H E).nox (dz st) t/\t {nx:=λ_ H'=>Q .non H',rt:=Q} (oJ N vs) H):FnOk P w K mg base CX0 (k+1) f fd ps sp:=by
 obtain⟨oc,od,kV,doc,pm,an,cdv,ct,osl,rfl,lk,hcd⟩:=F.ex;refine HK lk hcd S len λA outer s H vs Q E hr hsp=>?_;obtain⟨t,h,q⟩:=hbody cdv A outer s H vs Q E hr hsp;exact⟨t,h.nox,q⟩
theorem PX.binds{x qual:Str}{st:Stmt}{f:Addr}{fd:FuncData}{ps:List Str}(F:PX K x qual st f fd)
  (h:∀(kV doc pm:Value)(an:Option Addr)(cdv ct:Value)(us:List Value),us.length=ps.length->bindArgs (PySem.W.fnOf x qual (jI st) (dz st) (au st) .none kV doc pm an cdv ct) ⟨us,[]⟩=pure (ps.zip us)):oI K fd ps []:=by
 obtain⟨oc,od,kV,doc,pm,an,cdv,ct,osl,rfl,lk,hcd⟩:=F.ex;exact .all (h kV doc pm an cdv ct)
theorem ub{x qual:Str}{st:Stmt}{f:Addr}{oc:Value}{od an:Option Addr}{osl:Array (Option Value)}{kV doc pm cdv ct:Value}(l:K.lookup f=some ⟨oc,od,.func (PySem.W.fnOf x qual (jI st) (dz st) (au st) .none kV doc pm an cdv ct),osl⟩)
  (c:PySem.W.codeIn K cdv qual=true) (k:PySem.W.keepIn K (.ref f)=true):PX K x qual st f (PySem.W.fnOf x qual (jI st) (dz st) (au st) .none kV doc pm an cdv ct):=⟨⟨oc,od,kV,doc,pm,an,cdv,ct,osl,rfl,l,c⟩,k⟩
end
section
variable{X:Cx}
theorem pv(i:Nat){x:Str}{pos:Pos}(hN:X.N[i]?=some x:=by rfl)(hv:O5 X.env.scope x:=by first | exact Or.inl rfl | exact Or.inr (Or.inl rfl) | exact Or.inr (Or.inr rfl)) (hd:(x == ("__debug__" : Str))=false:=by decide)
  (hcd:(x == ("__classdict__" : Str))=false:=by decide):PE X (.Name x pos) (Hz i):=jn hN hv hd hcd
end
def N5(H H':Hp):Prop:=∀b o,H b=some o->H' b=some o
theorem N5.free{H H':Hp}(e:N5 H H'){l:Addr}(h:H' l=Option.none):H l=Option.none:=by
 cases q:H l with
 |none=>rfl
 | some o =>
  rw[e l o q]at h;cases h
end L2
set_option maxHeartbeats 0
namespace L2
open PySem PySem.Spec
open Sem (wp)
theorem kR:Slot "function" "__getattribute__" "object.__getattribute__" :=
 .of (owner:="object") (n:="__getattribute__") (by rw[typeLookup_type,builtinLookup_eq_fast]; kernel_rfl) y_ y_ y_
  (by first|exact .inl y_|exact .inr y_) (by rw[isSubtype_type];kernel_rfl)
theorem yc:entryFor table "object.__getattribute__"=some Builtin.«object.__getattribute__»:=by
 first | exact F.entry_object_getattribute | exact entryFor_alias (id':="object.__getattribute__") z_ (by first | rfl | decide +kernel) y_ z_ | kernel_rfl
theorem AU(a b:Value):argsOk "object.__getattribute__" ⟨[a,b],[]⟩:=by
 first|exact F.args_object_getattribute_2 a b|(unfold argsOk;kernel_rfl)
theorem yd:typeLookup (.type "function") "__class__"=pure (some (.builtin "object.__class__")):=by rw[typeLookup_type,builtinLookup_eq_fast]; kernel_rfl
theorem nj:isSubtype (.type "function") (.type (".".intercalate ("object.__class__".cutAt '.').dropLast))=pure true:=by rw[F.owner_object_class,isSubtype_type];kernel_rfl
section
variable{prog:Program}{w:World}{A:Around}{E:Value->Shared->Prop}{h:Heap}{g:Array GenState}{d:Drawn}{t:Nat}{os:OsState}{a:Addr}{o:Obj}
theorem wd{R:Result->Shared->Prop}(hx:h.get? a=some o) (hc:o.cls=.type "function") (hq:R (.ok (.ret (.type "function"))) ⟨h,g,d,t,os⟩) :
  codeAny (model prog w) A (.call (.builtin "getset_descriptor.__get__") ⟨[.builtin "object.__class__",.ref a,.type "function"],[]⟩) R ⟨h,g,d,t,os⟩:=by
 have hT:(⟨h,g,d,t,os⟩:Shared).TypeIs (.ref a) "function":=⟨_,hx,hc⟩;have hT5:(⟨h,g,d,t,os⟩:Shared).TypeIs (.builtin "object.__class__") "getset_descriptor":=F.typeOf_object_class;have f8:=nj;refine VZ F.slot_gs_get.plain F.entry_gs_get (F.slot_gs_get.check _ _ _ _ _ _ _ _ hT5 (F.args_gs_get _ _ _) ?_)
 repeat (any_goals (first|assumption|wp_step))
 refine⟨Code.quiet_builtin _ y_,codeAny_builtin F.entry_object_class ?_⟩
 repeat (any_goals (first|assumption|wp_step))
theorem sS{tk:Tok}{Q:PySem.Fin->Shared->Prop}(hx:h.get? a=some o) (hc:o.cls=.type "function") (hq:Q (.done (.ret (.type "function"))) ⟨h,g,d,t,os⟩) :
  wpAny (model prog w) A (Builtin.«object.__getattribute__» ⟨[.ref a,.str "__class__" tk],[]⟩) Q E ⟨h,g,d,t,os⟩:=by
 have hT:(⟨h,g,d,t,os⟩:Shared).TypeIs (.ref a) "function":=⟨_,hx,hc⟩;have hT5:(⟨h,g,d,t,os⟩:Shared).TypeIs (.builtin "object.__class__") "getset_descriptor":=F.typeOf_object_class;have f4:=yd;have f5:=F.typeOf_object_class;have f6:=F.slot_gs_get.lookup;have f7:=F.slot_gs_set.lookup
 repeat (any_goals (first|assumption|wp_step))
 refine wd hx hc ?_
 repeat (any_goals (first|assumption|wp_step))
theorem uD{tk:Tok}{R:Result->Shared->Prop}(hx:h.get? a=some o) (hc:o.cls=.type "function") (hq:R (.ok (.ret (.type "function"))) ⟨h,g,d,t,os⟩) :
  codeAny (model prog w) A (.call (.builtin "object.__getattribute__") ⟨[.ref a,.str "__class__" tk],[]⟩) R ⟨h,g,d,t,os⟩ :=
 VZ kR.plain yc (kR.check _ _ _ _ _ _ _ _ (show(⟨h,g,d,t,os⟩:Shared).TypeIs (.ref a) "function" from⟨_,hx,hc⟩) (AU _ _) (sS hx hc hq))
theorem ye{tk:Tok}{Q:Value->Shared->Prop}(hx:h.get? a=some o) (hc:o.cls=.type "function") (hq:Q (.type "function") ⟨h,g,d,t,os⟩):wpAny (model prog w) A (getAttrBy (.ref a) (.str "__class__" tk) false) Q E ⟨h,g,d,t,os⟩:=by
 have hT:(⟨h,g,d,t,os⟩:Shared).TypeIs (.ref a) "function":=⟨_,hx,hc⟩;have f2:=kR.lookup;have f3:=kR.bind (.ref a)
 repeat (any_goals (first|assumption|wp_step))
 refine uD hx hc ?_
 repeat (any_goals (first|assumption|wp_step))
theorem uE{Q:Option Value->Shared->Prop}(hx:h.get? a=some o) (hc:o.cls=.type "function") (hq:Q (some (.type "function")) ⟨h,g,d,t+1,os⟩):wpAny (model prog w) A (getAttr? (.ref a) "__class__") Q E ⟨h,g,d,t,os⟩:=by
 unfold getAttr? getAttrBy?
 repeat (any_goals (first|assumption|with_reducible apply ye hx hc|wp_step))
end
theorem HU{K:PySem.W.Frag}{a:Addr}:PySem.W.KitX K (.ref a) (.type "function") (PySem.W.KitAt a "function"):=PySem.W.kitx_of PySem.W.kitAt_ty (λ{_ _ _ _ _ s} p k=>by obtain⟨h,g,d,t,os⟩:=s; obtain⟨o,h1,h2⟩:=p; exact uE h1 h2 k)
end L2
namespace L2
open PySem PySem.Spec PyProof.Rows
inductive D where
 |non|bl (b:Bool)|int (i:Int)|str (x:Str)|tup (xs:List D)|lst (xs:List D)|dct (n:Nat)|exc (c:Str) (ns:List Str) (xs:List D)|fn (x:Str) (d:D)
def PY(K:PySem.W.Frag)(H:Hp)(a:Addr)(xs:List V):Prop :=
 (∃o,H a=some (.frz o (.lst xs))) ∨
  ∃(o:Obj)(its:Array Value)(n:Nat),K.lookup a=some o/\o.cls=.type "list"/\o.dict=none/\o.data=.seq its n/\its.size<=sizeLine/\cn xs its.toList
theorem PY.l{K:PySem.W.Frag}{H:Hp}{a:Addr}{xs:List V}(h:PY K H a xs):Pc K H a xs:=by
 rcases h with⟨o,h⟩|h
 . exact .inl (.inr ⟨o,h⟩)
 . exact .inr h
def EK:HO->Prop
 |.frz _ u=>EK u
 |.ins _ _ _=>False
 |_=>True
noncomputable def BA(C L:Addr):List Value:=(if C=L then[]else[.ref C])++[.ref L,.type "ValueError",.type "Exception",.type "BaseException",.type "object"]
noncomputable def jJ(K:PySem.W.Frag)(c:Str)(C:Addr):Bool:=match PySem.W.clsIn K C,PySem.W.nsIn K mainGlobals "LoadError" with
 | some cd,some (some (.ref L))=>cd.name == c && cd.hasDict && cd.mro == BA C L && (PySem.W.clsIn K L).any (λk=>k.name == ("LoadError" : Str)) &&
  PySem.W.findIn K (.ref C) "__getattribute__" == some (some (.builtin "BaseException.__getattribute__")) && PySem.W.findIn K (.ref C) "__getattr__" == some none && PySem.W.findIn K (.ref C) "__class__" == some (some (.builtin "object.__class__")) &&
  PySem.W.findIn K (.ref C) "__setattr__" == some (some (.builtin "object.__setattr__")) && PySem.W.typeIn K (.ref C) == some (.type "type") && PySem.W.nsIn K mainGlobals c == some (some (.ref C))
 |_,_=>false
noncomputable def B6:List Stmt->Option (Arguments×Expr×Scope×Pos)
 |[]=>none
 | st::r=>match B6 r with
  |some l=>some l
  | none=>match st with
   | .Expr (.Call _ args _ _) _=>(match args.getLast? with
    |some (.Lambda p b sc pos)=>some (p,b,sc,pos)
    |_=>none)
   | .Return (some (.Call _ _ kws _)) _=>(match kws.getLast? with
    |some ⟨_,.Lambda p b sc pos,_⟩=>some (p,b,sc,pos)
    |_=>none)
   |_=>none
noncomputable def AV(K:PySem.W.Frag)(x:Str):Option (Arguments×Expr×Scope×Pos):=match PySem.W.nsIn K mainGlobals x with
 | some (some (.ref f))=>(match K.lookup f with
  | some ⟨_,_,.func fd,_⟩=>(match fd.body with
   |.stmts b=>B6 b
   |_=>none)
  |_=>none)
 |_=>none
def XF(H:Hp)(dx:Option Addr)(ns:List Str)(vs:List V):Prop:=(ns=[]/\vs=[]/\dx=none)∨∃d od,dx=some d/\H d=some (.frz od (.xd (ns.zip vs)))/\ns.length=vs.length
mutual
inductive PZ (K:PySem.W.Frag) (H:Hp):V->D->Prop where
 |non:PZ K H .non .non
 |bl (b:Bool):PZ K H (.bl b) (.bl b)
 |int (i:Int):PZ K H (.int i) (.int i)
 |str (x:Str):PZ K H (.str x) (.str x)
 |tup {a:Addr} {vs:List V} {ds:List D} (h:Pd K H a vs) (r:bU K H vs ds):PZ K H (.ref a) (.tup ds)
 |lst {a:Addr} {vs:List V} {ds:List D} (h:PY K H a vs) (r:bU K H vs ds):PZ K H (.ref a) (.lst ds)
 |dct {a:Addr} {o:Obj} {kvs:List (OY×V)} (h:H a=some (.frz o (.dK kvs))):PZ K H (.ref a) (.dct kvs.length)
 |exc {a:Addr} {o:Obj} {u:HO} {c:Str} {C:Addr} {ns:List Str} {vs:List V} {ds:List D} (h:H a=some (.frz o u)) (hv:EK u) (hc:o.cls=.ref C) (hn:PySem.W.notCls o=true) (hs:jJ K c C=true) (hq:∀f∈ns,PySem.W.findIn K (.ref C) f=some none) (hf:XF H o.dict ns vs) (r:bU K H vs ds):PZ K H (.ref a) (.exc c ns ds)
 | fn {f c c':Addr} {oc oq:Obj} {x y:Str} {pr:Arguments} {bd:Expr} {sc:Scope} {pos:Pos} {pm ctv u:Value} {v:V} {d:D} (hl:AV K x=some (pr,bd,sc,pos)) (hf:H f=some (.frz (PySem.W.kla_obj "<lambda>" (t8 x) pr bd sc [(y,c)] pm c' ctv) (.own f)))
  (hq:H c'=some (.frz oq (.own c'))) (hc:pM oq (t8 x)) (hz:H c=some (.frz oc (.own c))) (hd:oc.data=.cell (some u)) (hv:cB v u) (hm:(y,NameKind.free)∈sc.names) (r:PZ K H v d):PZ K H (.ref f) (.fn x d)
inductive bU (K:PySem.W.Frag) (H:Hp):List V->List D->Prop where
 |nil:bU K H [] []
 |cons {v:V} {d:D} {vs:List V} {ds:List D} (h:PZ K H v d) (t:bU K H vs ds):bU K H (v::vs) (d::ds)
end
def MG:HO->Prop
 |.tup _=>True
 |.frz _ _=>True
 |.tbl _=>True
 |_=>False
def vN(H H':Hp):Prop:=∀b o,MG o->H b=some o->H' b=some o
theorem Pd.pres{K:PySem.W.Frag}{H H':Hp}{a:Addr}{xs:List V}(p:vN H H')(h:Pd K H a xs):Pd K H' a xs:=by
 rcases h with(h|⟨o,h⟩)|h
 . exact .inl (.inl (p _ _ True.intro h))
 . exact .inl (.inr ⟨o,p _ _ True.intro h⟩)
 . exact .inr h
theorem PY.pres{K:PySem.W.Frag}{H H':Hp}{a:Addr}{xs:List V}(p:vN H H')(h:PY K H a xs):PY K H' a xs:=by
 rcases h with⟨o,h⟩|h
 . exact .inl ⟨o,p _ _ True.intro h⟩
 . exact .inr h
theorem XF.pres{H H':Hp}(p:vN H H'){dx:Option Addr}{ns:List Str}{vs:List V}(h:XF H dx ns vs):XF H' dx ns vs:=by
 rcases h with h|⟨d,od,e,h,l⟩
 . exact .inl h
 . exact .inr ⟨d,od,e,p _ _ True.intro h,l⟩
mutual
theorem PZ.pres{K:PySem.W.Frag}{H H':Hp}(p:vN H H'):∀{v:V}{d:D},PZ K H v d->PZ K H' v d
 |_,_,.non=>.non
 |_,_,.bl b=>.bl b
 |_,_,.int i=>.int i
 |_,_,.str x=>.str x
 |_,_,.tup h r=>.tup (h.pres p) (bU.pres p r)
 |_,_,.lst h r=>.lst (h.pres p) (bU.pres p r)
 |_,_,.dct h=>.dct (p _ _ True.intro h)
 |_,_,.exc h hv hc hn hs hq hf r=>.exc (p _ _ True.intro h) hv hc hn hs hq (hf.pres p) (bU.pres p r)
 |_,_,.fn hl hf hq hc hz hd hv hm r=>.fn hl (p _ _ True.intro hf) (p _ _ True.intro hq) hc (p _ _ True.intro hz) hd hv hm (PZ.pres p r)
theorem bU.pres{K:PySem.W.Frag}{H H':Hp}(p:vN H H'):∀{vs:List V}{ds:List D},bU K H vs ds->bU K H' vs ds
 |_,_,.nil=>.nil
 |_,_,.cons h t=>.cons (PZ.pres p h) (bU.pres p t)
end
theorem bU.length{K:PySem.W.Frag}{H:Hp}:∀{vs:List V}{ds:List D},bU K H vs ds->vs.length=ds.length
 |_,_,.nil=>rfl
 |_,_,.cons _ t=>by simp[bU.length t]
theorem bU.get{K:PySem.W.Frag}{H:Hp}:∀{vs:List V}{ds:List D}{i:Nat}{d:D},bU K H vs ds->ds[i]?=some d->∃v,vs[i]?=some v/\PZ K H v d
 |_,_,_,_,.nil,e=>by simp at e
 |_,_,0,_,.cons h _,e=>by simp at e;subst e;exact⟨_,rfl,h⟩
 | _,_,i+1,d,.cons _ t,e=>by obtain⟨v,h1,h2⟩:=bU.get (i:=i) (d:=d) t (by simpa using e);exact⟨v,by simpa using h1,h2⟩
theorem bU.set{K:PySem.W.Frag}{H:Hp}{v:V}{d:D}(r:PZ K H v d):∀{vs:List V}{ds:List D}(i:Nat),bU K H vs ds->bU K H (vs.set i v) (ds.set i d)
 |_,_,_,.nil=>.nil
 |_,_,0,.cons _ t=>.cons r t
 |_,_,i+1,.cons h t=>.cons h (bU.set r i t)
theorem bU.append{K:PySem.W.Frag}{H:Hp}:∀{vs us:List V}{ds es:List D},bU K H vs ds->bU K H us es->bU K H (vs++us) (ds++es)
 |_,_,_,_,.nil,s=>s
 |_,_,_,_,.cons h t,s=>.cons h (bU.append t s)
theorem bU.take{K:PySem.W.Frag}{H:Hp}:∀{vs:List V}{ds:List D}(n:Nat),bU K H vs ds->bU K H (vs.take n) (ds.take n)
 |_,_,0,_=>.nil
 |_,_,_+1,.nil=>.nil
 |_,_,n+1,.cons h t=>.cons h (bU.take n t)
theorem bU.drop{K:PySem.W.Frag}{H:Hp}:∀{vs:List V}{ds:List D}(n:Nat),bU K H vs ds->bU K H (vs.drop n) (ds.drop n)
 |_,_,0,r=>r
 |_,_,_+1,.nil=>.nil
 |_,_,n+1,.cons _ t=>bU.drop n t
inductive L where
 |un|d (x:D)|own (a:Addr) (xs:List D)|bx (k:Option Addr) (ls:List L)|dic (a:Addr) (kvs:List (OY×D))
noncomputable abbrev Ev:=List L
mutual
noncomputable def bc:L->List Addr
 |.un=>[]
 |.d _=>[]
 |.own a _=>[a]
 |.bx k ls=>k.toList++eZ ls
 |.dic a _=>[a]
noncomputable def eZ:List L->List Addr
 |[]=>[]
 |l::ls=>bc l++eZ ls
end
noncomputable def owns(Z:Ev):List Addr:=Z.flatMap bc
theorem fb:∀ls:List L,eZ ls=owns ls
 |[]=>rfl
 |l::ls=>by rw[eZ,fb ls];rfl
mutual
def ba(K:PySem.W.Frag)(H:Hp)(s:Option V):L->Prop
 |.un=>True
 |.d x=>∃v,s=some v/\PZ K H v x
 |.own a xs=>s=some (.ref a)/\∃vs,H a=some (.lst vs)/\bU K H vs xs
 |.bx none ls=>∃a vs,s=some (.ref a)/\Pd K H a vs/\cj K H vs ls
 |.bx (some a) ls=>s=some (.ref a)/\∃vs,H a=some (.lst vs)/\cj K H vs ls
 |.dic a kvs=>s=some (.ref a)/\∃vs,H a=some (.dK vs)/\Paired (λ(p:OY×V) (q:OY×D)=>p.1=q.1/\PZ K H p.2 q.2) vs kvs
def cj(K:PySem.W.Frag)(H:Hp)(vs:List V):List L->Prop
 |[]=>vs=[]
 |l::ls=>∃v us,vs=v::us/\ba K H (some v) l/\cj K H us ls
end
mutual
theorem ba.pres{K:PySem.W.Frag}{H H':Hp}(p:vN H H'):∀{s:Option V}(l:L),(∀a∈bc l,H' a=H a)->ba K H s l->ba K H' s l
 |_,.un,_,_=>by simp only[ba]
 | _,.d x,_,h=>by
  simp only[ba]at h ⊢
  obtain⟨v,e,r⟩:=h
  exact⟨v,e,r.pres p⟩
 | _,.own a xs,q,h=>by
  simp only[ba]at h ⊢
  obtain⟨e,vs,ha,r⟩:=h
  exact⟨e,vs,(q a (by simp[bc])).trans ha,r.pres p⟩
 | _,.bx none ls,q,h=>by
  simp only[ba]at h ⊢
  obtain⟨a,vs,e,ha,r⟩:=h
  exact⟨a,vs,e,ha.pres p,cj.pres p ls (λb hb=>q b (by simp[bc,hb])) r⟩
 | _,.bx (some a) ls,q,h=>by
  simp only[ba]at h ⊢
  obtain⟨e,vs,ha,r⟩:=h
  exact⟨e,vs,(q a (by simp[bc])).trans ha,cj.pres p ls (λb hb=>q b (by simp[bc,hb])) r⟩
 | _,.dic a kvs,q,h=>by
  simp only[ba]at h ⊢
  obtain⟨e,vs,ha,r⟩:=h
  exact⟨e,vs,(q a (by simp[bc])).trans ha,Paired.mapP r λ_ _ z=>⟨z.1,z.2.pres p⟩⟩
theorem cj.pres{K:PySem.W.Frag}{H H':Hp}(p:vN H H'):∀{vs:List V}(ls:List L),(∀a∈eZ ls,H' a=H a)->cj K H vs ls->cj K H' vs ls
 |_,[],_,h=>by simpa only[cj]using h
 | _,l::ls,q,h=>by
  simp only[cj]at h ⊢
  obtain⟨v,us,e,h1,h2⟩:=h
  exact⟨v,us,e,ba.pres p l (λb hb=>q b (by simp[eZ,hb])) h1,cj.pres p ls (λb hb=>q b (by simp[eZ,hb])) h2⟩
end
def HV:HO->Prop
 |.lst _=>True
 |.dK _=>True
 |_=>False
theorem HV.no{o:HO}(h:HV o)(p:MG o):False:=by cases o<;>first|exact h|exact p
mutual
theorem ba.lstAt{K:PySem.W.Frag}{H:Hp}:∀{s:Option V}(l:L),ba K H s l->∀a∈bc l,∃o,H a=some o/\HV o
 |_,.un,_,a,ha=>by simp[bc]at ha
 |_,.d x,_,a,ha=>by simp[bc]at ha
 | _,.own b xs,h,a,ha=>by
  simp only[ba]at h
  have e:a=b:=by simpa[bc]using ha
  subst e
  obtain⟨_,vs,q,_⟩:=h
  exact⟨_,q,True.intro⟩
 | _,.bx none ls,h,a,ha=>by
  simp only[ba]at h
  obtain⟨b,vs,e,_,r⟩:=h
  exact cj.lstAt ls r a (by simpa[bc]using ha)
 | _,.bx (some b) ls,h,a,ha=>by
  simp only[ba]at h
  obtain⟨e,vs,q,r⟩:=h
  rcases(by simpa[bc]using ha:a=b∨a∈eZ ls)with z|z
  .
   subst z;exact⟨_,q,True.intro⟩
  .
   exact cj.lstAt ls r a z
 | _,.dic b xs,h,a,ha=>by
  simp only[ba]at h
  have e:a=b:=by simpa[bc]using ha
  subst e
  obtain⟨_,vs,q,_⟩:=h
  exact⟨_,q,True.intro⟩
theorem cj.lstAt{K:PySem.W.Frag}{H:Hp}:∀{vs:List V}(ls:List L),cj K H vs ls->∀a∈eZ ls,∃o,H a=some o/\HV o
 |_,[],_,a,ha=>by simp[eZ]at ha
 | _,l::ls,h,a,ha=>by
  simp only[cj]at h
  obtain⟨v,us,e,h1,h2⟩:=h
  rcases(by simpa[eZ]using ha:a∈bc l∨a∈eZ ls)with z|z
  .
   exact ba.lstAt l h1 a z
  .
   exact cj.lstAt ls h2 a z
end
structure aD (K:PySem.W.Frag) (Pr H:Hp) (σ:St) (Z:Ev):Prop where
 sub:∀b o,Pr b=some o->H b=some o
 nd:(owns Z).Nodup
 off:∀a∈owns Z,Pr a=none
 sl:Paired (ba K H) σ Z
theorem iM{Z:Ev}{a:Addr}:a∈owns Z↔∃l∈Z,a∈bc l:=by unfold owns;rw[List.mem_flatMap]
theorem HW{Z:Ev}{a:Addr}{xs:List D}(h:L.own a xs∈Z):a∈owns Z:=iM.mpr ⟨_,h,by simp[bc]⟩
theorem aH(a b:Ev):owns (a++b)=owns a++owns b:=List.flatMap_append
theorem Paired.mem2{α β:Type}{F:α->β->Prop}:∀{l1:List α}{l2:List β}{b:β},Paired F l1 l2->b∈l2->∃a,a∈l1/\F a b
 |_,_,_,.nil,h=>by simp at h
 | _,_,_,.cons r t,h=>by
  rcases Ue.mp h with rfl|h
  . exact⟨_,TQ,r⟩
  . obtain⟨a,h1,h2⟩:=Paired.mem2 t h;exact⟨a,TL _ h1,h2⟩
theorem Paired.app{α β:Type}{F:α->β->Prop}:∀{a c:List α}{b d:List β},Paired F a b->Paired F c d->Paired F (a++c) (b++d)
 |_,_,_,_,.nil,s=>s
 |_,_,_,_,.cons r t,s=>.cons r (Paired.app t s)
theorem Paired.unapp{α β:Type}{F:α->β->Prop}:∀{a c:List α}{b d:List β},a.length=b.length->Paired F (a++c) (b++d)->Paired F a b/\Paired F c d
 |[],_,[],_,_,s=>⟨.nil,s⟩
 | x::a,_,y::b,_,hl,.cons r t=>by obtain⟨p,q⟩:=Paired.unapp (a:=a) (b:=b) (by simpa using hl) t;exact⟨.cons r p,q⟩
 |[],_,_::_,_,hl,_=>by simp at hl
 |_::_,_,[],_,hl,_=>by simp at hl
theorem Paired.get2{α β:Type}{F:α->β->Prop}:∀{l1:List α}{l2:List β}{i:Nat}{b:β},Paired F l1 l2->l2[i]?=some b->∃a,l1[i]?=some a/\F a b
 |_,_,_,_,.nil,e=>by simp at e
 |_,_,0,_,.cons h _,e=>by simp at e;subst e;exact⟨_,rfl,h⟩
 | _,_,i+1,d,.cons _ t,e=>by obtain⟨v,h1,h2⟩:=Paired.get2 (i:=i) (b:=d) t (by simpa using e);exact⟨v,by simpa using h1,h2⟩
theorem Paired.set2{α β:Type}{F:α->β->Prop}{a:α}{b:β}(r:F a b):∀{l1:List α}{l2:List β}(i:Nat),Paired F l1 l2->Paired F (l1.set i a) (l2.set i b)
 |_,_,_,.nil=>.nil
 |_,_,0,.cons _ t=>.cons r t
 |_,_,i+1,.cons h t=>.cons h (Paired.set2 r i t)
theorem Paired.impMem{α β:Type}{F G:α->β->Prop}:∀{l1:List α}{l2:List β},Paired F l1 l2->(∀b∈l2,∀a,F a b->G a b)->Paired G l1 l2
 |_,_,.nil,_=>.nil
 |_,_,.cons r t,h=>.cons (h _ TQ _ r) (Paired.impMem t λb hb=>h b (TL _ hb))
theorem Paired.set_r{α β:Type}{F:α->β->Prop}{b:β}:∀{l1:List α}{l2:List β}(i:Nat),Paired F l1 l2->(∀a,l1[i]?=some a->F a b)->Paired F l1 (l2.set i b)
 |_,_,_,.nil,_=>.nil
 |_,_,0,.cons _ t,h=>.cons (h _ rfl) t
 |_,_,i+1,.cons q t,h=>.cons q (Paired.set_r i t λa e=>h a (by simpa using e))
section
variable{K:PySem.W.Frag}{Pr H H':Hp}{σ τ w σ':St}{Z μ lam Z':Ev}
theorem aD.len(E:aD K Pr H σ Z):σ.length=Z.length:=Paired.length E.sl
noncomputable def bG(H:Hp)(Z:Ev):Hp:=λb=>if b∈owns Z then none else H b
theorem aD.at_own(E:aD K Pr H σ Z){a:Addr}(h:a∈owns Z):∃o,H a=some o/\HV o:=by obtain⟨l,hx,ha⟩:=iM.mp h;obtain⟨s,_,q⟩:=Paired.mem2 E.sl hx;exact q.lstAt l a ha
theorem aD.wide(E:aD K Pr H σ Z):aD K (bG H Z) H σ Z :=
 ⟨λb o e=>by unfold bG at e;split at e;cases e;exact e,E.nd,λa h=>by unfold bG;rw[if_pos h],E.sl⟩
theorem aD.drop(E:aD K Pr H (τ++σ) (lam++Z))(hl:τ.length=lam.length):aD K Pr H σ Z :=
 ⟨E.sub,(UC.mp (aH lam Z ▸ E.nd)).2.1,λa h=>E.off a (by rw[aH];exact Um _ h),(Paired.unapp hl E.sl).2⟩
theorem aD.left(E:aD K Pr H (τ++σ) (lam++Z))(hl:τ.length=lam.length):aD K Pr H τ lam :=
 ⟨E.sub,(UC.mp (aH lam Z ▸ E.nd)).1,λa h=>E.off a (by rw[aH];exact Uj _ h),(Paired.unapp hl E.sl).1⟩
theorem uF{H H':Hp}{Z:Ev}{σ:St}{Pr:Hp}(E:aD K Pr H σ Z)(h:∀b o,bG H Z b=some o->H' b=some o):vN H H':=λb o p e=>by refine h b o ?_;unfold bG;rw[if_neg,e];intro hm;obtain⟨u,e',m⟩:=E.at_own hm;rw[e]at e';cases e';exact m.no p
theorem aD.step(E:aD K Pr H (τ++σ) (lam++Z))(hl:τ.length=lam.length)(E':aD K (bG H Z) H' (w++σ') (μ++Z'))(hw:w.length=μ.length):aD K Pr H' (w++(τ++σ')) (μ++(lam++Z')):=by
 have Eσ:=E.drop hl;have p:vN H H':=uF Eσ E'.sub;have dis:∀a∈owns lam,a∉owns Z:=λa h1 h2=>(UC.mp (aH lam Z ▸ E.nd)).2.2 a h1 a h2 rfl;have at':∀a∈owns lam,bG H Z a=H a:=λa h=>by unfold bG;rw[if_neg (dis a h)]
 have some':∀a∈owns lam,∃o,H a=some o/\HV o:=λa h=>E.at_own (by rw[aH];exact Uj _ h);have out:∀a∈owns lam,a∉owns (μ++Z'):=λa h h2=>by have z:=E'.off a h2;rw[at' a h]at z;obtain⟨vs,e,_⟩:=some' a h;rw[e]at z;cases z
 have s1:=(Paired.unapp hw E'.sl);have s2:=(Paired.unapp hl E.sl).1;refine⟨λb o e=>?_,?_,λa ha=>?_,Paired.app s1.1 (Paired.app ?_ s1.2)⟩
 . refine E'.sub b o ?_;unfold bG;rw[if_neg,E.sub b o e];intro hm;have z:=Eσ.off b hm;rw[e]at z;cases z
 .
  have n1:=E'.nd;rw[aH]at n1;rw[aH,aH];obtain⟨q1,q2,q3⟩:=UC.mp n1;refine UC.mpr ⟨q1,UC.mpr ⟨(UC.mp (aH lam Z ▸ E.nd)).1,q2,λa ha b hb=>?_⟩,λa ha b hb=>?_⟩
  . rintro rfl;exact out a ha (by rw[aH];exact Um _ hb)
  .
   rcases Uw.mp hb with hb|hb
   . rintro rfl;exact out a hb (by rw[aH];exact Uj _ ha)
   . exact q3 a ha b hb
 .
  rw[aH,aH]at ha
  have key:a∈owns (μ++Z')->Pr a=none:=λh=>by
   have z:=E'.off a h;unfold bG at z;by_cases hm:a∈owns Z
   . exact Eσ.off a hm
   .
    rw[if_neg hm]at z
    cases q:Pr a with
    |none=>rfl
    |some o=>rw[E.sub a o q]at z;cases z
  rcases Uw.mp ha with h|h
  . exact key (by rw[aH];exact Uj _ h)
  .
   rcases Uw.mp h with h|h
   . exact E.off a (by rw[aH];exact Uj _ h)
   . exact key (by rw[aH];exact Um _ h)
 .
  have:∀l∈lam,∀s,ba K H s l->ba K H' s l:=λl hlm s h=>h.pres p l λa e=>by have ha:a∈owns lam:=iM.mpr ⟨l,hlm,e⟩;obtain⟨vs,e,_⟩:=some' a ha;rw[E'.sub a _ ((at' a ha).trans e),e]
  exact Paired.impMem s2 this
end
end L2
namespace L2
open PySem PySem.Spec PyProof.Rows PySem.W
structure sP (K:Frag) (c:Str) (C L:Addr) (cd:ClassData):Prop where
 cls:clsIn K C=some cd
 load:nsIn K mainGlobals "LoadError"=some (some (.ref L))
 name:cd.name=c
 dct:cd.hasDict=true
 mro:cd.mro=BA C L
 lname:∃ k,clsIn K L=some k/\k.name=("LoadError" : Str)
 ga:findIn K (.ref C) "__getattribute__"=some (some (.builtin "BaseException.__getattribute__"))
 gx:findIn K (.ref C) "__getattr__"=some none
 gc:findIn K (.ref C) "__class__"=some (some (.builtin "object.__class__"))
 sa:findIn K (.ref C) "__setattr__"=some (some (.builtin "object.__setattr__"))
 ty:typeIn K (.ref C)=some (.type "type")
 own:nsIn K mainGlobals c=some (some (.ref C))
theorem jK{K:Frag}{c:Str}{C:Addr}(h:jJ K c C=true):∃L cd,sP K c C L cd:=by
 unfold jJ at h;split at h
 . rename_i cd L e1 e2;simp only[Uc,VQ]at h;obtain⟨⟨⟨⟨⟨⟨⟨⟨⟨h1,h2⟩,h3⟩,h4⟩,h5⟩,h6⟩,h7⟩,h8⟩,h9⟩,h10⟩:=h;obtain⟨k,hk,hn⟩:=any_some h4;exact⟨L,cd,e1,e2,h1,h2,h3,⟨k,hk,VQ.mp hn⟩,h5,h6,h7,h8,h9,h10⟩
 . cases h
section
variable{K:Frag}{c:Str}{C L:Addr}{cd:ClassData}
theorem yf(C L:Addr):BA C L=[.ref C,.ref L,.type "ValueError",.type "Exception",.type "BaseException",.type "object"]∨BA C L=[.ref L,.type "ValueError",.type "Exception",.type "BaseException",.type "object"]/\C=L:=by
 by_cases h:C=L
 . exact .inr ⟨by unfold BA;rw[if_pos h];rfl,h⟩
 . exact .inl (by unfold BA;rw[if_neg h];rfl)
theorem EM(C L:Addr)(b:Value):(BA C L).contains b=([.ref C,.ref L,.type "ValueError",.type "Exception",.type "BaseException",.type "object"]:List Value).contains b:=by
 rcases yf C L with e|⟨e,h⟩
 . rw[e]
 . subst h;rw[e];simp only[VC,<- Bool.or_assoc,Bool.or_self]
theorem sP.mroIn(S:sP K c C L cd)(b:Value):PySem.W.mroIn K C b=some (([.ref C,.ref L,.type "ValueError",.type "Exception",.type "BaseException",.type "object"]:List Value).contains b):=by
 unfold PySem.W.mroIn;rw[S.cls,Option.bind_some,S.mro];have ne:(BA C L).isEmpty=false:=by rcases yf C L with e|⟨e,_⟩<;>rw[e]<;>rfl
 show(if(BA C L).isEmpty=true then none else some ((BA C L).contains b))=_
 rw[ne,EM];rfl
theorem qN(C L:Addr)(T:String):(([.ref C,.ref L,.type "ValueError",.type "Exception",.type "BaseException",.type "object"]:List Value).contains (.type T))=(["ValueError","Exception","BaseException","object"]:List String).contains T:=by
 simp only[VC,List.contains_nil,V5];have e:∀a:Addr,(Value.type T == Value.ref a)=false:=λ_=>rfl
 have f:∀U:String,(Value.type T == Value.type U)=(T == U):=λU=>by
  by_cases q:T=U
  . subst q;simp
  . rw[UU.mpr q,UU];intro z;injection z with z;exact q z
 rw[e,e,f,f,f,f];rfl
theorem EN(C L D:Addr):(([.ref C,.ref L,.type "ValueError",.type "Exception",.type "BaseException",.type "object"]:List Value).contains (.ref D))=(D == C ||D == L):=by
 simp only[VC,List.contains_nil,V5];have e:∀T:String,(Value.ref D == Value.type T)=false:=λ_=>rfl
 have f:∀a:Addr,(Value.ref D == Value.ref a)=(D == a):=λU=>by
  by_cases q:D=U
  . subst q;simp
  . rw[UU.mpr q,UU];intro z;injection z with z;exact q z
 rw[e,e,e,e,f,f,V5,V5,V5,V5]
theorem sP.has(S:sP K c C L cd){T:String} (h:(["ValueError","Exception","BaseException","object"]:List String).contains T=true):PySem.W.mroIn K C (.type T)=some true:=by rw[S.mroIn,qN,h]
theorem sP.isT(S:sP K c C L cd){M:Model}{h:Heap}(X:K.In h)(T:String):Looks M h (isSubtype (.ref C) (.type T)) ((["ValueError","Exception","BaseException","object"]:List String).contains T):=looks_mroIn X (by rw[S.mroIn,qN])
end
section
variable{prog:Program}{w:World}{A:Around}{E:Value->Shared->Prop}{s:Shared}{K:Frag}{c:Str}{x C L:Addr}{cd:ClassData}{ox:Obj}{od:Option Obj}{name:Str}
theorem we{tk:Tok}{Q:Fin->Shared->Prop}(S:sP K c C L cd)(X:K.In s.heap)(I:InstAt s.heap x ox C od) (hf:findObj K C od "__class__"=some (.bind (.builtin "getset_descriptor.__get__") (.builtin "object.__class__"))) (hq:Q (.done (.ret (.ref C))) s) :
  wpAny (model prog w) A (Builtin.«object.__getattribute__» ⟨[.ref x,.str "__class__" tk],[]⟩) Q E s:=by
 obtain⟨hh,g,d,t,os⟩:=s;have L0:=I.type (M:=model prog w);have L1:=looks_find (M:=model prog w) X I hf;unfold Builtin.«object.__getattribute__»;refine tu (Ub (tu (Ub ?_)));refine tu (L0.at (tu (L1.at ?_)));show wpAny _ _ (holding [Value.builtin "object.__class__"] (call (.builtin "getset_descriptor.__get__") [.builtin "object.__class__",.ref x,.ref C]) >>= ret) _ _ _;refine tu (Vn (Wi ?_));exact class_get (s:=⟨hh,g,d,t,os⟩) (ox:=ox) (od:=od) X I (S.has x_) (Ub hq)
theorem HX{tk:Tok}{v:Value}{fill expr:Bool}{Q:Value->Shared->Prop}(S:sP K c C L cd)(X:K.In s.heap)(I:InstAt s.heap x ox C od)
  (he:∀(A':Around)(Q':Fin->Shared->Prop),Q' (.done (.ret v)) s->wpAny (model prog w) A' (Builtin.«object.__getattribute__» ⟨[.ref x,.str name tk],[]⟩) Q' (λ_ _=>False) s) (hh:handedIn v=true) (hq:Q v s) :
  wpAny (model prog w) A (getAttrBy (.ref x) (.str name tk) fill expr) Q E s:=by
 have FB:=F.excAttr_ValueError;have L0:=I.type (M:=model prog w);have L1:=looks_findIn (M:=model prog w) X S.ga;have L2:=looks_findIn (M:=model prog w) X S.gx;unfold getAttrBy;refine Vn (tu (L0.here (tu (L1.here ?_))));have hx2:(Value.builtin "BaseException.__getattribute__" == Value.builtin "object.__getattribute__")=false:=by decide +kernel
 dsimp only;rw[hx2,Bool.and_false,if_neg (by decide)];unfold getAttrByItsOwn;refine tu ((looks_hook (mc:=.ref C) X (r:=none) S.gx).here ?_);refine tu (wpAny_attempt (Vn ?_));have hx0:(expr && onTheHeap (Value.builtin "BaseException.__getattribute__"))=false:=by cases expr <;> rfl
 unfold callGetattribute boundAndCalled;rw[hx0,if_neg (by decide),FB.ga.bind];refine tu (Ub (Wi ?_));have hi:Looks (model prog w) s.heap (isInstance (.ref x) (.type "BaseException")) true:=L0.andThen (S.isT X _);have hkd:builtinKind "BaseException.__getattribute__"=some .slot:=by decide +kernel
 have hsp:splitId "BaseException.__getattribute__"=some ("BaseException","__getattribute__"):=by decide +kernel
 refine VZ FB.ga.plain F.entry_bexc_ga (@check_slot (model prog w) _ _ s "BaseException.__getattribute__" "BaseException" "__getattribute__" (.ref x) [.str name tk] [] _ hkd hsp hi (F.args_bexc_ga (.ref x) (.str name tk)) ?_);refine Vc (he _ _ ?_) (λ_ _ z=>z) λ_ _ z=>z.elim;show wpAny _ _ (handedOut v) _ _ _;rw[handedOut_of hh];exact Ub hq
end
theorem HY(K:Frag):specialIn K (.builtin "object.__class__") "__get__"=some (some (.builtin "getset_descriptor.__get__")):=(by decide +kernel:specialIn [] (.builtin "object.__class__") "__get__"=some (some (.builtin "getset_descriptor.__get__")))
theorem B7(K:Frag):takesIn K (.builtin "object.__class__")=some true:=(by decide +kernel:takesIn [] (.builtin "object.__class__")=some true)
section
variable{prog:Program}{w:World}{A:Around}{E:Value->Shared->Prop}{s:Shared}{K:Frag}{c:Str}{x C L:Addr}{cd:ClassData}{ox:Obj}{od:Option Obj}
theorem sP.fclass(S:sP K c C L cd)(od:Option Obj):findObj K C od "__class__"=some (.bind (.builtin "getset_descriptor.__get__") (.builtin "object.__class__")):=by unfold findObj;rw[S.cls,Option.bind_some,S.gc,Option.bind_some];simp[HY,B7]
theorem yg{Q:Option Value->Shared->Prop}(S:sP K c C L cd)(X:K.In s.heap)(I:InstAt s.heap x ox C od)(hq:Q (some (.ref C)) {s with toks:=s.toks+1}) :
  wpAny (model prog w) A (getAttr? (.ref x) "__class__") Q E s:=by
 obtain⟨hh,g,d,t,os⟩:=s;unfold getAttr? getAttrBy?;refine tu (wpAny_mkText (tu (wpAny_attempt ?_)));exact HX (s:=⟨hh,g,d,t+1,os⟩) (ox:=ox) (od:=od) S X I (λA' Q' q=>we (s:=⟨hh,g,d,t+1,os⟩) S X I (S.fclass od) q) rfl (Ub hq)
theorem EO(S:sP K c C L cd):KitX K (.ref x) (.ref C) (λh=>∃ox od,InstAt h x ox C od) where
 ty:=λ_ _ _ ⟨_,_,I⟩=>I.type
 it:=λ_ _ X _=>by
  have hc:=S.cls;unfold clsIn at hc;split at hc
  . rename_i ho;intro A' Q' E' s' k q;unfold isType loadHead;exact tu (wpAny_loadPart (k _ _ (X _ _ ho)) (Ub q))
  . cases hc
 ne:=λh tp dd its n sl X htp=>by
  refine Bool.eq_false_iff.mpr λq=>?_;have e:C=tp:=Value.ref.inj (VQ.mp q);subst e;have hc:=S.cls;unfold clsIn at hc;split at hc
  . rename_i ho;have z:=(X _ _ ho).symm.trans htp;cases z
  . cases hc
 ca:=λX ⟨_,_,I⟩ k=>yg S X I k
end
theorem qO{K:Frag}{C:Addr}{cd:ClassData}(h:clsIn K C=some cd):∃oc odc sl,K.lookup C=some ⟨oc,odc,.cls cd,sl⟩:=by
 unfold clsIn at h;split at h
 . rename_i ho;cases h;exact⟨_,_,_,ho⟩
 . cases h
section
variable{prog:Program}{w:World}{A:Around}{E:Value->Shared->Prop}{s:Shared}{K:Frag}{c:Str}{x C L:Addr}{cd:ClassData}{ox:Obj}{od:Option Obj}{name:Str}
theorem M1{vs:Array Value}{text:Value}{Q:Value->Shared->Prop}(S:sP K c C L cd)(X:K.In s.heap)(I:InstAt s.heap x ox C od)(hd:ox.data=.fields vs)(hz:0<vs.size)
  (hq:∀ t,Q .none {s with heap:=(s.heap.push {cls:=.type "tuple",data:=.seq #[text] }).update x (Obj.mapFields (·.setIfInBounds 0 (.ref s.heap.objs.size))),toks:=t}) :
  wpAny (model prog w) A (call (.builtin "ValueError.__init__") [.ref x,text]) Q E s:=by
 have FB:=F.excBase_ValueError;have hi:Looks (model prog w) s.heap (isInstance (.ref x) (.type "ValueError")) true:=I.type.andThen (S.isT X _);have hx:=I.at_;obtain⟨hh,g,d,t,os⟩:=s;have hx1:=TN (h:=hh) {cls:=.type "tuple",data:=.seq #[text] } hx;have h0:vs[0]?=some vs[0]:=Array.getElem?_eq_getElem hz;have hst:=FB.noStar;refine Wi (VZ FB.init.plain FB.initEntry ?_);simp only[checkBuiltinCall,FB.initKind,FB.initSplit,FB.initRow];refine tu (hi.here ?_);simp only[Bool.not_true,Vp,V8];have hcl:=I.cls;obtain⟨oc,odc,sl,hK⟩:=qO S.cls;have hC:hh.get? C=some ⟨oc,odc,.cls cd,sl⟩:=X _ _ hK
 repeat (first|(with_reducible refine UX hx ?_;rw[hcl])|with_reducible refine UX hC ?_|with_reducible refine(S.isT X _).here ?_|wp_step)
 rw[hd];refine Ub ?_;rw[h0];refine Ub (tu (wpAny_setField hx1 hd hz ?_))
 have done:∀t',wpAny (model prog w) A.in1 (ret Value.none) (λPb s'=>match Pb with
   | Fin.done f=>(match (Except.ok f:Result)with
    |.ok (.ret v)=>Q v s'
    |.ok _=>False
    |.error e=>E e s')
   | Fin.again c'=>c'.quiet=true/\codeAny (model prog w) A c' (λr s'=>match r with
    |.ok (.ret v)=>Q v s'
    |.ok _=>False
    |.error e=>E e s') s') (λe s'=>E e s') ⟨(hh.push {cls:=.type "tuple",data:=.seq #[text] }).update x (Obj.mapFields (·.setIfInBounds 0 (.ref hh.objs.size))),g,d,t',os⟩:=λt'=>Ub (hq t')
 split
 . exact wpAny_letGo (done _)
 . exact Ub (done _)
theorem wg{v:Value}{Q:Unit->Shared->Prop}(S:sP K c C L cd)(X:K.In s.heap)(I:InstAt s.heap x ox C od)(hna:findIn K (.ref C) name=some none)
  (h:∀(A':Around)(R:Fin->Shared->Prop),(∀s',Q () s'->R (.done (.ret .none)) s')->wpAny (model prog w) A' (Builtin.ObjectAttr.storeInOwnDict (.ref x) (.ref C) (.str name s.toks) name v false) R (λ_ _=>False) {s with toks:=s.toks+1}) :
  wpAny (model prog w) A (setAttr (.ref x) name v) Q E s:=by
 have SF:=PySem.F.store_ValueError;obtain⟨hh,g,d,t,os⟩:=s;have L0:=I.type (M:=model prog w);have L1:=looks_findIn (M:=model prog w) X S.sa;have L2:=looks_findIn (M:=model prog w) X hna;have Lm:Looks (model prog w) hh (mroOf (.ref C)) cd.mro:=(looks_clsIn X S.cls).andThen .now;have hi:Looks (model prog w) hh (isInstance (.ref x) (.type "object")) true:=L0.andThen (S.isT X _);unfold setAttr callSpecial? specialOf;refine tu (wpAny_mkText (tu (tu (tu (L0.at (L1.at ?_))))));dsimp only;refine Vn (tu ?_);rw[SF.slot.bind];refine Ub (tu (Wi ?_));refine VZ SF.slot.plain SF.entry (@check_slot (model prog w) _ _ ⟨hh,g,d,t+1,os⟩ "object.__setattr__" "object" "__setattr__" (.ref x) [.str name t,v] [] _ SF.kind SF.split hi (SF.args (.ref x) (.str name t) v) ?_);show wpAny _ _ (Builtin.«object.__setattr__» ⟨[.ref x,.str name t,v],[]⟩) _ _ _;rw[osa_eq,refuse_eq];refine tu (tu (L0.at (tu (Lm.at ?_))));rw[S.mro];have em:BA C L=[.ref C,.ref L,.type "ValueError",.type "Exception",.type "BaseException",.type "object"]∨BA C L=[.ref L,.type "ValueError",.type "Exception",.type "BaseException",.type "object"]:=(yf C L).imp id And.left;rcases em with e|e
 all_goals
  rw[e]
  first|rw[refuseLoop_ref,refuseLoop_ref,SF.passes] | rw[refuseLoop_ref,SF.passes]
  refine Ub (tu (L0.at (tu (L2.at (tu (Ub ?_))))));dsimp only;refine Vc (h _ _ λs' q=>?_) (λ_ _ z=>z) λ_ _ z=>z.elim;exact Ub (Ub q)
theorem ER{v:Value}{Q:Unit->Shared->Prop}(S:sP K c C L cd)(X:K.In s.heap)(I:InstAt s.heap x ox C od)(hdn:ox.dict=none)(hna:findIn K (.ref C) name=some none)
  (hq:∀h' tk,h'.get? x=some {ox with dict:=some s.heap.objs.size}->h'.Ns1 s.heap.objs.size (λy=>if y=name then some v else none)->(∀b o,b≠x->s.heap.get? b=some o->h'.get? b=some o)->Q () {s with heap:=h',toks:=tk}) :
  wpAny (model prog w) A (setAttr (.ref x) name v) Q E s:=by
 refine wg S X I hna λA' R k=>?_;obtain⟨hh,g,d,t,os⟩:=s;have hx:=I.at_;have hcl:=I.cls;have hno:=I.no;have Lc:=looks_clsIn (M:=model prog w) X S.cls;have hxs:x≠hh.objs.size:=Ut (TZ hx);unfold Builtin.ObjectAttr.storeInOwnDict;refine tu (Ub ?_);rw[if_neg (by show ¬ ((Value.ref C == Value.type "module")=true); exact λz=>by cases z)];refine tu ?_;show wpAny _ _ (instanceDict x true) _ _ _;unfold instanceDict;refine tu (UX hx ?_);rw[hcl];dsimp only;refine tu (Lc.at ?_);rw[S.dct];simp only[Bool.not_true,Vp,V8];rw[hdn];dsimp only;rw[if_neg (by simp[typeHasDict])]
 have go:∀(Q':Option Addr->Shared->Prop),(∀ h1,h1.get? x=some {ox with dict:=some hh.objs.size}->h1.get? hh.objs.size=some {cls:=.type "dict",data:=.dict #[] }->(∀ b o,b≠x->hh.get? b=some o->h1.get? b=some o)->Q' (some hh.objs.size) ⟨h1,g,d,t+1,os⟩) ->
   wpAny (model prog w) A' (do
    let d <- alloc {cls:=.type "dict",data:=.dict #[] }
    update x λo=>{o with dict:=some d}
    dictMade (.ref C) x d) Q' (λ_ _=>False) ⟨hh,g,d,t+1,os⟩:=λQ' q=>by
  have hx1:(hh.push {cls:=.type "dict",data:=.dict #[] }).get? x=some ox:=TN _ hx;refine tu (wpAny_alloc' ?_);refine tu (wpAny_update' hx1 ?_);refine Ub (q _ ?_ ?_ λb o hb e=>?_)
  .
   refine Vl _ hx1 ?_;have fr:=(Heap.get?_some_iff.mp hx).2;obtain⟨c0,d0,dt,s0⟩:=ox
   cases dt<;>first|rfl|exact fr
  . exact(Heap.get?_update_ne _ _ _ _ hxs.symm).trans (Heap.get?_push_at rfl rfl)
  . exact(Heap.get?_update_ne _ _ _ _ hb).trans (TN _ e)
 have Pb:∀ h1,h1.get? x=some {ox with dict:=some hh.objs.size}->h1.get? hh.objs.size=some {cls:=.type "dict",data:=.dict #[] }->(∀ b o,b≠x->hh.get? b=some o->h1.get? b=some o) ->
   wpAny (model prog w) A' (Builtin.ObjectAttr.storeInDict hh.objs.size (.str name t) name v) R (λ_ _=>False) ⟨h1,g,d,t+1,os⟩:=λh1 e1 e2 e3=>by
  have n0:h1.Ns hh.objs.size (λ_=>none):=⟨_,#[],_,e2,rfl,λe he=>absurd he v6,λ_=>rfl⟩;unfold Builtin.ObjectAttr.storeInDict Builtin.ObjectAttr.newKeyGuard;refine tu (Ub (tu (wpAny_nsSet1 (Heap.Ns1.of_empty n0) λh2 n2 hs=>?_)));obtain⟨oD,esD,epD,hoD,hdD,hcD⟩:=n2.count (Within.cons name v Within.nil);refine tu (wpAny_lookBehind hoD (by rw[hdD];exact pastItsLine_dict (T9 hcD (by rw[U9,List.length_nil,Wc];omega))) ?_);refine Ub (k _ (hq h2 _ ((hs.2 x hxs).trans e1) n2 λb o hb e=>(hs.2 b (Ut (TZ e))).trans (e3 b o hb e)))
 split
 . rename_i q;rw[notCls,q]at hno;cases hno
 . exact go _ Pb
theorem ES{v:Value}{Q:Unit->Shared->Prop}{dx:Addr}{mA:Str->Option Value}{ns:List Str}(S:sP K c C L cd)(X:K.In s.heap)(I:InstAt s.heap x ox C od)(hdx:ox.dict=some dx)(hN:s.heap.Ns1 dx mA)(hw:PySem.Within mA ns)(hz:ns.length<=1000)(hna:findIn K (.ref C) name=some none)
  (hq:∀h' tk,h'.Ns1 dx (λy=>if y=name then some v else mA y)->Heap.SameBut dx s.heap h'->Q () {s with heap:=h',toks:=tk}) :
  wpAny (model prog w) A (setAttr (.ref x) name v) Q E s:=by
 refine wg S X I hna λA' R k=>?_;obtain⟨hh,g,d,t,os⟩:=s;have hx:=I.at_;have hcl:=I.cls;have Lc:=looks_clsIn (M:=model prog w) X S.cls;unfold Builtin.ObjectAttr.storeInOwnDict;refine tu (Ub ?_);rw[if_neg (by show ¬ ((Value.ref C == Value.type "module")=true); exact λz=>by cases z)];refine tu ?_;show wpAny _ _ (instanceDict x true) _ _ _;unfold instanceDict;refine tu (UX hx ?_);rw[hcl];dsimp only;refine tu (Lc.at ?_);rw[S.dct];simp only[Bool.not_true,Vp,V8];rw[hdx];refine Ub ?_;show wpAny _ _ (Builtin.ObjectAttr.storeInDict dx (.str name t) name v) _ _ _;unfold Builtin.ObjectAttr.storeInDict Builtin.ObjectAttr.newKeyGuard;refine tu (Ub (tu (wpAny_nsSet1 hN λh2 n2 hs=>?_)));obtain⟨oD,esD,epD,hoD,hdD,hcD⟩:=n2.count (Within.cons name v hw);refine tu (wpAny_lookBehind hoD (by rw[hdD];exact pastItsLine_dict (T9 hcD (by rw[U9,Wc];omega))) ?_);exact Ub (k _ (hq h2 _ n2 hs))
end
end L2
namespace L2
open PySem PySem.Spec PyProof.Rows
section
variable{X:Cx}{gV:List (Addr×Obj)}{σ:St}{H:Hp}{s:Shared}
theorem O7.reword{a:Addr}{u w:HO}(I:O7 X gV σ H s)(h:H a=some u)(hu:¬MG u)(hw:∀y,u≠.own y)(nw:eX X.prog X.w H s.heap a w)(hw2:∀C dx fs,w≠.ins C dx fs):O7 X gV σ (OZ H a w) s:=by
 have ne:∀b,H b=none->b≠a:=λb n e=>by subst e;rw[h]at n;cases n
 have nt:∀b xs,H b=some (.tup xs)->b≠a:=λb xs n e=>by subst e;rw[h]at n;cases n;exact hu True.intro
 have nf:∀b o z,H b=some (.frz o z)->b≠a:=λb o z n e=>by subst e;rw[h]at n;cases n;exact hu True.intro
 have no:∀b z,H b=some (.own z)->b≠a:=λb z n e=>by subst e;rw[h]at n;cases n;exact hw _ rfl
 refine⟨I.ok,I.os,I.bare,⟨I.base.keep,I.base.slot,λb ob e n hx=>?_,I.base.there,λb xs e=>?_,λb ob z e=>?_,λb ps e=>?_⟩,I.loc,I.cell,?_,λx c e=>?_,λp hp=>?_,λb z e=>?_,I.len⟩
 . have q:=I.base.free b ob e n hx;rw[aB (ne b q)];exact q
 . have q:=I.base.tups b xs e;rw[aB (nt b xs q)];exact q
 . have q:=I.base.frzs b ob z e;rw[aB (nf b ob z q)];exact q
 . have q:=I.base.tbls b ps e;rw[aB (λz=>by subst z;rw[h]at q;cases q;exact hu True.intro)];exact q
 . rw[aB (ne _ I.free)];exact I.free
 .
  rcases I.freeC x c e with z|⟨hf,o,z⟩
  . exact .inl (by rw[aB (ne _ z)];exact z)
  . exact .inr ⟨hf,o,by rw[aB (nf _ _ _ z)];exact z⟩
 . obtain⟨e,n,r⟩:=I.pin p hp;exact⟨e,by rw[aB (ne _ n)];exact n,r⟩
 .
  by_cases hb:b=a
  . subst hb;rw[a6]at e;cases e;exact nw.stay (λc v _ q=>q) (λc q=>by rw[aB (no c _ q)];exact q) (λc xs q=>by rw[aB (nt c xs q)];exact q) λc ob _ _ q=>by rw[aB (nf c ob _ q)];exact q
  . rw[aB hb]at e;exact(I.hok b z e).stay (λc v _ q=>q) (λc q=>by rw[aB (no c _ q)];exact q) (λc xs q=>by rw[aB (nt c xs q)];exact q) λc ob _ _ q=>by rw[aB (nf c ob _ q)];exact q
theorem O7.freezeL{a:Addr}{xs:List V}(I:O7 X gV σ H s)(h:H a=some (.lst xs)):∃o,O7 X gV σ (OZ H a (.frz o (.lst xs))) s:=by obtain⟨z,its,n,r,e⟩:=id (I.hok a _ h);exact⟨_,I.reword h (λq=>q) (λ_ q=>nomatch q) ⟨e,z,its,n,r,e⟩ (λ_ _ _ q=>nomatch q)⟩
end
section
variable{K:PySem.W.Frag}{Pr H:Hp}{σ:St}{Z:Ev}
theorem aD.new(E:aD K Pr H σ Z){p:Addr}{o:HO}(h:H p=none):aD K Pr (OZ H p o) σ Z:=by
 have k:∀b u,H b=some u->OZ H p o b=some u:=λb u e=>by rw[aB (bh e h)];exact e
 exact⟨λb u e=>k b u (E.sub b u e),E.nd,E.off,Paired.impMem E.sl λl hl s q=>q.pres (λb u _ e=>k b u e) l λa e=>by
  obtain⟨vs,e,_⟩:=E.at_own (iM.mpr ⟨l,hl,e⟩)
  rw[k _ _ e,e]⟩
theorem bU.new{vs:List V}{ds:List D}(r:bU K H vs ds){p:Addr}{o:HO}(h:H p=none):bU K (OZ H p o) vs ds:=r.pres λb u _ e=>by rw[aB (bh e h)];exact e
theorem PZ.new{v:V}{d:D}(r:PZ K H v d){p:Addr}{o:HO}(h:H p=none):PZ K (OZ H p o) v d:=r.pres λb u _ e=>by rw[aB (bh e h)];exact e
theorem pO:owns (.un::Z)=owns Z:=rfl
theorem bb{a:Addr}{xs:List D}:owns (.own a xs::Z)=a::owns Z:=rfl
theorem aD.cons_d(E:aD K Pr H σ Z){v:V}{x:D}(r:PZ K H v x):aD K Pr H (some v::σ) (.d x::Z):=⟨E.sub,E.nd,E.off,.cons ⟨v,rfl,r⟩ E.sl⟩
theorem aD.cons_un(E:aD K Pr H σ Z){v:Option V}:aD K Pr H (v::σ) (.un::Z):=⟨E.sub,E.nd,E.off,.cons True.intro E.sl⟩
theorem aD.cons_own(E:aD K Pr H σ Z){p:Addr}{vs:List V}{xs:List D}(h:H p=none)(r:bU K H vs xs):aD K Pr (OZ H p (.lst vs)) (some (.ref p)::σ) (.own p xs::Z):=by
 have E':=E.new (o:=.lst vs) h;refine⟨E'.sub,?_,λa ha=>?_,.cons ⟨rfl,vs,a6,r.new h⟩ E'.sl⟩
 . rw[bb];refine Uz.mpr ⟨λhm=>?_,E.nd⟩;obtain⟨us,e,_⟩:=E.at_own hm;rw[h]at e;cases e
 .
  rw[bb]at ha;rcases Ue.mp ha with rfl|ha
  .
   cases q:Pr a with
   |none=>rfl
   |some u=>rw[E.sub a u q]at h;cases h
  . exact E.off a ha
theorem aD.cons_tup(E:aD K Pr H σ Z){p:Addr}{vs:List V}{xs:List D}(h:H p=none)(r:bU K H vs xs):aD K Pr (OZ H p (.tup vs)) (some (.ref p)::σ) (.d (.tup xs)::Z) :=
 (E.new h).cons_d (.tup (Pd.of a6) (r.new h))
theorem aD.freeze(E:aD K Pr H σ (.own a xs::Z)){vs:List V}(h:H a=some (.lst vs))(o:Obj):aD K Pr (OZ H a (.frz o (.lst vs))) σ (.d (.lst xs)::Z):=by
 have pa:Pr a=none:=E.off a (by rw[bb];exact TQ);have nd:=E.nd;rw[bb]at nd;obtain⟨hn,nd⟩:=Uz.mp nd;have p:vN H (OZ H a (.frz o (.lst vs))):=λb u pu e=>by rw[aB];exact e;rintro rfl;rw[h]at e;cases e;exact pu
 refine⟨λb u e=>?_,nd,λb hb=>E.off b (by rw[bb];exact TL _ hb),?_⟩
 . rw[aB];exact E.sub b u e;rintro rfl;rw[pa]at e;cases e
 .
  have sl:=E.sl
  cases sl with
  | cons q t =>
   obtain⟨e,us,e2,r⟩:=q;rw[h]at e2;cases e2;refine .cons ⟨.ref a,e,.lst (.inl ⟨o,a6⟩) (r.pres p)⟩ (Paired.impMem t λl hl s z=>z.pres p l λb hbm=>?_);rw[aB];rintro rfl;exact hn (iM.mpr ⟨l,hl,hbm⟩)
theorem aN(l:L)(Z:Ev):owns (l::Z)=bc l++owns Z:=rfl
theorem iu{k:L}:∀{Z:Ev}{i:Nat}{l:L},Z[i]?=some k->bc l=[]->(owns Z).Perm (bc k++owns (Z.set i l))
 |[],_,_,h,_=>by simp at h
 | _::Z,0,l,h,hl=>by simp at h;subst h;show(owns (_::Z)).Perm (_++owns (l::Z));rw[aN,aN,hl];exact List.Perm.refl _
 | m::Z,i+1,l,h,hl=>by have ih:=iu (i:=i) (Z:=Z) (l:=l) (by simpa using h) hl;show(owns (m::Z)).Perm (bc k++owns (m::Z.set i l));rw[aN,aN];refine(List.Perm.append_left _ ih).trans ?_;rw[<- UQ,<- UQ];exact List.Perm.append_right _ U4
theorem B8{a:Addr}{xs:List D}{Z:Ev}{i:Nat}{l:L}(h:Z[i]?=some (.own a xs))(hl:bc l=[]):(owns Z).Perm (a::owns (Z.set i l)):=iu h hl
theorem zD{Z:Ev}{i:Nat}(l:L)(h:Z[i]?=some .un):(owns (Z.set i l)).Perm (bc l++owns Z):=by
 have hi:i<Z.length:=(TR.mp h).1;have pm:=iu (Z:=Z.set i l) (i:=i) (k:=l) (l:=.un) (by simp[hi]) rfl;rw[VH]at pm;have e2:Z.set i .un=Z:=by have:=List.set_getElem_self (as:=Z) (i:=i) hi;have e3:Z[i]=.un:=(TR.mp h).2;rw[e3]at this;exact this
 rw[e2]at pm;exact pm
theorem aD.outL(E:aD K Pr H σ Z){i:Nat}{k:L}{s:Option V}(h:Z[i]?=some k)(hs:σ[i]?=some s):aD K Pr H (s::σ) (k::Z.set i .un):=by have pm:=iu (l:=.un) h rfl;obtain⟨s',hs',q⟩:=Paired.get2 E.sl h;rw[hs]at hs';cases hs';refine⟨E.sub,?_,λb hb=>E.off b (pm.mem_iff.mpr (by rw[aN]at hb;exact hb)),.cons q (Paired.set_r i E.sl λ_ _=>by simp only[ba])⟩;rw[aN];exact pm.nodup_iff.mp E.nd
theorem aD.out(E:aD K Pr H σ Z){i:Nat}{a:Addr}{xs:List D}(h:Z[i]?=some (.own a xs)):aD K Pr H (some (.ref a)::σ) (.own a xs::Z.set i .un):=by
 have pm:=B8 (l:=.un) h rfl;obtain⟨s,hs,q⟩:=Paired.get2 E.sl h;refine⟨E.sub,?_,λb hb=>E.off b (pm.mem_iff.mpr (by rw[bb]at hb;exact hb)),.cons ?_ (Paired.set_r i E.sl λ_ _=>by simp only[ba])⟩
 . rw[bb];exact pm.nodup_iff.mp E.nd
 . obtain⟨_,r⟩:=q;exact⟨rfl,r⟩
theorem aD.back{v:Option V}{l:L}(E:aD K Pr H (v::σ) (l::Z)){i:Nat}(h:Z[i]?=some .un)(hs:σ[i]?=some v):aD K Pr H σ (Z.set i l):=by
 have sl:=E.sl
 cases sl with
 | cons q t =>
  have e1:Z.set i l=(Z.set i l):=rfl;refine⟨E.sub,?_,λb hb=>?_,Paired.set_r i t λa e=>by rw[hs]at e;cases e;exact q⟩
  . exact(zD l h).nodup_iff.mpr E.nd
  . exact E.off b ((zD l h).mem_iff.mp hb)
theorem aD.write(E:aD K Pr H σ (.own a xs::Z)){vs:List V}{ys:List D}(r:bU K H vs ys):aD K Pr (OZ H a (.lst vs)) σ (.own a ys::Z):=by
 have pa:Pr a=none:=E.off a (by rw[bb];exact TQ);have nd:=E.nd;rw[bb]at nd;obtain⟨hn,nd'⟩:=Uz.mp nd;obtain⟨us,ha,mu⟩:=E.at_own (a:=a) (by rw[bb];exact TQ);have p:vN H (OZ H a (.lst vs)):=λb u pu e=>by rw[aB];exact e;rintro rfl;rw[ha]at e;cases e;exact mu.no pu
 refine⟨λb u e=>?_,nd,λb hb=>E.off b hb,?_⟩
 . rw[aB];exact E.sub b u e;rintro rfl;rw[pa]at e;cases e
 .
  have sl:=E.sl
  cases sl with
  | cons q t =>
   obtain⟨e,_⟩:=q;refine .cons ⟨e,vs,a6,r.pres p⟩ (Paired.impMem t λl hl s z=>z.pres p l λb hbm=>?_);rw[aB];rintro rfl;exact hn (iM.mpr ⟨l,hl,hbm⟩)
end
noncomputable abbrev W(α:Type):=Ev->(α->Ev->Prop)->Prop
inductive Fl where
 |nx|bk|ct|rt (r:L)
def EL(X:Cx)(gV:List (Addr×Obj))(σ:St)(Pr:Hp)(so:L->Ev->Prop)(u:Value)(s':Shared):Prop :=
 ∃v H' r Z',O7 X gV σ H' s'/\cB v u/\aD X.K Pr H' (some v::σ) (r::Z')/\so r Z'
def PL(X:Cx)(e:Expr)(t:W L):Prop :=
 ∀(gV:List (Addr×Obj))(s:Shared)(σ:St)(H Pr:Hp)(Z:Ev)(so:L->Ev->Prop),O7 X gV σ H s->aD X.K Pr H σ Z->t Z so->wpAny (model X.prog X.w) X.A (eval e X.env) (EL X gV σ Pr so) X.xe s
def EB(X:Cx)(gV:List (Addr×Obj))(σ:St)(Pr:Hp)(so:Bool->Ev->Prop)(b:Bool)(s':Shared):Prop :=
 ∃H' Z',O7 X gV σ H' s'/\aD X.K Pr H' σ Z'/\so b Z'
def PB(X:Cx)(e:Expr)(t:W Bool):Prop :=
 ∀(gV:List (Addr×Obj))(s:Shared)(σ:St)(H Pr:Hp)(Z:Ev)(so:Bool->Ev->Prop),O7 X gV σ H s->aD X.K Pr H σ Z->t Z so->wpAny (model X.prog X.w) X.A (isTrue e X.env (eval e X.env)) (EB X gV σ Pr so) X.xe s
def EA(X:Cx)(gV:List (Addr×Obj))(σ:St)(Pr:Hp)(bs:List (Option Nat))(so:List L->Ev->Prop)(us:List Value)(s':Shared):Prop :=
 ∃vs H' ls Z',O7 X gV σ H' s'/\cn vs us/\vs.length=ls.length/\vs.length=bs.length/\aD X.K Pr H' (vs.map some++σ) (ls++Z')/\(∀(k i:Nat),bs[k]?=some (some i)->ls[k]?=some L.un/\∃v,vs[k]?=some v/\σ[i]?=some (some v))/\so ls Z'
def P0(X:Cx)(es:List Expr)(bs:List (Option Nat))(t:W (List L)):Prop :=
 ∀(pos:Pos)(gV:List (Addr×Obj))(s:Shared)(σ:St)(H Pr:Hp)(Z:Ev)(so:List L->Ev->Prop),O7 X gV σ H s->aD X.K Pr H σ Z->t Z so ->
  wpAny (model X.prog X.w) X.A (spliced (backTo pos (starEach es X.env))) (EA X gV σ Pr bs so) X.xe s
def SM(X:Cx)(gV:List (Addr×Obj))(Pr:Hp)(so:Fl->Ev->Prop)(f:Flow)(s':Shared):Prop :=
 match f with
 |.next=>∃σ' H' Z',O7 X gV σ' H' s'/\aD X.K Pr H' σ' Z'/\so .nx Z'
 |.brk=>∃σ' H' Z',O7 X gV σ' H' s'/\aD X.K Pr H' σ' Z'/\so .bk Z'
 |.cont=>∃σ' H' Z',O7 X gV σ' H' s'/\aD X.K Pr H' σ' Z'/\so .ct Z'
 |.ret u=>∃v σ' H' r Z' τ,O7 X gV σ' H' s'/\cB v u/\aD X.K Pr H' (some v::τ) (r::Z')/\so (.rt r) Z'
def PM(X:Cx)(st:Stmt)(t:W Fl):Prop :=
 ∀(gV:List (Addr×Obj))(s:Shared)(σ:St)(H Pr:Hp)(Z:Ev)(so:Fl->Ev->Prop),O7 X gV σ H s->aD X.K Pr H σ Z->t Z so->wpAny (model X.prog X.w) X.A (exec st X.env) (SM X gV Pr so) X.xe s
def P1(X:Cx)(st:List Stmt)(t:W Fl):Prop :=
 ∀(gV:List (Addr×Obj))(s:Shared)(σ:St)(H Pr:Hp)(Z:Ev)(so:Fl->Ev->Prop),O7 X gV σ H s->aD X.K Pr H σ Z->t Z so->wpAny (model X.prog X.w) X.A (execs st X.env) (SM X gV Pr so) X.xe s
section
variable{X:Cx}{e a b:Expr}{pos:Pos}{ta tb:W L}
theorem PL.of{t:TE}{u:W L}(h:PE X e t)(q:∀σ H Pr Z so,aD X.K Pr H σ Z->u Z so->t σ H λv H'=>∃r Z',aD X.K Pr H' (some v::σ) (r::Z')/\so r Z'):PL X e u :=
 λgV s σ H Pr Z so I E hu=>O9 (h gV s σ H _ I (q σ H Pr Z so E hu)) λu s1 ⟨v,H1,I1,r1,r,Z',E1,p⟩=>⟨v,H1,r,Z',I1,r1,E1,p⟩
mutual
noncomputable def bL:L->Option D
 |.un=>none
 |.d x=>some x
 |.own _ xs=>some (.lst xs)
 |.bx none ls=>(cD ls).map .tup
 |.bx (some _) ls=>(cD ls).map .lst
 |.dic _ _=>none
noncomputable def cD:List L->Option (List D)
 |[]=>some []
 | l::ls=>match bL l,cD ls with
  |some x,some xs=>some (x::xs)
  |_,_=>none
end
def d9:Option D->(D->Prop)->Prop
 |some x,k=>k x
 |none,_=>False
theorem AW{o:Option D}{k:D->Prop}(h:d9 o k):∃x,o=some x/\k x:=by
 cases o with
 |some x=>exact⟨x,rfl,h⟩
 |none=>exact h.elim
def BB(a:Option Addr)(ls:List L)(k:D->Prop):Prop:=d9 (bL (.bx a ls)) k
def P2:L->(D->Prop)->Prop
 |.un,_=>False
 |.d x,k=>k x
 |.own _ xs,k=>k (.lst xs)
 |.bx a ls,k=>BB a ls k
 |.dic _ _,_=>False
theorem yh{a:Option Addr}{ls:List L}{k:D->Prop}(h:BB a ls k):∃x,bL (.bx a ls)=some x/\k x:=AW h
def ET(ls:List L)(k:List D->Prop):Prop:=∃xs,cD ls=some xs/\k xs
theorem KQ(ls:List L)(k:D->Prop):BB none ls k=ET ls λxs=>k (.tup xs):=by
 unfold BB ET;simp only[bL]
 cases cD ls with
 |none=>simp[d9]
 |some xs=>simp[d9]
theorem KR(a:Addr)(ls:List L)(k:D->Prop):BB (some a) ls k=ET ls λxs=>k (.lst xs):=by
 unfold BB ET;simp only[bL]
 cases cD ls with
 |none=>simp[d9]
 |some xs=>simp[d9]
theorem EU(k:List D->Prop):ET [] k=k []:=by unfold ET;simp[cD]
theorem Ib(l:L)(k:D->Prop):P2 l k=∃x,bL l=some x/\k x:=by
 cases l with
 |un=>simp[P2,bL]
 |d x=>simp[P2,bL]
 |own a xs=>simp[P2,bL]
 | bx a ls =>
  show d9 _ k=_
  cases bL (.bx a ls)with
  |none=>simp[d9]
  |some x=>simp[d9]
 |dic a kvs=>simp[P2,bL]
theorem B9(l:L)(ls:List L)(k:List D->Prop):ET (l::ls) k=P2 l λx=>ET ls λxs=>k (x::xs):=by
 rw[Ib];unfold ET;simp only[cD]
 cases bL l with
 |none=>simp
 | some x =>
  cases cD ls with
  |none=>simp
  |some xs=>simp
theorem dF{K:PySem.W.Frag}{H:Hp}:∀{vs:List V}{ls:List L},cj K H vs ls↔Paired (ba K H) (vs.map some) ls
 |[],[]=>⟨λ_=>.nil,λ_=>by simp only[cj]⟩
 | v::vs,l::ls=>by
  simp only[cj,Ur];constructor
  . rintro⟨w,us,e,h1,h2⟩;cases e;exact .cons h1 (dF.mp h2)
  .
   intro h
   cases h with
   |cons q t=>exact⟨v,vs,rfl,q,dF.mpr t⟩
 | [],l::ls=>by
  simp only[cj,List.map_nil];constructor
  . rintro⟨w,us,e,_⟩;cases e
  . intro h;cases h
 | v::vs,[]=>by
  simp only[cj,Ur];constructor
  . intro h;cases h
  . intro h;cases h
theorem yi{K:PySem.W.Frag}{H:Hp}:∀{vs:List V}{xs:List D},Paired (ba K H) (vs.map some) (xs.map .d)->bU K H vs xs
 |[],[],_=>.nil
 | v::vs,x::xs,h=>by
  simp only[Ur]at h
  cases h with
  | cons q t =>
   simp only[ba]at q;obtain⟨w,e,r⟩:=q;cases e;exact .cons r (yi t)
 |[],_::_,h=>by simp only[Ur,List.map_nil]at h;cases h
 |_::_,[],h=>by simp only[Ur,List.map_nil]at h;cases h
theorem cj.len{K:PySem.W.Frag}{H:Hp}{vs:List V}{ls:List L}(h:cj K H vs ls):vs.length=ls.length:=by have:=Paired.length (dF.mp h);simpa using this
theorem iN:∀{ls:List L}{xs:List D},cD ls=some xs->xs.length=ls.length
 |[],_,h=>by simp[cD]at h;subst h;rfl
 | l::ls,xs,h=>by
  simp only[cD]at h;split at h
  . rename_i x ys h1 h2;cases h;simp[iN h2]
  . cases h
theorem aD.openT{K:PySem.W.Frag}{Pr H:Hp}{σ:St}{Z:Ev}{v:Option V}{ls:List L}(E:aD K Pr H (v::σ) (.bx none ls::Z)):∃a vs,v=some (.ref a)/\Pd K H a vs/\vs.length=ls.length/\aD K Pr H (vs.map some++σ) (ls++Z):=by
 have sl:=E.sl
 cases sl with
 | cons q t =>
  simp only[ba]at q;obtain⟨a,vs,e,h,r⟩:=q;have ow:owns (.bx none ls::Z)=owns (ls++Z):=by rw[aN,aH];simp only[bc,Option.toList,Vy,fb]
  exact⟨a,vs,e,h,r.len,E.sub,by rw[<- ow];exact E.nd,λb hb=>E.off b (by rw[ow];exact hb),Paired.app (dF.mp r) t⟩
theorem aD.openO{K:PySem.W.Frag}{Pr H:Hp}{σ:St}{Z:Ev}{v:Option V}{a:Addr}{ls:List L}(E:aD K Pr H (v::σ) (.bx (some a) ls::Z)):∃vs,v=some (.ref a)/\H a=some (.lst vs)/\vs.length=ls.length/\a∉owns (ls++Z)/\Pr a=none/\aD K Pr H (vs.map some++σ) (ls++Z):=by
 have sl:=E.sl
 cases sl with
 | cons q t =>
  simp only[ba]at q;obtain⟨e,vs,h,r⟩:=q;have ow:owns (.bx (some a) ls::Z)=a::owns (ls++Z):=by rw[aN,aH];simp only[bc,Option.toList,VM,Vy,fb]
  have nd:=E.nd;rw[ow]at nd;obtain⟨n1,n2⟩:=Uz.mp nd;exact⟨vs,e,h,r.len,n1,E.off a (by rw[ow];exact TQ),E.sub,n2,λb hb=>E.off b (by rw[ow];exact TL _ hb),Paired.app (dF.mp r) t⟩
theorem Ca(xs:List D):owns (xs.map .d)=[]:=by
 induction xs with
 |nil=>rfl
 |cons x xs ih=>rw[Ur,aN,ih];rfl
def pP(H H':Hp)(S:List Addr):Prop:=vN H H'/\(∀b,b∉S->H' b=H b)/\∀a∈S,∀vs,H a=some (.lst vs)->∃o,H' a=some (.frz o (.lst vs))
theorem pP.refl(H:Hp):pP H H []:=⟨λ_ _ _ e=>e,λ_ _=>rfl,λ_ h=>by simp at h⟩
mutual
theorem KS:∀(l:L){gV:List (Addr×Obj)}{σ0:St}{s:Shared}{Pr H:Hp}{σ:St}{Z:Ev}{v:Option V}{x:D},O7 X gV σ0 H s->aD X.K Pr H (v::σ) (l::Z)->bL l=some x->∃H',O7 X gV σ0 H' s/\aD X.K Pr H' (v::σ) (.d x::Z)/\pP H H' (bc l)
 |.un,_,_,_,_,_,_,_,_,_,_,_,h=>by simp[bL]at h
 |.dic _ _,_,_,_,_,_,_,_,_,_,_,_,h=>by simp[bL]at h
 | .d y,_,_,_,_,_,_,_,_,_,I,E,h=>by
  simp only[bL,UG]at h
  subst h
  exact⟨_,I,E,pP.refl _⟩
 | .own a xs,_,_,_,_,H,σ,Z,v,_,I,E,h=>by
  simp only[bL,UG]at h
  subst h
  have sl:=E.sl
  cases sl with
  | cons q t =>
   simp only[ba]at q
   obtain⟨e0,vs,ha,r⟩:=q
   obtain⟨o,I'⟩:=I.freezeL ha
   refine⟨_,I',E.freeze ha o,λb u pu eb=>?_,λb hb=>?_,λb hb vs' eb=>?_⟩
   .
    rw[aB];exact eb
    rintro rfl
    rw[ha]at eb;cases eb;exact pu
   .
    rw[aB]
    rintro rfl
    exact hb (by simp[bc])
   .
    have e:b=a:=by simpa[bc]using hb
    subst e
    rw[ha]at eb;cases eb
    exact⟨o,a6⟩
 | .bx none ls,_,_,_,Pr,H,σ,Z,v,x,I,E,h=>by
  simp only[bL,Option.map_eq_some_iff]at h
  obtain⟨xs,h,rfl⟩:=h
  obtain⟨a,vs,rfl,ha,hl,E1⟩:=E.openT
  obtain⟨H',I',E',F⟩:=Ic ls hl I E1 h
  have hxl:=iN h
  obtain⟨s1,s2⟩:=Paired.unapp (by simp[hl,hxl]) E'.sl
  refine⟨H',I',(E'.drop (by simp[hl,hxl])).cons_d (.tup (ha.pres F.1) (yi s1)),F.1,λb hb=>F.2.1 b ?_,λb hb=>F.2.2 b ?_⟩
  .
   simpa[bc,fb]using hb
  .
   simpa[bc,fb]using hb
 | .bx (some a) ls,_,_,_,Pr,H,σ,Z,v,x,I,E,h=>by
  simp only[bL,Option.map_eq_some_iff]at h
  obtain⟨xs,h,rfl⟩:=h
  obtain⟨vs,rfl,ha,hl,hn,hp,E1⟩:=E.openO
  obtain⟨H',I',E',F⟩:=Ic ls hl I E1 h
  have hxl:=iN h
  have hal:a∉owns ls:=λz=>hn (by rw[aH];exact Uj _ z)
  have haρ:a∉owns Z:=λz=>hn (by rw[aH];exact Um _ z)
  have ha':H' a=some (.lst vs):=(F.2.1 a hal).trans ha
  obtain⟨s1,s2⟩:=Paired.unapp (by simp[hl,hxl]) E'.sl
  have E2:=E'.drop (by simp[hl,hxl])
  have E3:aD X.K Pr H' (some (.ref a)::σ) (.own a xs::Z):=by
   refine⟨E2.sub,?_,λb hb=>?_,.cons ?_ E2.sl⟩
   .
    rw[bb];exact Uz.mpr ⟨haρ,E2.nd⟩
   .
    rw[bb]at hb
    rcases Ue.mp hb with z|z
    .
     rw[z];exact hp
    .
     exact E2.off b z
   .
    unfold ba
    exact⟨rfl,vs,ha',yi s1⟩
  obtain⟨o,I2⟩:=I'.freezeL ha'
  refine⟨_,I2,E3.freeze ha' o,λb u pu e=>?_,λb hb=>?_,λb hb vs' eb=>?_⟩
  .
   rw[aB];exact F.1 b u pu e
   rintro rfl
   rw[ha]at e;cases e;exact pu
  .
   have hb':b≠a/\b∉owns ls:=by simpa[bc,fb,not_or]using hb
   rw[aB hb'.1]
   exact F.2.1 b hb'.2
  .
   by_cases hba:b=a
   .
    subst hba
    rw[ha]at eb;cases eb
    exact⟨o,a6⟩
   .
    have hb':b∈owns ls:=by
     rcases(by simpa[bc,fb]using hb:b=a∨b∈owns ls)with z|z
     .
      exact absurd z hba
     .
      exact z
    rw[aB hba]
    exact F.2.2 b hb' vs' eb
theorem Ic:∀(ls:List L){gV:List (Addr×Obj)}{σ0:St}{s:Shared}{Pr H:Hp}{σ:St}{Z:Ev}{vs:List V}{xs:List D},vs.length=ls.length->O7 X gV σ0 H s->aD X.K Pr H (vs.map some++σ) (ls++Z)->cD ls=some xs->∃H',O7 X gV σ0 H' s/\aD X.K Pr H' (vs.map some++σ) (xs.map .d++Z)/\pP H H' (owns ls)
 | [],_,_,_,_,_,_,_,vs,xs,hl,I,E,h=>by
  simp only[cD,UG]at h
  subst h
  cases vs with
  |nil=>exact⟨_,I,E,pP.refl _⟩
  |cons _ _=>simp at hl
 | l::ls,_,_,_,Pr,H,σ,Z,vs,xs,hl,I,E,h=>by
  simp only[cD]at h
  split at h
  rotate_left
  .
   cases h
  rename_i x ys h1 h2
  cases h
  cases vs with
  |nil=>simp at hl
  | cons v vs =>
   have hl':vs.length=ls.length:=by simpa using hl
   obtain⟨H1,I1,E1,F1⟩:=KS l I E h1
   have E2:aD X.K (bG H1 (ls++Z)) H1 (vs.map some++σ) (ls++Z):=(E1.drop (τ:=[some v]) (lam:=[.d x]) rfl).wide
   obtain⟨H2,I2,E3,F2⟩:=Ic ls hl' I1 E2 h2
   have hyl:=iN h2
   have E4:aD X.K Pr H2 (some v::(vs.map some++σ)) (.d x::(ys.map .d++Z)):=by
    have z:=aD.step (τ:=[some v]) (lam:=[.d x]) (w:=[]) (μ:=[]) (σ':=vs.map some++σ) (Z':=ys.map .d++Z) E1 rfl E3 rfl
    exact z
   refine⟨H2,I2,E4,λb u pu e=>F2.1 b u pu (F1.1 b u pu e),λb hb=>?_,λb hb vs' eb=>?_⟩
   .
    rw[aN]at hb
    rw[F2.2.1 b (λz=>hb (Um _ z)),F1.2.1 b (λz=>hb (Uj _ z))]
   .
    rw[aN]at hb
    rcases Uw.mp hb with z|z
    .
     obtain⟨o,eo⟩:=F1.2.2 b z vs' eb
     exact⟨o,F2.1 b _ True.intro eo⟩
    .
     have hn:b∉bc l:=λz'=>by
      have nd:=E.nd
      rw[VM,aN,aH]at nd
      exact(UC.mp nd).2.2 b z' b (Uj _ z) rfl
     exact F2.2.2 b z vs' ((F1.2.1 b hn).trans eb)
end
theorem EL.frz{gV:List (Addr×Obj)}{σ:St}{Pr:Hp}{so:D->Ev->Prop}{u:Value}{s':Shared}(h:EL X gV σ Pr (λr Z=>P2 r λx=>so x Z) u s') :
  ∃v H' x Z',O7 X gV σ H' s'/\cB v u/\aD X.K Pr H' (some v::σ) (.d x::Z')/\so x Z':=by
 obtain⟨v,H',r,Z',I,rv,E,p⟩:=h
 cases r with
 |un=>exact p.elim
 |d x=>exact⟨v,H',x,Z',I,rv,E,p⟩
 | own a xs =>
  obtain⟨H2,I2,E2,_⟩:=KS (.own a xs) I E rfl;exact⟨v,H2,.lst xs,Z',I2,rv,E2,p⟩
 | bx a ls =>
  obtain⟨x,ex,p⟩:=yh p;obtain⟨H2,I2,E2,_⟩:=KS (.bx a ls) I E ex;exact⟨v,H2,x,Z',I2,rv,E2,p⟩
 |dic a kvs=>exact p.elim
def bp(t:W L):W L:=λZ so=>t Z λr Z1=>P2 r λx=>so (.d x) Z1
theorem ay{t:W L}(h:PL X e t):PL X e (bp t):=λgV s σ H Pr Z so I E ht =>
 O9 (h gV s σ H Pr Z _ I E ht) λu s1 q=>by obtain⟨v,H',x,Z',I',rv,E',p⟩:=EL.frz (so:=λx Z=>so (.d x) Z) q;exact⟨v,H',.d x,Z',I',rv,E',p⟩
theorem aD.head_d{K:PySem.W.Frag}{Pr H:Hp}{v:Option V}{σ:St}{x:D}{Z:Ev}(E:aD K Pr H (v::σ) (.d x::Z)):∃w,v=some w/\PZ K H w x:=by
 have sl:=E.sl
 cases sl with
 |cons q t=>exact q
theorem aD.tail{K:PySem.W.Frag}{Pr H:Hp}{v:Option V}{σ:St}{l:L}{Z:Ev}(E:aD K Pr H (v::σ) (l::Z)):aD K Pr H σ Z:=aD.drop (τ:=[v]) (lam:=[l]) E rfl
theorem two{gV:List (Addr×Obj)}{s:Shared}{σ:St}{H Pr:Hp}{Z:Ev}{R:D->D->Ev->Prop}(ha:PL X a ta)(hb:PL X b tb)(I:O7 X gV σ H s)(E:aD X.K Pr H σ Z)
  (h:ta Z λx Z1=>P2 x λdx=>tb Z1 λy Z2=>P2 y λdy=>R dx dy Z2) {α:Type} {Q:α->Shared->Prop} {f:Value->Value->Sem α}
  (hf:∀v u s2 x y H2 dx dy Z2,O7 X gV σ H2 s2->cB x v->cB y u->aD X.K Pr H2 (some y::some x::σ) (.d dy::.d dx::Z2)->PZ X.K H2 x dx->PZ X.K H2 y dy->R dx dy Z2->wpAny (model X.prog X.w) X.A (f v u) Q X.xe s2) :
  wpAny (model X.prog X.w) X.A (eval a X.env) (λv s₁=>wpAny (model X.prog X.w) X.A (eval b X.env) (λu s₂=>wpAny (model X.prog X.w) X.A (f v u) Q X.xe s₂) X.xe s₁) X.xe s:=by
 refine O9 (ha gV s σ H Pr Z _ I E h) λv s1 q=>?_;obtain⟨x,H1,dx,Z1,I1,r1,E1,q1⟩:=EL.frz (so:=λdx Z1=>tb Z1 λy Z2=>P2 y λdy=>R dx dy Z2) q;refine O9 (hb gV s1 σ H1 _ Z1 _ I1 E1.tail.wide q1) λu s2 q=>?_;obtain⟨y,H2,dy,Z2,I2,r2,E2,q2⟩:=EL.frz (so:=λdy Z2=>R dx dy Z2) q;have E3:aD X.K Pr H2 (some y::some x::σ) (.d dy::.d dx::Z2):=aD.step (τ:=[some x]) (lam:=[.d dx]) (w:=[some y]) (μ:=[.d dy]) E1 rfl E2 rfl;obtain⟨_,e1,p1⟩:=E3.head_d;obtain⟨_,e2,p2⟩:=E3.tail.head_d;cases e1;cases e2;exact hf v u s2 x y H2 dx dy Z2 I2 r1 r2 E3 p2 p1 q2
abbrev P4:=D->D->(L->Prop)->Prop
def P5(X:Cx)(f:Value->Value->Sem Value)(op:P4):Prop :=
 ∀(gV:List (Addr×Obj))(s:Shared)(σ:St)(H Pr:Hp)(Z:Ev)(x y:V)(v u:Value)(dx dy:D)(so:L->Prop),O7 X gV σ H s->cB x v->cB y u->aD X.K Pr H σ Z->PZ X.K H x dx->PZ X.K H y dy->op dx dy so ->
  wpAny (model X.prog X.w) X.A (f v u) (λw s'=>∃z H' r,O7 X gV σ H' s'/\cB z w/\aD X.K Pr H' (some z::σ) (r::Z)/\so r) X.xe s
theorem P5.of{f:Value->Value->Sem Value}{r:R2}{op:P4}(h:Pk X f r)(q:∀σ H Pr Z x y dx dy so,aD X.K Pr H σ Z->PZ X.K H x dx->PZ X.K H y dy->op dx dy so->r x y H λz H'=>∃r,aD X.K Pr H' (some z::σ) (r::Z)/\so r):P5 X f op :=
 λgV s σ H Pr Z x y v u dx dy so I rx ry E px py ho=>O9 (h gV s σ H x y v u _ I rx ry (q σ H Pr Z x y dx dy so E px py ho)) λw s' ⟨z,H',I',rz,r,E',p⟩=>⟨z,H',r,I',rz,E',p⟩
theorem P5.imp{f:Value->Value->Sem Value}{o1 o2:P4}(h1:P5 X f o1)(h:∀x y p,o2 x y p->o1 x y p):P5 X f o2 :=
 λgV s σ H Pr Z x y v u dx dy so I rx ry E px py ho=>h1 gV s σ H Pr Z x y v u dx dy so I rx ry E px py (h _ _ _ ho)
def ax(op:P4)(ta tb:W L):W L:=λZ so=>ta Z λx Z1=>P2 x λdx=>tb Z1 λy Z2=>P2 y λdy=>op dx dy λr=>so r Z2
theorem az{op:Operator}{o:P4}(ho:P5 X (binaryOp op) o)(ha:PL X a ta)(hb:PL X b tb):PL X (.BinOp a op b pos) (ax o ta tb):=λgV s σ H Pr Z so I E h =>
 wpAny_BinOp (two (R:=λdx dy Z2=>o dx dy λr=>so r Z2) ha hb I E h λv u s2 x y H2 dx dy Z2 I2 r1 r2 E2 p1 p2 q =>
  O9 (ho gV s2 σ H2 Pr Z2 x y v u dx dy _ I2 r1 r2 E2.tail.tail p1 p2 q) λw s3 ⟨z,H3,r,I3,rz,E3,p⟩=>⟨z,H3,r,Z2,I3,rz,E3,p⟩)
theorem iw{op:CmpOp}{o:P4}(ho:P5 X (compareOp op) o)(ha:PL X a ta)(hb:PL X b tb)(hm:behindInMarks op b=false):PL X (.Compare a [op] [b] pos) (ax o ta tb):=λgV s σ H Pr Z so I E h =>
 wpAny_Compare1 (two (R:=λdx dy Z2=>o dx dy λr=>so r Z2) ha hb I E h λv u s2 x y H2 dx dy Z2 I2 r1 r2 E2 p1 p2 q =>
  O9 (ho gV s2 σ H2 Pr Z2 x y v u dx dy _ I2 r1 r2 E2.tail.tail p1 p2 q) λw s3 ⟨z,H3,r,I3,rz,E3,p⟩=>⟨z,H3,r,Z2,I3,rz,E3,p⟩) hm
def wC(x:D):W L:=λZ so=>so (.d x) Z
theorem ah {i j pos}:PL X (.Constant (.int i) j pos) (wC (.int i)):=PL.of Ku λσ H Pr Z so E h=>⟨_,_,E.cons_d (.int i),h⟩
theorem jA {b j pos}:PL X (.Constant (.bool b) j pos) (wC (.bl b)):=PL.of MO λσ H Pr Z so E h=>⟨_,_,E.cons_d (.bl b),h⟩
theorem qP {j pos}:PL X (.Constant .none j pos) (wC .non):=PL.of Kv λσ H Pr Z so E h=>⟨_,_,E.cons_d .non,h⟩
theorem gH {x j pos}:PL X (.Constant (.str x) j pos) (wC (.str x)):=PL.of BJ λσ H Pr Z so E h=>⟨_,_,E.cons_d (.str x),h⟩
def KU(o:Option L)(i:Nat)(Z:Ev)(so:L->Ev->Prop):Prop:=match o with
 |some (.d x)=>so (.d x) Z
 |some (.own _ xs)=>so (.d (.lst xs)) (Z.set i (.d (.lst xs)))
 |some (.bx a ls)=>BB a ls λx=>so (.d x) (Z.set i (.d x))
 |_=>False
def ao(i:Nat):W L:=λZ so=>KU Z[i]? i Z so
theorem KW(x:D)(i:Nat)(Z:Ev)(so:L->Ev->Prop):KU (some (.d x)) i Z so=so (.d x) Z:=(rfl)
theorem EV(a:Addr)(xs:List D)(i:Nat)(Z:Ev)(so:L->Ev->Prop):KU (some (.own a xs)) i Z so=so (.d (.lst xs)) (Z.set i (.d (.lst xs))):=(rfl)
theorem Ie(a:Option Addr)(ls:List L)(i:Nat)(Z:Ev)(so:L->Ev->Prop):KU (some (.bx a ls)) i Z so=BB a ls λx=>so (.d x) (Z.set i (.d x)):=(rfl)
theorem aD.slot{K:PySem.W.Frag}{Pr H:Hp}{σ:St}{Z:Ev}{i:Nat}{l:L}(E:aD K Pr H σ Z)(h:Z[i]?=some l):∃s,σ[i]?=some s/\ba K H s l:=Paired.get2 E.sl h
theorem af(i:Nat){x:Str}{pos:Pos}(hN:X.N[i]?=some x:=by rfl)(hv:O5 X.env.scope x:=by first | exact Or.inl rfl | exact Or.inr (Or.inl rfl) | exact Or.inr (Or.inr rfl)) (hd:(x == ("__debug__" : Str))=false:=by decide)
  (hcd:(x == ("__classdict__" : Str))=false:=by decide):PL X (.Name x pos) (ao i):=by
 intro gV s σ H Pr Z so I E h;unfold ao KU at h
 cases q:Z[i]? with
 |none=>rw[q]at h;exact h.elim
 | some l =>
  rw[q]at h;obtain⟨sv,hs,sl⟩:=E.slot q
  cases l with
  |un=>exact h.elim
  |dic a kvs=>exact h.elim
  | d y =>
   obtain⟨v,rfl,r⟩:=sl;exact O9 (jn hN hv hd hcd gV s σ H (λw H'=>w=v/\H'=H) I ⟨v,hs,rfl,rfl⟩) λu s1 ⟨w,H1,I1,r1,e1,e2⟩=>by subst e1 e2;exact⟨w,H1,_,Z,I1,r1,E.cons_d r,h⟩
  | own a xs =>
   obtain⟨rfl,vs,ha,r⟩:=sl;refine O9 (jn hN hv hd hcd gV s σ H (λw H'=>w=.ref a/\H'=H) I ⟨.ref a,hs,rfl,rfl⟩) λu s1 ⟨w,H1,I1,r1,e1,e2⟩=>?_;subst e1 e2;obtain⟨o,I2⟩:=I1.freezeL ha;have E2:=(E.out q).freeze ha o;have hi:i<Z.length:=(TR.mp q).1;have E3:=E2.back (i:=i) (by simp[hi]) hs;rw[VH]at E3;obtain⟨_,e,p⟩:=E2.head_d;cases e;exact⟨_,_,_,_,I2,r1,E3.cons_d p,h⟩
  | bx a ls =>
   obtain⟨y,ey,h⟩:=yh h
   have hv':∃b,sv=some (.ref b):=by
    cases a with
    |none=>simp only[ba]at sl;obtain⟨b,_,e,_⟩:=sl;exact⟨b,e⟩
    |some b=>simp only[ba]at sl;exact⟨b,sl.1⟩
   obtain⟨b,rfl⟩:=hv';refine O9 (jn hN hv hd hcd gV s σ H (λw H'=>w=.ref b/\H'=H) I ⟨.ref b,hs,rfl,rfl⟩) λu s1 ⟨w,H1,I1,r1,e1,e2⟩=>?_;subst e1 e2;obtain⟨H2,I2,E2,_⟩:=KS (.bx a ls) I1 (E.outL q hs) ey;have hi:i<Z.length:=(TR.mp q).1;have E3:=E2.back (i:=i) (by simp[hi]) hs;rw[VH]at E3;obtain⟨_,e,p⟩:=E2.head_d;cases e;exact⟨_,_,_,_,I2,r1,E3.cons_d p,h⟩
def Km(o:Option L)(i:Nat)(Z:Ev)(so:L->Ev->Prop):Prop:=match o with
 |some (.d x)=>so (.d x) Z
 |some (.own a xs)=>so (.own a xs) (Z.set i .un)
 |some (.bx a ls)=>so (.bx a ls) (Z.set i .un)
 |_=>False
def jL(i:Nat):W L:=λZ so=>Km Z[i]? i Z so
theorem KY(x:D)(i:Nat)(Z:Ev)(so:L->Ev->Prop):Km (some (.d x)) i Z so=so (.d x) Z:=(rfl)
theorem EW(a:Addr)(xs:List D)(i:Nat)(Z:Ev)(so:L->Ev->Prop):Km (some (.own a xs)) i Z so=so (.own a xs) (Z.set i .un):=(rfl)
theorem Ig(a:Option Addr)(ls:List L)(i:Nat)(Z:Ev)(so:L->Ev->Prop):Km (some (.bx a ls)) i Z so=so (.bx a ls) (Z.set i .un):=(rfl)
theorem dH(i:Nat){x:Str}{pos:Pos}(hN:X.N[i]?=some x:=by rfl)(hv:O5 X.env.scope x:=by first | exact Or.inl rfl | exact Or.inr (Or.inl rfl) | exact Or.inr (Or.inr rfl)) (hd:(x == ("__debug__" : Str))=false:=by decide)
  (hcd:(x == ("__classdict__" : Str))=false:=by decide):PL X (.Name x pos) (jL i):=by
 intro gV s σ H Pr Z so I E h;unfold jL Km at h
 cases q:Z[i]? with
 |none=>rw[q]at h;exact h.elim
 | some l =>
  rw[q]at h;obtain⟨sv,hs,sl⟩:=E.slot q
  cases l with
  |un=>exact h.elim
  |dic a kvs=>exact h.elim
  | d y =>
   obtain⟨v,rfl,r⟩:=sl;exact O9 (jn hN hv hd hcd gV s σ H (λw H'=>w=v/\H'=H) I ⟨v,hs,rfl,rfl⟩) λu s1 ⟨w,H1,I1,r1,e1,e2⟩=>by subst e1 e2;exact⟨w,H1,_,Z,I1,r1,E.cons_d r,h⟩
  | own a xs =>
   obtain⟨rfl,vs,ha,r⟩:=sl;refine O9 (jn hN hv hd hcd gV s σ H (λw H'=>w=.ref a/\H'=H) I ⟨.ref a,hs,rfl,rfl⟩) λu s1 ⟨w,H1,I1,r1,e1,e2⟩=>?_;subst e1 e2;exact⟨_,_,_,_,I1,r1,E.out q,h⟩
  | bx a ls =>
   have hv':∃b,sv=some (.ref b):=by
    cases a with
    |none=>simp only[ba]at sl;obtain⟨b,_,e,_⟩:=sl;exact⟨b,e⟩
    |some b=>simp only[ba]at sl;exact⟨b,sl.1⟩
   obtain⟨b,rfl⟩:=hv';refine O9 (jn hN hv hd hcd gV s σ H (λw H'=>w=.ref b/\H'=H) I ⟨.ref b,hs,rfl,rfl⟩) λu s1 ⟨w,H1,I1,r1,e1,e2⟩=>?_;subst e1 e2;exact⟨_,_,_,_,I1,r1,E.outL q hs,h⟩
theorem Ih{x:Str}{v:V}{u:Value}{y:D}{pos:Pos}(hg:Gl X x)(hm:X.mg x=some u)(r:cB v u)(hy:∀ H,PZ X.K H v y) (hd:(x == ("__debug__" : Str))=false:=by decide):PL X (.Name x pos) (wC y) :=
 PL.of (HD hg hm r hd) λσ H Pr Z so E h=>⟨_,_,E.cons_d (hy H),h⟩
def AX:L->(Bool->Prop)->Prop
 |.d (.bl b),k=>k b
 |_,_=>False
def aT(t:W L):W Bool:=λZ so=>t Z λr Z1=>AX r λb=>so b Z1
theorem uG{r:L}{k:Bool->Prop}(h:AX r k):∃b,r=.d (.bl b)/\k b:=by
 cases r with
 | d x=>cases x with
  |bl b=>exact⟨b,rfl,h⟩
  |_=>exact h.elim
 |_=>exact h.elim
theorem bV{t:W L}(h:PL X e t)(he:∀whole,isTrue e X.env whole=(do let v <- whole;standAt e.pos;holding [v] (truthy v)):=by intro _;rfl):PB X e (aT t):=by intro gV s σ H Pr Z so I E ht;rw[he];refine tu (O9 (h gV s σ H Pr Z _ I E ht) λu s1 ⟨v,H1,r,Z1,I1,rv,E1,p⟩=>tu (V3 (Vn ?_)));obtain⟨b,rfl,p⟩:=uG p;obtain⟨_,e1,p1⟩:=E1.head_d;cases e1;cases p1;cases rv;exact Vd ⟨H1,Z1,I1,E1.tail,p⟩
end
section
variable{X:Cx}{e a b c:Expr}{rest:List Expr}{pos:Pos}{ta tb:W L}{tA tB:W Bool}
def P6(X:Cx)(e:Expr)(t:W Bool):Prop :=
 ∀(whole:Sem Value)(gV:List (Addr×Obj))(s:Shared)(σ:St)(H Pr:Hp)(Z:Ev)(so:Bool->Ev->Prop),O7 X gV σ H s->aD X.K Pr H σ Z->t Z so->wpAny (model X.prog X.w) X.A (isTrue e X.env whole) (EB X gV σ Pr so) X.xe s
theorem P6.pb{t:W Bool}(h:P6 X e t):PB X e t:=h _
def Ii(t u:W Bool):W Bool:=λZ so=>t Z λc Z1=>if c=true then u Z1 so else so false Z1
def P7(t u:W Bool):W Bool:=λZ so=>t Z λc Z1=>if c=true then so true Z1 else u Z1 so
def vO(t:W Bool):W Bool:=λZ so=>t Z λc Z1=>so (!c) Z1
theorem qu(ha:PB X a tA):P6 X (.BoolOp .And [a] pos) tA:=by
 intro wh gV s σ H Pr Z so I E h;refine isTrue_and (O9 (ha gV s σ H Pr Z so I E h) λc s1 e=>?_)
 cases c with
 |true=>exact isTrue_and_nil e
 |false=>exact e
theorem oK(ha:PB X a tA):P6 X (.BoolOp .Or [a] pos) tA:=by
 intro wh gV s σ H Pr Z so I E h;refine isTrue_or (O9 (ha gV s σ H Pr Z so I E h) λc s1 e=>?_)
 cases c with
 |false=>exact isTrue_or_nil e
 |true=>exact e
theorem qQ(ha:PB X a tA)(hb:P6 X (.BoolOp .And (b::rest) pos) tB):P6 X (.BoolOp .And (a::b::rest) pos) (Ii tA tB):=by
 intro wh gV s σ H Pr Z so I E h;refine isTrue_and (O9 (ha gV s σ H Pr Z _ I E h) λc s1 ⟨H1,Z1,I1,E1,q1⟩=>?_)
 cases c with
 |true=>exact hb wh gV s1 σ H1 Pr Z1 so I1 E1 q1
 |false=>exact⟨H1,Z1,I1,E1,q1⟩
theorem qR(ha:PB X a tA)(hb:P6 X (.BoolOp .Or (b::rest) pos) tB):P6 X (.BoolOp .Or (a::b::rest) pos) (P7 tA tB):=by
 intro wh gV s σ H Pr Z so I E h;refine isTrue_or (O9 (ha gV s σ H Pr Z _ I E h) λc s1 ⟨H1,Z1,I1,E1,q1⟩=>?_)
 cases c with
 |true=>exact⟨H1,Z1,I1,E1,q1⟩
 |false=>exact hb wh gV s1 σ H1 Pr Z1 so I1 E1 q1
theorem gI(ha:PB X a tA):PB X (.UnaryOp .Not a pos) (vO tA):=by intro gV s σ H Pr Z so I E h;exact isTrue_not (ha gV s σ H Pr Z (λc Z1=>so (!c) Z1) I E h)
theorem P8{op:CmpOp}{o:P4}(ho:P5 X (compareOp op) o)(ha:PL X a ta)(hb:PL X b tb)(hm:behindInMarks op b=false):PB X (.Compare a [op] [b] pos) (aT (ax o ta tb)):=by intro gV s σ H Pr Z so I E h;refine wpAny_isTrue_Compare1 (two (R:=λdx dy Z2=>o dx dy λr=>AX r λb=>so b Z2) ha hb I E h λv u s2 x y H2 dx dy Z2 I2 r1 r2 E2 p1 p2 q=>?_) hm;refine O9 (ho gV s2 σ H2 Pr Z2 x y v u dx dy _ I2 r1 r2 E2.tail.tail p1 p2 q) λw s3 ⟨z,H3,r,I3,rz,E3,p⟩=>?_;obtain⟨b,rfl,p⟩:=uG p;obtain⟨_,e1,p1⟩:=E3.head_d;cases e1;cases p1;cases rz;exact Vd ⟨H3,Z2,I3,E3.tail,p⟩
def nq(ta tb:W L):W L:=λZ so=>ta Z λr Z1=>AX r λc=>if c=true then tb Z1 so else so (.d (.bl false)) Z1
def M3(ta tb:W L):W L:=λZ so=>ta Z λr Z1=>AX r λc=>if c=true then so (.d (.bl true)) Z1 else tb Z1 so
def Cb(t:W Bool):W L:=λZ so=>t Z λc Z1=>so (.d (.bl (!c))) Z1
theorem nr {op} {t:W L} (h:PL X a t):PL X (.BoolOp op [a] pos) t:=λgV s σ H Pr Z so I E hw=>BoolOp_one (h gV s σ H Pr Z so I E hw)
theorem EL.bl{gV:List (Addr×Obj)}{σ:St}{Pr:Hp}{so:Bool->Ev->Prop}{u:Value}{s':Shared}(h:EL X gV σ Pr (λr Z=>AX r λb=>so b Z) u s') :
  ∃H' b Z',u=.bool b/\O7 X gV σ H' s'/\aD X.K Pr H' σ Z'/\so b Z':=by
 obtain⟨v,H',r,Z',I,rv,E,p⟩:=h;obtain⟨b,rfl,p⟩:=uG p;obtain⟨_,e1,p1⟩:=E.head_d;cases e1;cases p1;cases rv;exact⟨H',b,Z',rfl,I,E.tail,p⟩
theorem jo(ha:PL X a ta)(hb:PL X (.BoolOp .And (b::rest) pos) tb):PL X (.BoolOp .And (a::b::rest) pos) (nq ta tb):=by
 intro gV s σ H Pr Z so I E h;refine BoolOp_and (O9 (ha gV s σ H Pr Z _ I E h) λv s1 q=>?_)
 obtain⟨H1,c,Z1,rfl,I1,E1,q1⟩:=EL.bl (so:=λc Z1=>if c=true then tb Z1 so else so (.d (.bl false)) Z1) q
 refine Vd ?_
 cases c with
 |true=>exact hb gV s1 σ H1 Pr Z1 so I1 E1 q1
 |false=>exact⟨.bl false,H1,_,Z1,I1,rfl,E1.cons_d (.bl false),q1⟩
theorem M4(ha:PL X a ta)(hb:PL X (.BoolOp .Or (b::rest) pos) tb):PL X (.BoolOp .Or (a::b::rest) pos) (M3 ta tb):=by
 intro gV s σ H Pr Z so I E h;refine BoolOp_or (O9 (ha gV s σ H Pr Z _ I E h) λv s1 q=>?_)
 obtain⟨H1,c,Z1,rfl,I1,E1,q1⟩:=EL.bl (so:=λc Z1=>if c=true then so (.d (.bl true)) Z1 else tb Z1 so) q
 refine Vd ?_
 cases c with
 |false=>exact hb gV s1 σ H1 Pr Z1 so I1 E1 q1
 |true=>exact⟨.bl true,H1,_,Z1,I1,rfl,E1.cons_d (.bl true),q1⟩
theorem Cc(ha:PL X a ta):PL X (.UnaryOp .Not a pos) (Cb (aT ta)):=by intro gV s σ H Pr Z so I E h;refine UnaryOp_ (O9 (ha gV s σ H Pr Z _ I E h) λv s1 q=>?_);obtain⟨H1,c,Z1,rfl,I1,E1,q1⟩:=EL.bl (so:=λc Z1=>so (.d (.bl (!c))) Z1) q;exact not_of (Vd ⟨.bl (!c),H1,_,Z1,I1,rfl,E1.cons_d (.bl _),q1⟩)
def Cd(t:W Bool)(ta tb:W L):W L:=λZ so=>t Z λc Z1=>if c=true then ta Z1 so else tb Z1 so
theorem nu(hc:PB X c tA)(ha:PL X a ta)(hb:PL X b tb):PL X (.IfExp c a b pos) (Cd tA ta tb):=by
 intro gV s σ H Pr Z so I E h;refine wpAny_IfExp (O9 (hc gV s σ H Pr Z _ I E h) λd s1 ⟨H1,Z1,I1,E1,q1⟩=>?_)
 cases d with
 |true=>exact ha gV s1 σ H1 Pr Z1 so I1 E1 q1
 |false=>exact hb gV s1 σ H1 Pr Z1 so I1 E1 q1
def P9(op:D->(L->Prop)->Prop)(t:W L):W L:=λZ so=>t Z λx Z1=>P2 x λdx=>op dx λr=>so r Z1
def EX:D->(L->Prop)->Prop
 |.int i,k=>k (.d (.int (-i)))
 |_,_=>False
theorem KZ(ha:PL X a ta):PL X (.UnaryOp .USub a pos) (P9 EX ta):=by
 intro gV s σ H Pr Z so I E h;refine UnaryOp_ (O9 (ha gV s σ H Pr Z _ I E h) λv s1 q=>?_);obtain⟨x,H1,dx,Z1,I1,r1,E1,q1⟩:=EL.frz (so:=λdx Z1=>EX dx λr=>so r Z1) q;obtain⟨_,e1,p1⟩:=E1.head_d;cases e1
 cases p1 with
 | int i =>
  exact O9 (KD gV s1 σ H1 _ v (λw H'=>w=.int (-i)/\H'=H1) I1 r1 ⟨i,rfl,rfl,rfl⟩) λu s2 ⟨w,H2,I2,r2,e1,e2⟩=>by subst e1 e2;exact⟨_,_,_,Z1,I2,r2,E1.tail.cons_d (.int _),q1⟩
 |_=>exact q1.elim
variable{st:Stmt}{sts:List Stmt}{t u:W Fl}
def ck:W Fl:=λZ so=>so .nx Z
def aQ(t u:W Fl):W Fl:=λZ so=>t Z λf Z1=>match f with
 |.nx=>u Z1 so
 |f=>so f Z1
theorem aX:P1 X [] ck:=λ_ _ σ H Pr Z so I E h=>VV ⟨σ,H,Z,I,E,h⟩
theorem ai(h1:PM X st t)(h2:P1 X sts u):P1 X (st::sts) (aQ t u):=by
 intro gV s σ H Pr Z so I E h;refine wpAny_execs_cons (O9 (h1 gV s σ H Pr Z _ I E h) λf s1 q=>?_)
 cases f with
 | next =>
  obtain⟨σ',H',Z',I',E',q⟩:=q;exact h2 gV s1 σ' H' Pr Z' so I' E' q
 |ret v=>exact q
 |brk=>exact q
 |cont=>exact q
theorem aq(h1:PM X st t):P1 X [st] t:=by
 intro gV s σ H Pr Z so I E h;refine wpAny_execs_cons (O9 (h1 gV s σ H Pr Z _ I E h) λf s1 q=>?_)
 cases f with
 |next=>exact VV q
 |ret v=>exact q
 |brk=>exact q
 |cont=>exact q
def sT(t:W L):W Fl:=λZ so=>t Z λ_ Z1=>so .nx Z1
theorem jM{te:W L}(he:PL X e te)(hs:swapsWith e none pos.line X.env=pure false:=by rfl):PM X (.Expr e pos) (sT te):=by intro gV s σ H Pr Z so I E h;exact wpAny_Expr_any (O9 (he gV s σ H Pr Z _ I E h) λv s1 ⟨x,H1,r,Z1,I1,r1,E1,q1⟩=>⟨σ,H1,Z1,I1,E1.tail,q1⟩) I.quiet hs
def bN(t:W L):W Fl:=λZ so=>t Z λr Z1=>so (.rt r) Z1
theorem aE{te:W L}(he:PL X e te):PM X (.Return (some e) pos) (bN te):=by intro gV s σ H Pr Z so I E h;exact wpAny_Return_some (O9 (he gV s σ H Pr Z _ I E h) λv s1 ⟨x,H1,r,Z1,I1,r1,E1,q1⟩=>⟨x,σ,H1,r,Z1,σ,I1,r1,E1,q1⟩)
def Qa(c:W Bool)(t u:W Fl):W Fl:=λZ so=>c Z λb Z1=>if b=true then t Z1 so else u Z1 so
theorem cN{sa sb:List Stmt}(hc:PB X c tA)(ha:P1 X sa t)(hb:P1 X sb u):PM X (.If c sa sb pos) (Qa tA t u):=by
 intro gV s σ H Pr Z so I E h;refine wpAny_If (O9 (hc gV s σ H Pr Z _ I E h) λd s1 ⟨H1,Z1,I1,E1,q1⟩=>?_)
 cases d with
 |true=>exact ha gV s1 σ H1 Pr Z1 so I1 E1 q1
 |false=>exact hb gV s1 σ H1 Pr Z1 so I1 E1 q1
theorem aD.forget{K:PySem.W.Frag}{Pr H:Hp}{σ:St}{Z:Ev}(E:aD K Pr H σ Z)(i:Nat)(v:Option V):aD K Pr H (σ.set i v) (Z.set i .un):=by
 have hsub:(owns (Z.set i .un)).Sublist (owns Z):=by
  have:∀(Z:Ev)(i:Nat),(owns (Z.set i .un)).Sublist (owns Z):=by
   intro Z
   induction Z with
   |nil=>intro i;exact V2 _
   | cons l Z ih =>
    intro i
    cases i with
    | zero =>
     show(owns Z).Sublist (owns (l::Z));rw[aN];exact Vi _ _
    | succ i =>
     show(owns (l::Z.set i .un)).Sublist (owns (l::Z));rw[aN,aN];exact(V2 _).append (ih i)
  exact this Z i
 exact⟨E.sub,E.nd.sublist hsub,λa h=>E.off a (hsub.subset h),Paired.set2 True.intro i E.sl⟩
theorem aD.store{K:PySem.W.Frag}{Pr H:Hp}{σ:St}{Z:Ev}{v:Option V}{l:L}(E:aD K Pr H (v::σ) (l::Z)){i:Nat}(hi:i<σ.length):aD K Pr H (σ.set i v) (Z.set i l):=by have E1:=E.forget (i+1) v;have E2:aD K Pr H (v::σ.set i v) (l::Z.set i .un):=E1;have hl:=E.tail.len;have E3:=E2.back (i:=i) (by rw[UL xL]) (by rw[UL hi]);rw[VH]at E3;exact E3
def bq(i:Nat)(t:W L):W Fl:=λZ so=>t Z λr Z1=>so .nx (Z1.set i r)
theorem aA{i:Nat}{x:Str}{te:W L}{pos':Pos}(hN:X.N.Nodup)(hi:X.N[i]?=some x)(hx:O6 X.env.scope x)(he:PL X e te)(hs:swapsWith e (some (.Name x pos')) pos.line X.env=pure false:=by rfl)(hf:X.fn x=true∨X.env.scope.names.lookup x=some .local:=by first|exact .inl rfl|exact .inr rfl|assumption) :
  PM X (.Assign [.Name x pos'] e pos) (bq i te):=by
 intro gV s σ H Pr Z so I E h;refine wpAny_Assign_Name (O9 (he gV s σ H Pr Z _ I E h) λv s1 ⟨y,H1,r,Z1,I1,r1,E1,q1⟩=>?_) hs;exact m9 I1 hN hi hx r1 (λs2 I2=>⟨_,H1,_,I2,E1.store (by rw[I1.len];exact(TR.mp hi).1),q1⟩) hf
end
theorem ny{a b:Ev}(h:a.Perm b):(owns a).Perm (owns b):=by
 induction h with
 |nil=>exact .refl _
 |cons x _ ih=>rw[aN,aN];exact ih.append_left _
 | swap x y l =>
  rw[aN,aN,aN,aN,<- UQ,<- UQ];exact List.Perm.append_right _ U4
 |trans _ _ h1 h2=>exact h1.trans h2
theorem EY{a b:Ev}(h:a.Sublist b):(owns a).Sublist (owns b):=by
 induction h with
 |slnil=>exact .refl _
 |cons x _ ih=>rw[aN];exact ih.trans (Vi _ _)
 |cons_cons x _ ih=>rw[aN,aN];exact(V2 _).append ih
def tL(K:PySem.W.Frag)(t:W L):TE:=λσ H Q=>∃Pr Z so,aD K Pr H σ Z/\t Z so/\∀v H' r Z',aD K Pr H' (some v::σ) (r::Z')->so r Z'->Q v H'
def tW(K:PySem.W.Frag)(t:W Fl):TS:=λD σ H=>∃Pr Z so,aD K Pr H σ Z/\t Z so/\(∀σ' H' Z',aD K Pr H' σ' Z'->so .nx Z'->D.nx σ' H')/\(∀σ' H' Z',aD K Pr H' σ' Z'->so .bk Z'->D.bk σ' H')/\(∀σ' H' Z',aD K Pr H' σ' Z'->so .ct Z'->D.ct σ' H') /\
 ∀v τ H' r Z',aD K Pr H' (some v::τ) (r::Z')->so (.rt r) Z'->D.rt v H'
noncomputable def Qb(K:PySem.W.Frag)(t:W Bool):TT:=λσ H Q=>∃Pr Z so,aD K Pr H σ Z/\t Z so/\∀b H' Z',aD K Pr H' σ Z'->so b Z'->Q b H'
section
variable{X:Cx}{e a b:Expr}{es:List Expr}{pos:Pos}{st:Stmt}{sts:List Stmt}{t u:W Fl}
theorem PL.pe{t:W L}(h:PL X e t):PE X e (tL X.K t):=λgV s σ H Q I ⟨Pr,Z,so,E,ht,q⟩ =>
 O9 (h gV s σ H Pr Z so I E ht) λu s1 ⟨v,H1,r,Z1,I1,rv,E1,p⟩=>⟨v,H1,I1,rv,q v H1 r Z1 E1 p⟩
theorem PB.pt{t:W Bool}(h:PB X e t):PT X e (Qb X.K t):=λgV s σ H Q I ⟨Pr,Z,so,E,ht,q⟩ =>
 O9 (h gV s σ H Pr Z so I E ht) λb s1 ⟨H1,Z1,I1,E1,p⟩=>⟨H1,I1,q b H1 Z1 E1 p⟩
theorem P1.pss(h:P1 X sts t):O8 X sts (tW X.K t):=λgV s σ H D I ⟨Pr,Z,so,E,ht,q1,q2,q3,q4⟩ =>
 O9 (h gV s σ H Pr Z so I E ht) λf s1 q=>by
  cases f with
  |next=>obtain⟨σ',H',Z',I',E',p⟩:=q;exact⟨σ',H',I',q1 σ' H' Z' E' p⟩
  |brk=>obtain⟨σ',H',Z',I',E',p⟩:=q;exact⟨σ',H',I',q2 σ' H' Z' E' p⟩
  |cont=>obtain⟨σ',H',Z',I',E',p⟩:=q;exact⟨σ',H',I',q3 σ' H' Z' E' p⟩
  |ret u=>obtain⟨v,σ',H',r,Z',τ,I',rv,E',p⟩:=q;exact⟨v,σ',H',I',rv,q4 v τ H' r Z' E' p⟩
noncomputable def K0(K:PySem.W.Frag)(Pr:Hp)(so:Fl->Ev->Prop):Kl where
 nx:=λσ' H'=>∃Z',aD K Pr H' σ' Z'/\so .nx Z'
 rt:=λv H'=>∃τ r Z',aD K Pr H' (some v::τ) (r::Z')/\so (.rt r) Z'
 bk:=λσ' H'=>∃Z',aD K Pr H' σ' Z'/\so .bk Z'
 ct:=λσ' H'=>∃Z',aD K Pr H' σ' Z'/\so .ct Z'
theorem PM.of{ts:TS}(h:PS X st ts)(q:∀σ H Pr Z so,σ.length=X.N.length->aD X.K Pr H σ Z->t Z so->ts (K0 X.K Pr so) σ H):PM X st t:=λgV s σ H Pr Z so I E ht =>
 O9 (h gV s σ H _ I (q σ H Pr Z so I.len E ht)) λf s1 q=>by
  cases f with
  |next=>obtain⟨σ',H',I',Z',E',p⟩:=q;exact⟨σ',H',Z',I',E',p⟩
  |brk=>obtain⟨σ',H',I',Z',E',p⟩:=q;exact⟨σ',H',Z',I',E',p⟩
  |cont=>obtain⟨σ',H',I',Z',E',p⟩:=q;exact⟨σ',H',Z',I',E',p⟩
  |ret u=>obtain⟨v,σ',H',I',rv,τ,r,Z',E',p⟩:=q;exact⟨v,σ',H',r,Z',τ,I',rv,E',p⟩
theorem aD.narrow{K:PySem.W.Frag}{Pr H1 H:Hp}{σ1 σ:St}{Z1 Z:Ev}(E1:aD K Pr H1 σ1 Z1)(E:aD K (bG H1 Z1) H σ Z):aD K Pr H σ Z:=by
 refine⟨λb o e=>E.sub b o ?_,E.nd,λa ha=>?_,E.sl⟩
 . unfold bG;rw[if_neg,E1.sub b o e];intro hm;have z:=E1.off b hm;rw[e]at z;cases z
 .
  have z:=E.off a ha;unfold bG at z;by_cases hm:a∈owns Z1
  . exact E1.off a hm
  .
   rw[if_neg hm]at z
   cases q:Pr a with
   |none=>rfl
   |some o=>rw[E1.sub a o q]at z;cases z
def aF:W (List L):=λZ so=>so [] Z
def ar(t:W L)(r:W (List L)):W (List L):=λZ so=>t Z λx Z1=>r Z1 λxs Z2=>so (x::xs) Z2
def jE(i:Nat)(r:W (List L)):W (List L):=λZ so=>match Z[i]? with
 |some (.own _ _)=>r Z λxs Z2=>so (.un::xs) Z2
 |_=>False
theorem ag:P0 X [] [] aF:=λ_ gV s σ H Pr Z so I E h=>Calls.spliced_nil ⟨[],H,[],Z,I,.nil,rfl,rfl,E,λk i e=>by simp at e,h⟩
theorem ae{bs:List (Option Nat)}{r:W (List L)}{t:W L}(ha:PL X e t)(hr:P0 X es bs r)(hs:starEach (e::es) X.env=(false,eval e X.env)::starEach es X.env:=by rfl):P0 X (e::es) (none::bs) (ar t r):=by
 intro pos gV s σ H Pr Z so I E h;rw[hs];show wpAny _ _ (spliced ((false,eval e X.env)::backTo pos (starEach es X.env))) _ _ s;refine Calls.spliced_cons (O9 (ha gV s σ H Pr Z _ I E h) λu s1 ⟨x,H1,l,Z1,I1,r1,E1,q1⟩=>?_);refine O9 (hr pos gV s1 σ H1 _ Z1 _ I1 E1.tail.wide q1) λus s2 ⟨vs,H2,ls,Z2,I2,r2,hl,hb,E2,hv,q2⟩=>?_;have E3:aD X.K Pr H2 (vs.map some++(some x::σ)) (ls++(l::Z2)):=aD.step (τ:=[some x]) (lam:=[l]) E1 rfl E2 (by simp[hl])
 have E4:aD X.K Pr H2 (some x::(vs.map some++σ)) (l::(ls++Z2)):=by
  have pm:(owns (ls++(l::Z2))).Perm (owns (l::(ls++Z2))):=ny List.perm_middle;have s1:=Paired.unapp (by simp[hl]) E3.sl;obtain⟨s1,s2⟩:=s1
  cases s2 with
  |cons q t=>exact⟨E3.sub,pm.nodup_iff.mp E3.nd,λa h=>E3.off a (pm.mem_iff.mpr h),.cons q (Paired.app s1 t)⟩
 refine⟨x::vs,H2,l::ls,Z2,I2,.cons r1 r2,by simp[hl],by simp[hb],E4,λk i e=>?_,q2⟩
 cases k with
 |zero=>simp at e
 |succ k=>simpa using hv k i (by simpa using e)
theorem aZ(i:Nat){x:Str}{p:Pos}{bs:List (Option Nat)}{r:W (List L)}(hr:P0 X es bs r)(hN:X.N[i]?=some x:=by rfl)(hv:O5 X.env.scope x:=by first | exact Or.inl rfl | exact Or.inr (Or.inl rfl) | exact Or.inr (Or.inr rfl)) (hd:(x == ("__debug__" : Str))=false:=by decide)
  (hcd:(x == ("__classdict__" : Str))=false:=by decide) (hs:starEach (.Name x p::es) X.env=(false,eval (.Name x p) X.env)::starEach es X.env:=by rfl):P0 X (.Name x p::es) (some i::bs) (jE i r):=by
 intro pos gV s σ H Pr Z so I E h;unfold jE at h
 cases q:Z[i]? with
 |none=>rw[q]at h;exact h.elim
 | some l =>
  rw[q]at h
  cases l with
  |un=>exact h.elim
  |d y=>exact h.elim
  |bx _ _=>exact h.elim
  |dic _ _=>exact h.elim
  | own a xs =>
   obtain⟨sv,hsl,sl⟩:=E.slot q;obtain⟨rfl,_⟩:=sl;rw[hs];show wpAny _ _ (spliced ((false,eval (.Name x p) X.env)::backTo pos (starEach es X.env))) _ _ s;refine Calls.spliced_cons (O9 (jn hN hv hd hcd gV s σ H (λw H'=>w=.ref a/\H'=H) I ⟨.ref a,hsl,rfl,rfl⟩) λu s1 ⟨w,H1,I1,r1,e1,e2⟩=>?_);subst e1 e2;refine O9 (hr pos gV s1 σ H1 Pr Z _ I1 E h) λus s2 ⟨vs,H2,ls,Z2,I2,r2,hl,hb,E2,hv,q2⟩=>?_;refine⟨.ref a::vs,H2,.un::ls,Z2,I2,.cons r1 r2,by simp[hl],by simp[hb],E2.cons_un,λk j e=>?_,q2⟩
   cases k with
   |zero=>simp at e;subst e;exact⟨rfl,.ref a,rfl,hsl⟩
   |succ k=>simpa using hv k j (by simpa using e)
def Fb:List L->(List D->Prop)->Prop
 |[],k=>k []
 |.d x::r,k=>Fb r λxs=>k (x::xs)
 |_::_,_=>False
theorem jN:∀{ls:List L}{k:List D->Prop},Fb ls k->∃xs,ls=xs.map .d/\k xs
 |[],_,h=>⟨[],rfl,h⟩
 | .d x::r,k,h=>by obtain⟨xs,e,q⟩:=jN (ls:=r) h;exact⟨x::xs,by rw[e];rfl,q⟩
 |.un::_,_,h=>h.elim
 |.own _ _::_,_,h=>h.elim
theorem jO{K:PySem.W.Frag}{Pr H:Hp}{σ:St}{Z:Ev}:∀{vs:List V}{xs:List D},vs.length=xs.length->aD K Pr H (vs.map some++σ) (xs.map .d++Z)->bU K H vs xs
 |[],[],_,_=>.nil
 | v::vs,x::xs,hl,E=>by obtain⟨w,e,r⟩:=aD.head_d (v:=some v) (x:=x) E;cases e;exact .cons r (jO (by simpa using hl) (aD.tail (v:=some v) (l:=.d x) E))
 |[],_::_,hl,_=>by simp at hl
 |_::_,[],hl,_=>by simp at hl
def nB(t:W (List L)):W L:=λZ so=>t Z λls Z1=>Fb ls λxs=>xs.length<=sizeLine/\so (.d (.tup xs)) Z1
def oM(t:W (List L)):W L:=λZ so=>t Z λls Z1=>Fb ls λxs=>xs.length<=sizeLine/\∀a,so (.own a xs) Z1
theorem bW {x1} {bs:List (Option Nat)} {t:W (List L)} (h:P0 X es bs t):PL X (.Tuple es x1 pos) (nB t):=by
 intro gV s σ H Pr Z so I E hq;refine wpAny_Tuple_spliced (O9 (h pos gV s σ H Pr Z _ I E hq) λus s1 ⟨vs,H1,ls,Z1,I1,r,hl,hb,E1,hv,q⟩=>?_);obtain⟨xs,rfl,z,q⟩:=jN q;have p4:vs.length=xs.length:=by simpa using hl
 refine⟨by rw[<- r.length,p4];exact z,?_⟩;have hf:H1 s1.heap.objs.size=none:=I1.hok.fresh (Ud _);refine⟨.ref s1.heap.objs.size,OZ H1 s1.heap.objs.size (.tup vs),_,Z1,I1.laid (t':=s1.toks) (λb u e=>TN _ e) (Ud _) ?_,rfl,(E1.drop (by simp[p4])).cons_tup hf (jO p4 E1),q⟩;exact⟨by rw[p4];exact z,us,r,⟨_,Up _ rfl,rfl,_,rfl⟩⟩
theorem cu{bs:List (Option Nat)}{t:W (List L)}(h:P0 X es bs t):PL X (.List es pos) (oM t):=by
 intro gV s σ H Pr Z so I E hq;refine wpAny_List_spliced (O9 (h pos gV s σ H Pr Z _ I E hq) λus s1 ⟨vs,H1,ls,Z1,I1,r,hl,hb,E1,hv,q⟩=>?_);obtain⟨xs,rfl,z,q⟩:=jN q;have p4:vs.length=xs.length:=by simpa using hl
 refine⟨by rw[<- r.length,p4];exact z,?_⟩;have hf:H1 s1.heap.objs.size=none:=I1.hok.fresh (Ud _);refine⟨.ref s1.heap.objs.size,OZ H1 s1.heap.objs.size (.lst vs),_,Z1,I1.laid (t':=s1.toks) (λb u e=>TN _ e) (Ud _) ?_,rfl,(E1.drop (by simp[p4])).cons_own hf (jO p4 E1),q _⟩;exact⟨by rw[p4];exact z,us,0,r,Up _ rfl⟩
abbrev FS:=List L->(L->List L->Prop)->Prop
noncomputable def spF(K:PySem.W.Frag)(n:Nat)(fs:FS):Sp:=λvs H Q _=>vs.length=n/\∃Pr ls so,aD K Pr H (vs.map some) ls/\fs ls so/\∀v H' r ls',aD K Pr H' (some v::vs.map some) (r::ls')->so r ls'->Q v H'
theorem aD.swap{K:PySem.W.Frag}{Pr H:Hp}{σ τ:St}{Z lam:Ev}(hl:τ.length=lam.length)(E:aD K Pr H (τ++σ) (lam++Z)):aD K Pr H (σ++τ) (Z++lam):=by have pm:(owns (lam++Z)).Perm (owns (Z++lam)):=ny U4;obtain⟨s1,s2⟩:=Paired.unapp hl E.sl;exact⟨E.sub,pm.nodup_iff.mp E.nd,λa h=>E.off a (pm.mem_iff.mpr h),Paired.app s2 s1⟩
theorem G2{K:PySem.W.Frag}{Pr H H':Hp}{σ τ:St}{Z ls ls':Ev}{v:Option V}{r:L}(hl:τ.length=ls.length)(E:aD K Pr H (τ++σ) (ls++Z))(E':aD K (bG H ls) H' (v::τ) (r::ls')):aD K Pr H' (v::(τ++σ)) (r::(ls'++Z)):=by
 have hρ:σ.length=Z.length:=(E.drop hl).len;have z:=aD.step (τ:=σ) (σ:=τ) (lam:=Z) (Z:=ls) (w:=[v]) (μ:=[r]) (E.swap hl) hρ E' rfl;have hl':τ.length=ls'.length:=by have:=E'.len;simpa using this
 obtain⟨s1,s2⟩:=Paired.unapp (a:=[v]) (b:=[r]) rfl z.sl;obtain⟨s2,s3⟩:=Paired.unapp hρ s2;have pm:(owns ([r]++(Z++ls'))).Perm (owns (r::(ls'++Z))):=ny (List.Perm.cons r (U4 (l₁:=Z) (l₂:=ls')));exact⟨z.sub,pm.nodup_iff.mp z.nd,λa h=>z.off a (pm.mem_iff.mpr h),Paired.app s1 (Paired.app s3 s2)⟩
def aG(fs:FS)(t:W (List L)):W L:=λZ so=>t Z λls Z1=>fs ls λr _=>so r Z1
def bE(fs:FS)(k i:Nat)(t:W (List L)):W L:=λZ so=>t Z λls Z1=>match Z1[i]? with
 |some (.own a xs)=>fs (ls.set k (.own a xs)) λr ls'=>∃ys,ls'[k]?=some (.own a ys)/\so r (Z1.set i (.own a ys))
 |_=>False
section
variable{CX:Pu}{k n:Nat}{f:Addr}{fd:FuncData}{ps:List Str}{fs:FS}{E:XK}{x:Str}{p:Pos}{bs:List (Option Nat)}{t:W (List L)}
theorem aD.drop1{K:PySem.W.Frag}{Pr H:Hp}{σ τ:St}{Z lam:Ev}{v:Option V}{r:L}(hl:τ.length=lam.length)(E:aD K Pr H (v::(τ++σ)) (r::(lam++Z))):aD K Pr H (v::σ) (r::Z):=by obtain⟨s1,s2⟩:=Paired.unapp (a:=[v]) (b:=[r]) rfl E.sl;obtain⟨s2,s3⟩:=Paired.unapp hl s2;have sb:(owns (r::Z)).Sublist (owns (r::(lam++Z))):=EY (List.Sublist.cons_cons r (Vi _ _));exact⟨E.sub,E.nd.sublist sb,λa h=>E.off a (sb.subset h),Paired.app s1 s3⟩
theorem Ij(F:FnOk X.prog X.w X.K X.mg X.base CX k f fd ps (spF X.K n fs))(hr:gG k X.A)(hg:Gl X x)(hm:X.mg x=some (.ref f))(hk:PySem.W.keepIn X.K (.ref f)=true)(hb:oI X.K fd ps [])(hx:zA CX X E)
  (ha:P0 X (e::es) bs t) (hn:bs.length=n) (hdb:(x == ("__debug__" : Str))=false:=by decide) (he:starEach (e::es) X.env=(false,eval e X.env)::starEach es X.env:=by rfl) (hpl:(backTo pos (starEach es X.env)).any (·.1)=false:=by rfl) :
  PL X (.Call (.Name x p) (e::es) [] pos) (aG fs t):=by
 intro gV s σ H Pr Z so I E0 h;refine Ve (jF I hg hm ?_ hdb);refine PySem.W.callWith_K (h₀:=X.base) I.ok.mod.kin hk (O9 (ha pos gV s σ H Pr Z _ I E0 h) λus s1 ⟨vs,H1,ls,Z1,I1,r,hl,hbl,E1,hv,q⟩=>⟨I1.kIn,?_⟩) he hpl;have hl':(vs.map some).length=ls.length:=by simp[hl]
 refine O9 (BX (Q:=λv H'=>∃r Z',aD X.K Pr H' (some v::σ) (r::Z')/\so r Z') F hr hb .nil hx I1 r ?_) λu s2 ⟨v,H2,I2,rv,r,Z',E2,p⟩=>⟨v,H2,r,Z',I2,rv,E2,p⟩;rw[US];refine⟨hbl.trans hn,bG H1 ls,ls,_,(E1.left hl').wide,q,λv H' r ls' E2 p=>⟨r,Z1,?_,p⟩⟩;have z:=G2 hl' E1 E2;have hl2:(vs.map some).length=ls'.length:=by have:=E2.len;simpa using this
 exact z.drop1 hl2
theorem Fc(F:FnOk X.prog X.w X.K X.mg X.base CX k f fd ps (spF X.K n fs))(hr:gG k X.A)(hg:Gl X x)(hm:X.mg x=some (.ref f))(hk:PySem.W.keepIn X.K (.ref f)=true)(hb:oI X.K fd ps [])(hx:zA CX X E)
  (j i:Nat) (ha:P0 X (e::es) bs t) (hj:bs[j]?=some (some i)) (hn:bs.length=n) (hdb:(x == ("__debug__" : Str))=false:=by decide) (he:starEach (e::es) X.env=(false,eval e X.env)::starEach es X.env:=by rfl) (hpl:(backTo pos (starEach es X.env)).any (·.1)=false:=by rfl) :
  PL X (.Call (.Name x p) (e::es) [] pos) (bE fs j i t):=by
 intro gV s σ H Pr Z so I E0 h;refine Ve (jF I hg hm ?_ hdb);refine PySem.W.callWith_K (h₀:=X.base) I.ok.mod.kin hk (O9 (ha pos gV s σ H Pr Z _ I E0 h) λus s1 ⟨vs,H1,ls,Z1,I1,r,hl,hbl,E1,hv,q⟩=>⟨I1.kIn,?_⟩) he hpl;have hl':(vs.map some).length=ls.length:=by simp[hl]
 refine O9 (BX (Q:=λv H'=>∃r Z',aD X.K Pr H' (some v::σ) (r::Z')/\so r Z') F hr hb .nil hx I1 r ?_) λu s2 ⟨v,H2,I2,rv,r,Z',E2,p⟩=>⟨v,H2,r,Z',I2,rv,E2,p⟩;rw[US];dsimp only at q
 cases qi:Z1[i]? with
 |none=>rw[qi]at q;exact q.elim
 | some l =>
  rw[qi]at q
  cases l with
  |un=>exact q.elim
  |d y=>exact q.elim
  |bx _ _=>exact q.elim
  |dic _ _=>exact q.elim
  | own a xs =>
   obtain⟨hun,w,hw,hσ⟩:=hv j i hj;obtain⟨sv,hs2,rfl,_⟩:=(E1.drop hl').slot qi;rw[hσ]at hs2;cases hs2;have hjl:j<ls.length:=(TR.mp hun).1;have hjv:j<vs.length:=by omega
   have hil:i<Z1.length:=(TR.mp qi).1;have E2:=E1.out (i:=ls.length+i) (a:=a) (xs:=xs) (by rw[Uv xL];simpa using qi);rw[VU _ _ xL,UD]at E2;have E3:=E2.back (i:=j) (by rw[UV hjl];exact hun) (by rw[UV (by simp;omega)];simp[hw]);rw[List.set_append_left _ _ hjl]at E3;have hl3:(vs.map some).length=(ls.set j (.own a xs)).length:=by simp[hl]
   refine⟨hbl.trans hn,bG H1 (ls.set j (.own a xs)),_,_,(E3.left hl3).wide,q,λv H' r ls' E4 p=>?_⟩;obtain⟨ys,hys,p⟩:=p;refine⟨r,Z1.set i (.own a ys),?_,p⟩;have z:=G2 hl3 E3 E4;have hl4:(vs.map some).length=ls'.length:=by have:=E4.len;simpa using this
   have hjl':j<ls'.length:=by simp at hl4;omega
   have z1:=z.out (i:=1+j) (a:=a) (xs:=ys) (by rw[Nat.add_comm];simp only[List.getElem?_cons_succ];rw[UV hjl'];exact hys);rw[Nat.add_comm 1 j,List.set_cons_succ,List.set_append_left _ _ hjl']at z1
   have z2:=z1.back (i:=(1+ls'.length)+i) (by
    rw[Nat.add_comm 1,Nat.add_right_comm,List.getElem?_cons_succ,Uv v6]
    simp[hil]) (by
    rw[Nat.add_comm 1,Nat.add_right_comm,List.getElem?_cons_succ,Uv (by simp at hl4 ⊢;omega)];simp at hl4 ⊢;rw[<- hl4,UD]
    exact hσ)
   rw[Nat.add_comm 1,Nat.add_right_comm,List.set_cons_succ,VU _ _ v6]at z2;simp only[Vo,UD,VH]at z2;exact z2.drop1 (by simp at hl4 ⊢;exact hl4)
end
end
def xW(Z:Ev):List L->List L->Prop:=Paired λl l'=>match l with
 |.own a _=>(∃ys,l'=.own a ys/\L.own a ys∈Z)∨l'=.un
 |.bx _ _=>l'=.un
 |.dic _ _=>l'=.un
 |l=>l'=l
def aS(ls:List L)(so:L->List L->Prop):Fl->Ev->Prop:=λf Z=>match f with
 |.rt r=>∃ls',xW Z ls ls'/\so r ls'
 |.nx=>∃ls',xW Z ls ls'/\so (.d .non) ls'
 |_=>False
theorem xW.owns{Z:Ev}:∀{ls ls':List L},xW Z ls ls'->(owns ls').Sublist (owns ls)
 |_,_,.nil=>.refl _
 | l::ls,l'::ls',.cons h t=>by
  have ih:=xW.owns t;rw[aN,aN]
  cases l with
  | own a xs =>
   rcases h with⟨ys,rfl,_⟩|rfl
   . exact(V2 _).append ih
   . exact ih.trans (Vi _ _)
  |un=>have e:l'=.un:=h;subst e;exact(V2 _).append ih
  |d x=>have e:l'=.d x:=h;subst e;exact(V2 _).append ih
  |bx k ms=>have e:l'=.un:=h;subst e;exact ih.trans (Vi _ _)
  |dic k ms=>have e:l'=.un:=h;subst e;exact ih.trans (Vi _ _)
theorem xW.sub{Z:Ev}:∀{ls ls':List L},xW Z ls ls'->∀a∈L2.owns ls',a∈L2.owns Z
 |_,_,.nil=>λa ha=>by simp[L2.owns]at ha
 | l::ls,l'::ls',.cons h t=>λa ha=>by
  have ih:=xW.sub t;rw[aN]at ha;rcases Uw.mp ha with z|z
  .
   cases l with
   | own b xs =>
    rcases h with⟨ys,rfl,hm⟩|rfl
    .
     have e:a=b:=by simpa[bc]using z
     subst e;exact HW hm
    . simp[bc]at z
   |un=>have e:l'=.un:=h;subst e;simp[bc]at z
   |d x=>have e:l'=.d x:=h;subst e;simp[bc]at z
   |bx k ms=>have e:l'=.un:=h;subst e;simp[bc]at z
   |dic k ms=>have e:l'=.un:=h;subst e;simp[bc]at z
  . exact ih a z
theorem qv{K:PySem.W.Frag}{Pr H H':Hp}{σ τ:St}{ls ls' Z:Ev}{v:Option V}{r:L}(E:aD K Pr H σ ls)(E':aD K (bG H ls) H' (v::τ) (r::Z))(B:xW Z ls ls'):aD K Pr H' (v::σ) (r::ls'):=by
 have E1:=E.narrow E';have p:vN H H':=uF E E'.sub;have sub:=B.sub;have nd1:(owns ls').Nodup:=E.nd.sublist B.owns;refine⟨E1.sub,?_,λa ha=>?_,?_⟩
 . have nd:=E'.nd;rw[aN]at nd ⊢;obtain⟨n1,n2,n3⟩:=UC.mp nd;exact UC.mpr ⟨n1,nd1,λa ha b hb=>n3 a ha b (sub b hb)⟩
 .
  rw[aN]at ha;refine E1.off a ?_;rw[aN];rcases Uw.mp ha with z|z
  . exact Uj _ z
  . exact Um _ (sub a z)
 .
  have s1:=E'.sl
  cases s1 with
  | cons q t =>
   refine .cons q ?_;have sl:=E.sl;clear E E' E1 nd1 sub
   induction B generalizing σ with
   |nil=>cases sl;exact .nil
   | cons h u ih =>
    rename_i l l' _ _
    cases sl with
    | cons s0 s2 =>
     refine .cons ?_ (ih s2)
     cases l with
     | own a xs =>
      rcases h with⟨ys,rfl,hm⟩|rfl
      . obtain⟨e,_⟩:=s0;obtain⟨_,_,_,z⟩:=Paired.mem2 t hm;exact⟨e,z⟩
      . unfold ba;exact True.intro
     |un=>have e:l'=.un:=h;subst e;unfold ba;exact True.intro
     |bx k ms=>have e:l'=.un:=h;subst e;unfold ba;exact True.intro
     |dic k ms=>have e:l'=.un:=h;subst e;unfold ba;exact True.intro
     | d x =>
      have e:l'=.d x:=h;subst e;obtain⟨w,e,r⟩:=s0;exact⟨w,e,r.pres p⟩
section
variable{P:Program}{w:World}{K:PySem.W.Frag}{mg:Str->Option Value}{base:Heap}
theorem aD.uns{K:PySem.W.Frag}{Pr H:Hp}{σ:St}{Z:Ev}(E:aD K Pr H σ Z):∀n,aD K Pr H (σ++List.replicate n none) (Z++List.replicate n .un):=λn=>by
 have e:owns (Z++List.replicate n .un)=owns Z:=by
  rw[aH]
  have:owns (List.replicate n L.un)=[]:=by
   induction n with
   |zero=>rfl
   |succ n ih=>rw[UK,pO];exact ih
  rw[this,US]
 refine⟨E.sub,by rw[e];exact E.nd,λa h=>E.off a (by rw[e]at h;exact h),Paired.app E.sl ?_⟩
 induction n with
 |zero=>exact .nil
 | succ n ih =>
  rw[UK,UK];refine .cons True.intro (ih ?_)
  have:owns (List.replicate n L.un)=[]:=by
   clear ih e
   induction n with
   |zero=>rfl
   |succ n ih=>rw[UK,pO];exact ih
  rw[aH,this,US]
theorem bf{x qual:Str}{st:Stmt}{f:Addr}{fd:FuncData}{N ps:List Str}{k:Nat}{fs:FS}(F:PX K x qual st f fd)(S:aC N ps (au st))(t:W Fl)
  (hbody:∀(cdv:Value)(A:Around)(outer:List Env)(s:Shared)(H:Hp)(E:XK),gG k (A.deeper (envOfC qual (au st) s.heap.objs.size f cdv))->P1 (Em CX0 P w K mg base N qual (au st) f cdv A outer s H E).nox (dz st) t)
  (h:∀ls so,ls.length=ps.length->fs ls so->t (ls++List.replicate (N.length-ps.length) .un) (aS ls so)):FnOk P w K mg base CX0 (k+1) f fd ps (spF K ps.length fs):=by
 refine F.ok S (λvs H Q E q=>q.1) (λcdv A outer s H vs Q E hr q=>?_);obtain⟨hl,Pr,ls,so,E0,hf,q⟩:=q;refine⟨_,(hbody cdv A outer s H E hr).pss,bG H ls,ls++List.replicate (N.length-ps.length) .un,aS ls so,?_,h ls so (by rw[<- hl];have:=E0.len;simpa using this.symm) hf,λσ' H' Z' E' p=>?_,λ_ _ _ _ p=>p.elim,λ_ _ _ _ p=>p.elim,λv τ H' r Z' E' p=>?_⟩
 . unfold oJ;rw[hl];exact E0.wide.uns _
 . obtain⟨ls',B,p⟩:=p;exact q .non H' (.d .non) ls' (qv E0 (E'.cons_d .non) B) p
 . obtain⟨ls',B,p⟩:=p;exact q v H' r ls' (qv E0 E' B) p
end
theorem aP{Z:Ev}:xW Z [] []:=.nil
theorem aj{Z:Ev}{x:D}{a b:List L}(t:xW Z a b):xW Z (.d x::a) (.d x::b):=.cons rfl t
theorem eM{Z:Ev}{p:Addr}{xs ys:List D}{a b:List L}(h:L.own p ys∈Z)(t:xW Z a b):xW Z (.own p xs::a) (.own p ys::b):=.cons (.inl ⟨ys,rfl,h⟩) t
section
variable{X:Cx}{e a b c tg:Expr}{es:List Expr}{pos:Pos}{tA:W Bool}{t u:W Fl}
def qS(c:W Bool)(b:W Fl):W Fl:=λZ so=>∃J:Nat->Ev->Prop,(∃n,J n Z)/\∀n Z,J n Z->c Z λt Z1=>if t=true then b Z1 λf Z2=>(match f with
 |.nx=>∃m,m<n/\J m Z2
 |.ct=>∃m,m<n/\J m Z2
 |.bk=>so .nx Z2
 |.rt r=>so (.rt r) Z2)else so .nx Z1
theorem nC{body:List Stmt}(hp:PassesOwn (model X.prog X.w) X.A X.env X.xe)(hc:PB X c tA)(hb:P1 X body t):PM X (.While c body [] pos) (qS tA t):=by
 refine PM.of (Ey hp hc.pt hb.pss) λσ H Pr Z so p4 E h=>?_;obtain⟨J,⟨n0,j0⟩,turn⟩:=h;refine⟨λn σ H=>∃Z,aD X.K Pr H σ Z/\J n Z,⟨n0,Z,E,j0⟩,λn σ1 H1 ⟨Z1,E1,j1⟩=>⟨Pr,Z1,_,E1,turn n Z1 j1,λb H2 Z2 E2 q=>?_⟩⟩
 cases b with
 |false=>exact⟨Z2,E2,q⟩
 | true =>
  refine⟨λσ' H'=>∃Z' m,aD X.K Pr H' σ' Z'/\m<n/\J m Z',λσ' H' ⟨Z',m,E',hm,j⟩=>⟨m,hm,Z',E',j⟩,Pr,Z2,_,E2,q,λσ' H' Z' E' ⟨m,hm,j⟩=>⟨Z',m,E',hm,j⟩,λσ' H' Z' E' p=>⟨Z',E',p⟩,λσ' H' Z' E' ⟨m,hm,j⟩=>⟨Z',m,E',hm,j⟩,λv τ H' r Z' E' p=>⟨τ,r,Z',E',p⟩⟩
abbrev Tg:=D->Ev->(Ev->Prop)->Prop
def Qc(X:Cx)(tg:Expr)(g:Tg):Prop:=∃gg:TG,PG X tg gg/\∀v σ H Pr Z x k,σ.length=X.N.length->aD X.K Pr H σ Z->PZ X.K H v x->g x Z k->gg v σ H λσ' H'=>H'=H/\σ'.length=X.N.length/\∃Z',aD X.K Pr H σ' Z'/\k Z'
def bJ(i:Nat):Tg:=λx Z k=>k (Z.set i (.d x))
theorem fw{i:Nat}{x:Str}(hN:X.N.Nodup)(hi:X.N[i]?=some x)(hx:O6 X.env.scope x)(hf:X.fn x=true∨X.env.scope.names.lookup x=some .local:=by first|exact .inl rfl|exact .inr rfl|assumption):Qc X (.Name x pos) (bJ i) :=
 ⟨_,uB hN hi hx hf,λv σ H Pr Z x k hl E r h=>⟨rfl,by simpa using hl,_,(E.cons_d r).store (by rw[hl];exact(TR.mp hi).1),h⟩⟩
def iO:List Nat->List D->Ev->(Ev->Prop)->Prop
 |[],[],Z,k=>k Z
 |i::is,x::xs,Z,k=>iO is xs (Z.set i (.d x)) k
 |_,_,_,_=>False
def Qd(X:Cx)(es:List Expr)(is:List Nat):Prop:=∃gg:Pe,Pf X es gg/\es.length=is.length/\∀vs σ H Pr Z xs k,σ.length=X.N.length->aD X.K Pr H σ Z->bU X.K H vs xs->iO is xs Z k->gg vs σ H λσ' H'=>H'=H/\σ'.length=X.N.length/\∃Z',aD X.K Pr H σ' Z'/\k Z'
theorem fz:Qd X [] []:=⟨_,BM,rfl,λvs σ H Pr Z xs k hl E r h=>by
 cases r with
 |nil=>exact⟨rfl,rfl,hl,Z,E,h⟩
 |cons _ _=>exact h.elim⟩
theorem aU{i:Nat}{is:List Nat}{x:Str}(hN:X.N.Nodup)(hi:X.N[i]?=some x)(hx:O6 X.env.scope x)(hr:Qd X es is)(hf:X.fn x=true∨X.env.scope.names.lookup x=some .local:=by first|exact .inl rfl|exact .inr rfl|assumption)
  (hs:(assignEach (.Name x pos::es) X.env).map (·.2)=assign (.Name x pos) X.env::(assignEach es X.env).map (·.2):=by rfl):Qd X (.Name x pos::es) (i::is):=by
 obtain⟨gg,hg,p4,q⟩:=hr;refine⟨_,zy (uB hN hi hx hf) hg hs,by simp[p4],λvs σ H Pr Z xs k hl E r h=>?_⟩
 cases r with
 |nil=>exact h.elim
 | cons r0 t =>
  refine⟨_,_,rfl,?_⟩;exact q _ _ H Pr _ _ k (by simpa using hl) ((E.cons_d r0).store (by rw[hl];exact(TR.mp hi).1)) t h
def ff(is:List Nat):Tg:=λx Z k=>match x with
 |.tup xs=>iO is xs Z k
 |_=>False
theorem me:∀{is:List Nat}{xs:List D}{Z:Ev}{k:Ev->Prop},iO is xs Z k->xs.length=is.length
 |[],[],_,_,_=>rfl
 |_::is,_::xs,_,_,h=>by simp[me (is:=is) (xs:=xs) h]
 |[],_::_,_,_,h=>h.elim
 |_::_,[],_,_,h=>h.elim
theorem jq{is:List Nat}{k:Nat}(hc:X.calm=true)(h:Qd X es is)(hn:(assignEach es X.env).length=is.length:=by rfl)(hst:(assignEach es X.env).findIdx? (·.1)=none:=by rfl):Qc X (.Tuple es k pos) (ff is):=by
 obtain⟨gg,hg,p4,q⟩:=h;refine⟨_,GX hc hg hn hst,λv σ H Pr Z x k hl E r h=>?_⟩
 cases r with
 |tup hs rs=>exact⟨_,_,rfl,hs,by rw[rs.length];exact me h,q _ σ H Pr Z _ k hl E rs h⟩
 |_=>exact h.elim
def fg(g:Tg)(b:W Fl):List D->W Fl
 |[]=>λZ so=>so .nx Z
 | x::xs=>λZ so=>g x Z λZ1=>b Z1 λf Z2=>match f with
  |.nx=>fg g b xs Z2 so
  |.ct=>fg g b xs Z2 so
  |.bk=>so .nx Z2
  |.rt r=>so (.rt r) Z2
def jP:D->(List D->Prop)->Prop
 |.lst xs,k=>k xs
 |.tup xs,k=>k xs
 |_,_=>False
def K1(H H':Hp):Prop:=H'=H∨∃p o,H p=none/\H'=OZ H p o
theorem aD.grown{K:PySem.W.Frag}{Pr H H':Hp}{σ:St}{Z:Ev}(E:aD K Pr H σ Z)(g:K1 H H'):aD K Pr H' σ Z:=by
 rcases g with rfl|⟨p,o,h,rfl⟩
 . exact E
 . exact E.new h
def AY(K:PySem.W.Frag)(H:Hp)(J:It)(xs:List D):Prop:=∀H',vN H H' ->
 (∀i x,xs[i]?=some x->J.go i H'/\∀v H2,J.yld i H' v H2->K1 H' H2/\PZ K H2 v x)/\J.stop xs.length H'
def EI(X:Cx)(gV:List (Addr×Obj))(σ:St)(tg:Expr)(Pr:Hp)(so:List D->Ev->Prop)(itv:Value)(s2:Shared):Prop :=
 ∃(it:Addr)(fp:List Addr)(tn:Nat->Heap->Prop)(J:It)(H':Hp)(xs:List D)(Z':Ev),itv=.ref it/\O7 X gV σ H' s2/\HG X.prog X.w X.K tg J fp it tn/\tn 0 s2.heap/\(∀b∈fp,BN X gV H' b)/\aD X.K Pr H' σ Z'/\AY X.K H' J xs/\so xs Z'
def Qe(X:Cx)(tg iter:Expr)(w:W (List D)):Prop :=
 ∀(gV:List (Addr×Obj))(s:Shared)(σ:St)(H Pr:Hp)(Z:Ev)(so:List D->Ev->Prop),O7 X gV σ H s->aD X.K Pr H σ Z->w Z so ->
  wpAny (model X.prog X.w) X.A (eval iter X.env) (λv s1=>wpAny (model X.prog X.w) X.A (pyIter v) (EI X gV σ tg Pr so) X.xe s1) X.xe s
def AZ(t:W L):W (List D):=λZ so=>t Z λr Z1=>P2 r λx=>jP x λxs=>so xs Z1
theorem A0{K:PySem.W.Frag}{H:Hp}{a:Addr}{vs:List V}{xs:List D}(h:PY K H a vs)(r:bU K H vs xs):AY K H (Ph K a) xs:=λH' p=>by have h':=(h.pres p).l;refine⟨λi x e=>?_,⟨vs,h',by rw[r.length];exact Ud _⟩⟩;obtain⟨v,ev,rv⟩:=r.get e;refine⟨⟨vs,v,h',ev⟩,λw H2 ⟨e1,e2⟩=>?_⟩;have e3:=e2 vs h';rw[ev]at e3;cases e3;subst e1;exact⟨.inl rfl,rv.pres p⟩
theorem Ce{K:PySem.W.Frag}{H:Hp}{a:Addr}{vs:List V}{xs:List D}(h:Pd K H a vs)(r:bU K H vs xs):AY K H (Pi K a) xs:=λH' p=>by have h':=h.pres p;refine⟨λi x e=>?_,⟨vs,h',by rw[r.length];exact Ud _⟩⟩;obtain⟨v,ev,rv⟩:=r.get e;refine⟨⟨vs,v,h',ev⟩,λw H2 ⟨e1,e2⟩=>?_⟩;have e3:=e2 vs h';rw[ev]at e3;cases e3;subst e1;exact⟨.inl rfl,rv.pres p⟩
theorem fY{t:W L}(h:PL X e t):Qe X tg e (AZ t):=by
 intro gV s σ H Pr Z so I E ht;refine O9 (h gV s σ H Pr Z _ I E ht) λu s1 q=>?_;obtain⟨v,H1,x,Z1,I1,r1,E1,q2⟩:=EL.frz (so:=λx Z1=>jP x λxs=>so xs Z1) q;obtain⟨_,e1,p⟩:=E1.head_d;cases e1
 cases p with
 | lst hz rs =>
  cases r1;obtain⟨its,rv,pl,hz'⟩:=I1.list hz.l;refine wpAny_pyIter_list pl.isList ?_;refine⟨s1.heap.objs.size,[s1.heap.objs.size],_,_,H1,_,Z1,rfl,I1.kept (t':=s1.toks) λb o e=>TN _ e,BO _ _,⟨_,Up _ rfl,rfl,rfl⟩,λb hb=>?_,E1.tail,A0 hz rs,q2⟩;have e:b=s1.heap.objs.size:=by simpa using hb
  subst e;exact I1.fpOk (Ud _) (I1.hok.fresh (Ud _))
 | tup hz rs =>
  cases r1;obtain⟨its,rv,pl,hz'⟩:=I1.tuple hz;refine wpAny_pyIter_tuple (show s1.heap.IsTuple _ its.toArray from pl) ?_;refine⟨s1.heap.objs.size,[s1.heap.objs.size],_,_,H1,_,Z1,rfl,I1.kept (t':=s1.toks) λb o e=>TN _ e,AI _ _,⟨_,Up _ rfl,rfl,rfl⟩,λb hb=>?_,E1.tail,Ce hz rs,q2⟩;have e:b=s1.heap.objs.size:=by simpa using hb
  subst e;exact I1.fpOk (Ud _) (I1.hok.fresh (Ud _))
 |_=>exact q2.elim
noncomputable def wj(lo:Int)(n:Nat):List D:=(List.range n).map λ(i:Nat)=>.int (lo+(i:Int))
theorem wk{K:PySem.W.Frag}{H:Hp}(lo:Int)(n:Nat):AY K H (Pj lo n) (wj lo n):=λH' p=>by
 refine⟨λi x e=>?_,?_⟩
 .
  have hi:i<n:=by have:=(TR.mp e).1;simpa[wj]using this
  refine⟨hi,λv H2 ⟨e1,e2⟩=>?_⟩;subst e1 e2;have:x=.int (lo+(i:Int)):=by unfold wj at e;rw[Ui,Vj hi]at e;simpa using e.symm
  subst this;exact⟨.inl rfl,.int _⟩
 . show n<=(wj lo n).length;simp[wj]
def oN:L->(Int->Prop)->Prop
 |.d (.int i),k=>k i
 |_,_=>False
theorem eN{r:L}{k:Int->Prop}(h:oN r k):∃i,r=.d (.int i)/\k i:=by
 cases r with
 | d x=>cases x with
  |int i=>exact⟨i,rfl,h⟩
  |_=>exact h.elim
 |_=>exact h.elim
def Cf(j:Int):Prop:=-(2^62)<=j/\j<2^62
def sU(t:W L):W (List D):=λZ so=>t Z λr Z1=>oN r λj=>Cf j/\so (wj 0 j.toNat) Z1
def Ik(t u:W L):W (List D):=λZ so=>t Z λr Z1=>oN r λi=>u Z1 λr Z2=>oN r λj=>Cf i/\Cf j/\so (wj i (j-i).toNat) Z2
theorem gJ{t:W L}{p pos:Pos} (hg:Gl X "range") (hm:X.mg "range"=none) (ha:PL X a t) (hs:starEach [a] X.env=[(false,eval a X.env)]:=by rfl):Qe X tg (.Call (.Name "range" p) [a] [] pos) (sU t):=by
 intro gV s σ H Pr Z so I E h;refine O9 (BP (tg:=tg) hg hm (dG ha.pe ng hs) hs gV s σ H (λJ H1=>∃Z1 n,J=Pj 0 n/\aD X.K Pr H1 σ Z1/\so (wj 0 n) Z1) I ?_) λv s1 q=>O9 q λitv s2 ⟨it,fp,tn,J,H',e,I',T,t0,hf,Z1,n,eJ,E1,q⟩=>?_
 . refine⟨Pr,Z,_,E,h,λv H' r Z' E' p=>?_⟩;obtain⟨j,rfl,hj,p⟩:=eN p;obtain⟨_,e1,p1⟩:=E'.head_d;cases e1;cases p1;exact⟨j,rfl,hj.1,hj.2,Z',_,rfl,E'.tail,p⟩
 . subst eJ;exact⟨it,fp,tn,_,H',_,Z1,e,I',T,t0,hf,E1,wk 0 n,q⟩
theorem Fd{t u:W L}{p pos:Pos} (hg:Gl X "range") (hm:X.mg "range"=none) (ha:PL X a t) (hb:PL X b u) (hs:starEach [a,b] X.env=[(false,eval a X.env),(false,eval b X.env)]:=by rfl) (hs2:starEach [b] X.env=[(false,eval b X.env)]:=by rfl):Qe X tg (.Call (.Name "range" p) [a,b] [] pos) (Ik t u):=by
 intro gV s σ H Pr Z so I E h;refine O9 (BQ (tg:=tg) hg hm (dG ha.pe (dG hb.pe ng hs2) (hs.trans (by rw[hs2]))) hs hs2 gV s σ H (λJ H1=>∃Z1 lo n,J=Pj lo n/\aD X.K Pr H1 σ Z1/\so (wj lo n) Z1) I ?_) λv s1 q=>O9 q λitv s2 ⟨it,fp,tn,J,H',e,I',T,t0,hf,Z1,lo,n,eJ,E1,q⟩=>?_
 . refine⟨Pr,Z,_,E,h,λv H' r Z' E' p=>?_⟩;obtain⟨i,rfl,p⟩:=eN p;obtain⟨_,e1,p1⟩:=E'.head_d;cases e1;cases p1;refine⟨Pr,Z',_,E'.tail,p,λv H2 r Z2 E2 p=>?_⟩;obtain⟨j,rfl,hi,hj,p⟩:=eN p;obtain⟨_,e1,p1⟩:=E2.head_d;cases e1;cases p1;exact⟨i,j,rfl,⟨hi.1,hi.2,hj.1,hj.2⟩,Z2,_,_,rfl,E2.tail,p⟩
 . subst eJ;exact⟨it,fp,tn,_,H',_,Z1,e,I',T,t0,hf,E1,wk lo n,q⟩
def qT(s:W (List D))(g:Tg)(b:W Fl):W Fl:=λZ so=>s Z λxs Z1=>fg g b xs Z1 so
theorem c8{iter:Expr}{body:List Stmt}{w:W (List D)}{g:Tg}(hp:PassesOwn (model X.prog X.w) X.A X.env X.xe)(hc:X.calm=true)(hi:Qe X tg iter w)(hg:Qc X tg g)(hb:P1 X body t)
  (hs:∀x,foldedSetIterable iter X.env x=pure x:=by intro _;rfl):PM X (.For tg iter body [] pos) (qT w g t):=by
 intro gV s σ H Pr Z so I E h;obtain⟨gg,hg,hgg⟩:=hg;refine wpAny_For (O9 (hi gV s σ H Pr Z _ I E h) λv s1 h1=>O9 h1 λitv s2 h2=>?_) hs;obtain⟨it,fp,tn,J,H2,xs,Z2,e,I2,T,st2,f2,E2,G,w0⟩:=h2;subst e;have stat:∀{H':Hp},(∀b∈fp,H' b=none)->∀b∈fp,BN X gV H' b:=λhn b hb=>⟨hn b hb,(f2 b hb).2⟩;refine codeAny_forLoop_any (λn s'=>∃i σ' H' Z',n+i=xs.length/\O7 X gV σ' H' s'/\tn i s'.heap/\(∀b∈fp,H' b=none)/\aD X.K (bG H2 Z2) H' σ' Z'/\fg g t (xs.drop i) Z' so) ?_ xs.length ⟨0,σ,H2,Z2,xL,I2,st2,λb hb=>(f2 b hb).1,E2.wide,by simpa using w0⟩;rintro n s3 ⟨i,σ3,H3,Z3,hn,I3,st3,fr3,E3,w3⟩;obtain⟨go,stop⟩:=G H3 (uF E2 E3.sub);by_cases hlt:i<xs.length
 .
  obtain⟨hgo,hy⟩:=go i xs[i] (TM hlt);rw[UH hlt]at w3;refine VW hp (O9 (T.item X rfl rfl rfl hc i gV s3 σ3 H3 X.xe I3 (stat fr3) st3 hgo) λr s4 ⟨u,hr,h4⟩=>?_);subst hr;refine VW hp (O9 h4 λ_ s5 ⟨x,H5,I5,r5,y5,st5,fr5⟩=>?_);obtain⟨gr,rx⟩:=hy x H5 y5;have I5':=I5.pinned (stat fr5) (T.obj _ _ st5);have E5:=E3.grown gr;refine VW hp (O9 (hg _ s5 σ3 H5 x u _ I5' r5 (hgg x σ3 H5 _ Z3 xs[i] _ I5.len E5 rx w3)) λ_ s6 ⟨σ6,H6,I6,e6,hl6,Z6,E6,q6⟩=>?_);subst e6;refine VW hp (O9 (hb _ s6 σ6 _ _ Z6 _ I6 E6 q6) λf s7 q7=>?_)
  have again:∀{σ7:St}{H7:Hp}{Z7:Ev},O7 X (gV++vT fp s5.heap) σ7 H7 s7->aD X.K (bG H2 Z2) H7 σ7 Z7->fg g t (xs.drop (i+1)) Z7 so ->
    ∃m,m<n/\∃i σ' H' Z',m+i=xs.length/\O7 X gV σ' H' s7/\tn i s7.heap/\(∀b∈fp,H' b=none)/\aD X.K (bG H2 Z2) H' σ' Z'/\fg g t (xs.drop i) Z' so:=λ{σ7 H7 Z7} I7 E7 n7=>by
   refine⟨n-1,xL,i+1,σ7,H7,Z7,xL,I7.unpinned,T.keep _ _ _ st5 λb hb o e=>(I7.pin (b,o) (Um _ (Um _ (kQ hb e)))).1,λb hb=>?_,E7,n7⟩;obtain⟨o,e,d⟩:=T.obj _ _ st5 b hb;exact(I7.pin (b,o) (Um _ (Um _ (kQ hb e)))).2.1
  cases f with
  |next=>obtain⟨σ7,H7,Z7,I7,E7,n7⟩:=q7;exact again I7 E7 n7
  |cont=>obtain⟨σ7,H7,Z7,I7,E7,n7⟩:=q7;exact again I7 E7 n7
  |brk=>obtain⟨σ7,H7,Z7,I7,E7,q7⟩:=q7;exact⟨σ7,H7,Z7,I7.unpinned,E2.narrow E7,q7⟩
  |ret v=>obtain⟨x7,σ7,H7,r,Z7,τ,I7,r7,E7,q7⟩:=q7;exact⟨x7,σ7,H7,r,Z7,τ,I7.unpinned,r7,E2.narrow E7,q7⟩
 .
  have e:i=xs.length:=by omega
  subst e;refine VW hp (O9 (T.done X rfl rfl rfl hc xs.length gV s3 σ3 H3 X.xe I3 (stat fr3) st3 stop) λr s4 ⟨hr,I4⟩=>?_);subst hr;rw[V9]at w3;exact VV ⟨σ3,H3,Z3,I4,E2.narrow E3,w3⟩
end
section
variable{X:Cx}{e a b c:Expr}{pos:Pos}{ta tb:W L}
def c9(i:Int):Prop:=i.natAbs<2^1000000
def cV:P4:=λx y k=>match x,y with
 |.int i,.int j=>k (.d (.int (i+j)))
 |.str i,.str j=>i.length+j.length<=sizeLine/\k (.d (.str (i++j)))
 |.lst xs,.lst ys=>xs.length+ys.length<=sizeLine/\∀a,k (.own a (xs++ys))
 |_,_=>False
def jQ:P4:=λx y k=>match x,y with
 |.int i,.int j=>k (.d (.int (i-j)))
 |_,_=>False
def sV:P4:=λx y k=>match x,y with
 |.int i,.int j=>j≠0/\j.natAbs<2^9000/\k (.d (.int (i.fdiv j)))
 |_,_=>False
def fO:P4:=λx y k=>match x,y with
 |.int i,.int j=>j≠0/\k (.d (.int (i.fmod j)))
 |_,_=>False
def A1:P4:=λx y k=>match x,y with
 |.int i,.int j=>0<=j/\j<=1000000/\i.natAbs<2^64/\k (.d (.int (i^j.toNat)))
 |_,_=>False
def vP:P4:=λx y k=>match x,y with
 |.int i,.int j=>k (.d (.bl (decide (i<j))))
 |_,_=>False
def M5:P4:=λx y k=>match x,y with
 |.int i,.int j=>k (.d (.bl (decide (i<=j))))
 |_,_=>False
def Il:P4:=λx y k=>match x,y with
 |.int i,.int j=>k (.d (.bl (decide (j<i))))
 |_,_=>False
def K2:P4:=λx y k=>match x,y with
 |.int i,.int j=>k (.d (.bl (decide (j<=i))))
 |_,_=>False
theorem Cg{i j:Int}(h1:c9 i)(h2:c9 j):IntMulOk i j:=IntMulOk.of_le (PySem.intBits_le_iff.mpr h1) (PySem.intBits_le_iff.mpr h2) x_
theorem Im:Pk X (binaryOp .Mult) (rI (λi j=>c9 i/\c9 j) λi j=>.int (i*j)):=Pp λ_ _ _ _ _ _ _ hc q=>mul_int q (Cg hc.1 hc.2)
theorem Io:Pk X (binaryOp .FloorDiv) (rI (λi j=>j≠0/\j.natAbs<2^9000) λi j=>.int (i.fdiv j)):=Pp λi j _ _ _ _ _ hc q=>floordiv_int hc.1 q (.inl (PyProof.noPylong_of_log2 ((Nat.log2_lt (by have:=hc.1;omega)).mpr hc.2)))
theorem Ip:Pk X (binaryOp .Add) (λx y H Q=>∃l b xs zs,x=.ref l/\y=.ref b/\Pc X.K H l xs/\Pc X.K H b zs/\xs.length+zs.length<=sizeLine/\∀p,H p=none->Q (.ref p) (OZ H p (.lst (xs++zs)))):=by
 intro gV s σ H x y v u Q I rx ry h;obtain⟨l,b,xs,zs,rfl,rfl,hH,hB,hz,q⟩:=h;cases rx;cases ry;obtain⟨its,r,⟨o,n,e,c,d,f⟩,z⟩:=I.list hH;obtain⟨its2,r2,⟨o2,n2,e2,c2,d2,f2⟩,z2⟩:=I.list hB;obtain⟨cl,dd,dt,sl⟩:=o;obtain⟨cl2,dd2,dt2,sl2⟩:=o2;simp only at c f c2 f2;subst c f c2 f2;have hl:=r.length;have hl2:=r2.length;refine concat_meets ⟨_,e,rfl⟩ ⟨_,e2,rfl⟩ noFill_list_add seq_list_add PySem.F.slot_list_add PySem.F.entry_list_add (PySem.F.args_list_add_2 _ _) (list_addW l b its.toArray its2.toArray n n2 dd dd2 sl sl2 (by rw[Uk,Uk];omega)) ⟨e,e2,?_⟩;have ea:its.toArray++its2.toArray=(its++its2).toArray:=by simp
 rw[ea];exact⟨.ref _,_,I.lnew (t':=s.toks) (r.append r2) (by rw[Us];omega),rfl,q _ I.fresh⟩
theorem Fe{x y:D}{k:L->Prop}(h:cV x y k):(∃i j,x=.int i/\y=.int j/\k (.d (.int (i+j))))∨(∃i j,x=.str i/\y=.str j/\i.length+j.length<=sizeLine/\k (.d (.str (i++j))))∨∃xs ys,x=.lst xs/\y=.lst ys/\xs.length+ys.length<=sizeLine/\∀a,k (.own a (xs++ys)):=by
 unfold cV at h;split at h
 . exact .inl ⟨_,_,rfl,rfl,h⟩
 . exact .inr (.inl ⟨_,_,rfl,rfl,h⟩)
 . exact .inr (.inr ⟨_,_,rfl,rfl,h⟩)
 . exact h.elim
theorem Iq:P5 X (binaryOp .Add) (λx y k=>∃i j,x=.int i/\y=.int j/\k (.d (.int (i+j)))):=P5.of KA λσ H Pr Z x y dx dy so E px py ⟨i,j,e1,e2,h⟩=>by subst e1 e2;cases px;cases py;exact⟨i,j,rfl,rfl,_,E.cons_d (.int _),h⟩
theorem Ir:P5 X (binaryOp .Add) (λx y k=>∃i j,x=.str i/\y=.str j/\i.length+j.length<=sizeLine/\k (.d (.str (i++j)))):=P5.of AK λσ H Pr Z x y dx dy so E px py ⟨i,j,e1,e2,z,h⟩=>by subst e1 e2;cases px;cases py;exact⟨i,j,rfl,rfl,z,_,E.cons_d (.str _),h⟩
theorem Iu:P5 X (binaryOp .Add) (λx y k=>∃xs ys,x=.lst xs/\y=.lst ys/\xs.length+ys.length<=sizeLine/\∀a,k (.own a (xs++ys))):=P5.of Ip λσ H Pr Z x y dx dy so E px py ⟨xs,ys,e1,e2,z,h⟩=>by
 subst e1 e2
 cases px with
 | lst h1 r1 =>
  cases py with
  |lst h2 r2=>exact⟨_,_,_,_,rfl,rfl,h1.l,h2.l,by rw[r1.length,r2.length];exact z,λp hp=>⟨_,E.cons_own hp (r1.append r2),h p⟩⟩
theorem bR:P5 X (binaryOp .Add) cV:=by
 intro gV s σ H Pr Z x y v u dx dy so I rx ry E px py ho;rcases Fe ho with h|h|h
 . exact Iq gV s σ H Pr Z x y v u dx dy so I rx ry E px py h
 . exact Ir gV s σ H Pr Z x y v u dx dy so I rx ry E px py h
 . exact Iu gV s σ H Pr Z x y v u dx dy so I rx ry E px py h
theorem zE{f:Value->Value->Sem Value}{C:Int->Int->Prop}{g:Int->Int->V}{gd:Int->Int->D}(h:Pk X f (rI C g))(hg:∀K H i j,PZ K H (g i j) (gd i j)) :
  P5 X f (λx y k=>∃i j,x=.int i/\y=.int j/\C i j/\k (.d (gd i j))) :=
 P5.of h λσ H Pr Z x y dx dy so E px py ⟨i,j,e1,e2,z,h⟩=>by subst e1 e2;cases px;cases py;exact⟨i,j,rfl,rfl,z,_,E.cons_d (hg _ _ _ _),h⟩
theorem uH{f:Value->Value->Sem Value}{g:Int->Int->V}{gd:Int->Int->D}(h:Pk X f (Po g))(hg:∀K H i j,PZ K H (g i j) (gd i j)) :
  P5 X f (λx y k=>∃i j,x=.int i/\y=.int j/\k (.d (gd i j))) :=
 P5.of h λσ H Pr Z x y dx dy so E px py ⟨i,j,e1,e2,h⟩=>by subst e1 e2;cases px;cases py;exact⟨i,j,rfl,rfl,_,E.cons_d (hg _ _ _ _),h⟩
theorem gK:P5 X (binaryOp .Sub) jQ:=(uH KB (gd:=λi j=>.int (i-j)) λ_ _ _ _=>.int _).imp λx y k h=>by
 unfold jQ at h;split at h
 . exact⟨_,_,rfl,rfl,h⟩
 . exact h.elim
theorem K3:P5 X (binaryOp .Mult) (λx y k=>∃i j,x=.int i/\y=.int j/\(c9 i/\c9 j)/\k (.d (.int (i*j)))):=zE Im (gd:=λi j=>.int (i*j)) λ_ _ _ _=>.int _
def bF:P4:=λx y k=>match x,y with
 |.int i,.int j=>c9 i/\c9 j/\k (.d (.int (i*j)))
 |_,_=>False
theorem a9:P5 X (binaryOp .Mult) bF:=K3.imp λx y k h=>by
 unfold bF at h;split at h
 . exact⟨_,_,rfl,rfl,⟨h.1,h.2.1⟩,h.2.2⟩
 . exact h.elim
theorem qU:P5 X (binaryOp .FloorDiv) sV:=(zE Io (gd:=λi j=>.int (i.fdiv j)) λ_ _ _ _=>.int _).imp λx y k h=>by
 unfold sV at h;split at h
 . exact⟨_,_,rfl,rfl,⟨h.1,h.2.1⟩,h.2.2⟩
 . exact h.elim
theorem de:P5 X (binaryOp .Mod) fO:=(zE HI (gd:=λi j=>.int (i.fmod j)) λ_ _ _ _=>.int _).imp λx y k h=>by
 unfold fO at h;split at h
 . exact⟨_,_,rfl,rfl,h.1,h.2⟩
 . exact h.elim
theorem Ci:P5 X (binaryOp .Pow) A1:=(zE KC (gd:=λi j=>.int (i^j.toNat)) λ_ _ _ _=>.int _).imp λx y k h=>by
 unfold A1 at h;split at h
 . exact⟨_,_,rfl,rfl,⟨h.1,h.2.1,h.2.2.1⟩,h.2.2.2⟩
 . exact h.elim
theorem oO:P5 X (compareOp .Lt) vP:=(uH KF (gd:=λi j=>.bl (decide (i<j))) λ_ _ _ _=>.bl _).imp λx y k h=>by
 unfold vP at h;split at h
 . exact⟨_,_,rfl,rfl,h⟩
 . exact h.elim
theorem Ff:P5 X (compareOp .Gt) Il:=(uH MV (gd:=λi j=>.bl (decide (j<i))) λ_ _ _ _=>.bl _).imp λx y k h=>by
 unfold Il at h;split at h
 . exact⟨_,_,rfl,rfl,h⟩
 . exact h.elim
theorem K4:P5 X (compareOp .GtE) K2:=(uH MW (gd:=λi j=>.bl (decide (j<=i))) λ_ _ _ _=>.bl _).imp λx y k h=>by
 unfold K2 at h;split at h
 . exact⟨_,_,rfl,rfl,h⟩
 . exact h.elim
mutual
noncomputable def Qf:D->PyData
 |.non=>.none
 |.bl b=>.bool b
 |.int i=>.int i
 |.str x=>.str x
 |.tup xs=>.tuple (iL xs)
 |.lst xs=>.list (iL xs)
 |.dct _=>.dict []
 |.exc _ _ _=>.dict []
 |.fn _ _=>.dict []
noncomputable def iL:List D->List PyData
 |[]=>[]
 |x::xs=>Qf x::iL xs
end
noncomputable def Qg(x y:D):Bool:=PyData.eqv (Qf x) (Qf y)
def gL(x:D):Prop:=SeqAt.shaped (Qf x)=true
def sW:P4:=λx y k=>gL x/\gL y/\k (.d (.bl (Qg x y)))
def BC:P4:=λx y k=>gL x/\gL y/\k (.d (.bl (!Qg x y)))
mutual
theorem nD{gV:List (Addr×Obj)}{σ:St}{H:Hp}{s:Shared}(I:O7 X gV σ H s):∀(d:D)(x:V)(u:Value),cB x u->PZ X.K H x d->(Qf d).canLay0=true->∃as,Reads s.heap u (Qf d) as
 |.non,_,_,rv,r,_=>by cases r;cases rv;exact⟨_,.none⟩
 |.bl b,_,_,rv,r,_=>by cases r;cases rv;exact⟨_,.bool b⟩
 |.int i,_,_,rv,r,_=>by cases r;obtain⟨t,rfl⟩:=rv;exact⟨_,.int i t⟩
 |.str z,_,_,rv,r,_=>by cases r;obtain⟨t,rfl⟩:=rv;exact⟨_,.str z t⟩
 | .tup xs,_,_,rv,r,hc=>by
  cases r with
  | tup h rs =>
   cases rv
   obtain⟨its,vs,⟨o,e,c,n,d⟩,_⟩:=I.tuple h
   obtain⟨as,ra⟩:=mf I xs _ _ vs rs hc
   exact⟨_,.tuple (xs:=iL xs) e c d (by simpa using ra)⟩
 | .lst xs,_,_,rv,r,hc=>by
  cases r with
  | lst h rs =>
   cases rv
   obtain⟨its,vs,⟨o,n,e,c,_,d⟩,_⟩:=I.list h.l
   obtain⟨as,ra⟩:=mf I xs _ _ vs rs hc
   exact⟨_,.list (xs:=iL xs) e c d (by simpa using ra)⟩
 |.dct _,_,_,_,_,hc=>nomatch hc
 |.exc _ _ _,_,_,_,_,hc=>nomatch hc
 |.fn _ _,_,_,_,_,hc=>nomatch hc
theorem mf{gV:List (Addr×Obj)}{σ:St}{H:Hp}{s:Shared}(I:O7 X gV σ H s):∀(ds:List D)(vs:List V)(us:List Value),cn vs us->bU X.K H vs ds->PyData.canLayAll0 (iL ds)=true->∃as,ReadsAll s.heap us (iL ds) as
 |[],_,_,rv,r,_=>by cases r;cases rv;exact⟨_,.nil⟩
 | d::ds,_,_,rv,r,hc=>by
  have hc':(Qf d).canLay0=true/\PyData.canLayAll0 (iL ds)=true:=by simpa[iL,PyData.canLayAll0]using hc
  cases r with
  | cons r0 rs =>
   cases rv with
   | cons v0 vs =>
    obtain⟨as,ra⟩:=nD I d _ _ v0 r0 hc'.1
    obtain⟨bs,rb⟩:=mf I ds _ _ vs rs hc'.2
    exact⟨_,.cons ra rb⟩
end
theorem iP(hu:X.A.units+64<cLine):P5 X (compareOp .Eq) sW:=by intro gV s σ H Pr Z x y v u dx dy so I rx ry E px py ⟨h1,h2,ho⟩;obtain⟨as,ra⟩:=nD I dx x v rx px (SeqAt.canLay_of_shaped h1);obtain⟨bs,rb⟩:=nD I dy y u ry py (SeqAt.canLay_of_shaped h2);exact eq_dataH ra rb h1 h2 hu ⟨.bl _,H,_,I,rfl,E.cons_d (.bl _),ho⟩
theorem wm(hu:X.A.units+64<cLine):P5 X (compareOp .NotEq) BC:=by intro gV s σ H Pr Z x y v u dx dy so I rx ry E px py ⟨h1,h2,ho⟩;obtain⟨as,ra⟩:=nD I dx x v rx px (SeqAt.canLay_of_shaped h1);obtain⟨bs,rb⟩:=nD I dy y u ry py (SeqAt.canLay_of_shaped h2);exact ne_dataH ra rb h1 h2 hu ⟨.bl _,H,_,I,rfl,E.cons_d (.bl _),ho⟩
theorem N6:P5 X (compareOp .Is) (λx y k=>y=.non/\k (.d (.bl (match x with | .non=>true|_=>false)))):=P5.of KG λσ H Pr Z x y dx dy so E px py ⟨e,h⟩=>by subst e;cases py;refine⟨rfl,_,E.cons_d (.bl _),?_⟩;cases px<;>exact h
theorem Iv:P5 X (compareOp .IsNot) (λx y k=>y=.non/\k (.d (.bl (match x with | .non=>false|_=>true)))):=P5.of HJ λσ H Pr Z x y dx dy so E px py ⟨e,h⟩=>by subst e;cases py;refine⟨rfl,_,E.cons_d (.bl _),?_⟩;cases px<;>exact h
def aM:P4:=λx y k=>match x,y with
 |.lst xs,.int i=>∃v,Pz xs i=some v/\k (.d v)
 |.tup xs,.int i=>∃v,Pz xs i=some v/\k (.d v)
 |.str z,.int i=>z.length<=sizeLine/\∃c,Pz z.cps.toList i=some c/\k (.d (.str ⟨#[c]⟩))
 |_,_=>False
theorem yj{K:PySem.W.Frag}{H:Hp}{vs:List V}{xs:List D}(r:bU K H vs xs){i:Int}{x:D}(h:Pz xs i=some x):∃v,Pz vs i=some v/\PZ K H v x:=by
 unfold Pz at h ⊢;rw[r.length]
 cases q:Py xs.length i with
 |none=>rw[q]at h;cases h
 | some j =>
  rw[q]at h;exact r.get h
theorem Iw{x y:D}{k:L->Prop}(h:aM x y k):∃i,y=.int i/\((∃xs,x=.lst xs/\∃v,Pz xs i=some v/\k (.d v))∨(∃xs,x=.tup xs/\∃v,Pz xs i=some v/\k (.d v))∨∃z,x=.str z/\z.length<=sizeLine/\∃c,Pz z.cps.toList i=some c/\k (.d (.str ⟨#[c]⟩))):=by
 unfold aM at h;split at h
 . exact⟨_,rfl,.inl ⟨_,rfl,h⟩⟩
 . exact⟨_,rfl,.inr (.inl ⟨_,rfl,h⟩)⟩
 . exact⟨_,rfl,.inr (.inr ⟨_,rfl,h⟩)⟩
 . exact h.elim
theorem av(ha:PL X a ta)(hb:PL X b tb)(hs:yb b):PL X (.Subscript a b pos) (ax aM ta tb):=by
 intro gV s σ H Pr Z so I E h;refine Subscript_ (two (R:=λdx dy Z2=>aM dx dy λr=>so r Z2) ha hb I E h λv u s2 x y H2 dx dy Z2 I2 r1 r2 E2 p1 p2 q=>?_);have Pb:∀(Q:VK),(∀z H',Q z H'->∃r,aD X.K Pr H' (some z::σ) (r::Z2)/\so r Z2)->∀w s',EP X gV σ Q w s'->EL X gV σ Pr so w s':=λQ hQ w s' ⟨z,H',I',rz,q⟩=>by obtain⟨r,E',p⟩:=hQ z H' q;exact⟨z,H',r,Z2,I',rz,E',p⟩
 have Eσ:=E2.tail.tail;obtain⟨i,rfl,⟨xs,rfl,z,hz',q⟩|⟨xs,rfl,z,hz',q⟩|⟨z,rfl,hz,c,hc,q⟩⟩:=Iw q
 .
  cases p2
  cases p1 with
  | lst hz rs =>
   obtain⟨w,hw,rw⟩:=yj rs hz';exact O9 (B1 a b gV s2 σ H2 _ _ v u (λz H'=>z=w/\H'=H2) I2 r1 r2 ⟨_,_,i,w,rfl,rfl,hz.l,hw,rfl,rfl⟩ (hs _ _)) (Pb _ λz H' ⟨e1,e2⟩=>by subst e1 e2;exact⟨_,Eσ.cons_d rw,q⟩)
 .
  cases p2
  cases p1 with
  | tup hz rs =>
   obtain⟨w,hw,rw⟩:=yj rs hz';exact O9 (KJ a b gV s2 σ H2 _ _ v u (λz H'=>z=w/\H'=H2) I2 r1 r2 ⟨_,_,i,w,rfl,rfl,hz,hw,rfl,rfl⟩ (hs _ _)) (Pb _ λz H' ⟨e1,e2⟩=>by subst e1 e2;exact⟨_,Eσ.cons_d rw,q⟩)
 . cases p2;cases p1;exact O9 (KL a b gV s2 σ H2 _ _ v u (λz H'=>z=.str ⟨#[c]⟩/\H'=H2) I2 r1 r2 ⟨z,i,c,rfl,rfl,hz,hc,rfl,rfl⟩ (hs _ _)) (Pb _ λz H' ⟨e1,e2⟩=>by subst e1 e2;exact⟨_,Eσ.cons_d (.str _),q⟩)
end
section
variable{X:Cx}{e a b c:Expr}{es:List Expr}{pos p:Pos}{ta:W L}{x:Str}{bs:List (Option Nat)}{t:W (List L)}{id T:String}
abbrev Qh:=List D->(L->Prop)->Prop
def iy(X:Cx)(f:Value)(op:Qh):Prop :=
 ∀(gV:List (Addr×Obj))(s:Shared)(σ:St)(H Pr:Hp)(Z:Ev)(vs:List V)(us:List Value)(ds:List D)(so:L->Prop),O7 X gV σ H s->cn vs us->aD X.K Pr H σ Z->bU X.K H vs ds->op ds so ->
  wpAny (model X.prog X.w) X.A (call f us) (λw s'=>∃z H' r,O7 X gV σ H' s'/\cB z w/\aD X.K Pr H' (some z::σ) (r::Z)/\so r) X.xe s
theorem iy.of{f:Value}{r:List V->Hp->VK->Prop}{op:Qh}(h:k9 X f r)(q:∀σ H Pr Z vs ds so,aD X.K Pr H σ Z->bU X.K H vs ds->op ds so->r vs H λz H'=>∃r,aD X.K Pr H' (some z::σ) (r::Z)/\so r):iy X f op :=
 λgV s σ H Pr Z vs us ds so I rv E ps ho=>O9 (h gV s σ H vs us _ I rv (q σ H Pr Z vs ds so E ps ho)) λw s' ⟨z,H',I',rz,r,E',p⟩=>⟨z,H',r,I',rz,E',p⟩
def br(op:Qh)(t:W (List L)):W L:=λZ so=>t Z λls Z1=>Fb ls λds=>op ds λr=>so r Z1
theorem a7(hc:iy X (.builtin id) op)(hg:Gl X x)(hm:X.mg x=none)(hv:bootBuiltins x=some (.builtin id))(ha:P0 X (e::es) bs t) (hn:x≠"__name__":=by decide) (hdb:(x == ("__debug__" : Str))=false:=by decide)
  (he:starEach (e::es) X.env=(false,eval e X.env)::starEach es X.env:=by rfl) (hpl:(backTo pos (starEach es X.env)).any (·.1)=false:=by rfl):PL X (.Call (.Name x p) (e::es) [] pos) (br op t):=by
 intro gV s σ H Pr Z so I E h;refine Ve (ly I hg hm hv ?_ hn hdb);refine PyProof.Rows.callWith_builtin1 (O9 (ha pos gV s σ H Pr Z _ I E h) λus s1 ⟨vs,H1,ls,Z1,I1,r1,hl,hb,E1,_,q1⟩=>?_) he hpl;obtain⟨ds,rfl,q2⟩:=jN q1;have p4:vs.length=ds.length:=by simpa using hl
 exact O9 (hc gV s1 σ H1 Pr Z1 vs us ds _ I1 r1 (E1.drop (by simp[p4])) (jO p4 E1) q2) λw s2 ⟨z,H2,r,I2,rz,E2,q⟩=>⟨z,H2,r,Z1,I2,rz,E2,q⟩
theorem fh(hc:iy X (.type T) op)(hg:Gl X x)(hm:X.mg x=none)(hv:bootBuiltins x=some (.type T))(ha:P0 X (e::es) bs t) (hn:x≠"__name__":=by decide) (hdb:(x == ("__debug__" : Str))=false:=by decide)
  (he:starEach (e::es) X.env=(false,eval e X.env)::starEach es X.env:=by rfl) (hpl:(backTo pos (starEach es X.env)).any (·.1)=false:=by rfl):PL X (.Call (.Name x p) (e::es) [] pos) (br op t):=by
 intro gV s σ H Pr Z so I E h;refine Ve (ly I hg hm hv ?_ hn hdb);refine Vt (O9 (ha pos gV s σ H Pr Z _ I E h) λus s1 ⟨vs,H1,ls,Z1,I1,r1,hl,hb,E1,_,q1⟩=>?_) he hpl;obtain⟨ds,rfl,q2⟩:=jN q1;have p4:vs.length=ds.length:=by simpa using hl
 exact O9 (hc gV s1 σ H1 Pr Z1 vs us ds _ I1 r1 (E1.drop (by simp[p4])) (jO p4 E1) q2) λw s2 ⟨z,H2,r,I2,rz,E2,q⟩=>⟨z,H2,r,Z1,I2,rz,E2,q⟩
def fj:Qh:=λds k=>match ds with
 |[.lst xs]=>k (.d (.int xs.length))
 |[.tup xs]=>k (.d (.int xs.length))
 |[.str x]=>x.length<=sizeLine/\k (.d (.int x.length))
 |_=>False
theorem sX{K:PySem.W.Frag}{H:Hp}{vs:List V}{d:D}(r:bU K H vs [d]):∃v,vs=[v]/\PZ K H v d:=by
 cases r with
 |cons h t=>cases t;exact⟨_,rfl,h⟩
theorem K5{K:PySem.W.Frag}{H:Hp}{vs:List V}{d d':D}(r:bU K H vs [d,d']):∃v w,vs=[v,w]/\PZ K H v d/\PZ K H w d':=by
 cases r with
 | cons h t=>cases t with
  |cons h' t=>cases t;exact⟨_,_,rfl,h,h'⟩
theorem fZ:iy X (.builtin "len") fj:=iy.of (pN.or v7) λσ H Pr Z vs ds so E ps h=>by
 unfold fj at h;split at h
 .
  obtain⟨v,rfl,r⟩:=sX ps
  cases r with
  |lst hz rs=>exact .inl ⟨_,_,rfl,.inl hz.l,_,E.cons_d (.int _),by rw[rs.length];exact h⟩
 .
  obtain⟨v,rfl,r⟩:=sX ps
  cases r with
  |tup hz rs=>exact .inl ⟨_,_,rfl,.inr hz,_,E.cons_d (.int _),by rw[rs.length];exact h⟩
 .
  obtain⟨v,rfl,r⟩:=sX ps
  cases r with
  |str z=>exact .inr ⟨_,rfl,h.1,_,E.cons_d (.int _),h.2⟩
 . exact h.elim
def A2:Qh:=λds k=>match ds with
 |[.int i]=>k (.d (.int (if i<0 then -i else i)))
 |_=>False
theorem Cj:iy X (.builtin "abs") A2:=iy.of ED λσ H Pr Z vs ds so E ps h=>by
 unfold A2 at h;split at h
 .
  obtain⟨v,rfl,r⟩:=sX ps
  cases r with
  |int i=>exact⟨_,rfl,_,E.cons_d (.int _),h⟩
 . exact h.elim
def A3:Qh:=λds k=>match ds with
 |[.int i,.int j]=>k (.d (.int (if j > i then j else i)))
 |_=>False
def A4:Qh:=λds k=>match ds with
 |[.int i,.int j]=>k (.d (.int (if j<i then j else i)))
 |_=>False
theorem Ck(hc:X.calm=true):iy X (.builtin "max") A3:=iy.of (BS hc) λσ H Pr Z vs ds so E ps h=>by
 unfold A3 at h;split at h
 .
  obtain⟨v,w,rfl,r,r'⟩:=K5 ps
  cases r with
  | int i=>cases r' with
   |int j=>exact⟨_,_,rfl,_,E.cons_d (.int _),h⟩
 . exact h.elim
theorem Cm(hc:X.calm=true):iy X (.builtin "min") A4:=iy.of (BU hc) λσ H Pr Z vs ds so E ps h=>by
 unfold A4 at h;split at h
 .
  obtain⟨v,w,rfl,r,r'⟩:=K5 ps
  cases r with
  | int i=>cases r' with
   |int j=>exact⟨_,_,rfl,_,E.cons_d (.int _),h⟩
 . exact h.elim
def wo:Qh:=λds k=>match ds with
 |[.int i]=>k (.d (.int i))
 |[.bl b]=>k (.d (.int (if b then 1 else 0)))
 |_=>False
theorem wq:iy X (.type "int") wo:=iy.of BV λσ H Pr Z vs ds so E ps h=>by
 unfold wo at h;split at h
 .
  obtain⟨v,rfl,r⟩:=sX ps
  cases r with
  |int i=>exact .inl ⟨_,rfl,_,E.cons_d (.int _),h⟩
 .
  obtain⟨v,rfl,r⟩:=sX ps
  cases r with
  |bl i=>exact .inr ⟨_,rfl,_,E.cons_d (.int _),h⟩
 . exact h.elim
def uc:Qh:=λds k=>match ds with
 |[.lst xs]=>∀a,k (.own a xs)
 |[.tup xs]=>∀a,k (.own a xs)
 |_=>False
theorem yk:iy X (.type "list") uc:=iy.of v8 λσ H Pr Z vs ds so E ps h=>by
 unfold uc at h;split at h
 .
  obtain⟨v,rfl,r⟩:=sX ps
  cases r with
  |lst hz rs=>exact⟨_,_,rfl,.inl hz.l,λl hl=>⟨_,E.cons_own hl rs,h l⟩⟩
 .
  obtain⟨v,rfl,r⟩:=sX ps
  cases r with
  |tup hz rs=>exact⟨_,_,rfl,.inr hz,λl hl=>⟨_,E.cons_own hl rs,h l⟩⟩
 . exact h.elim
noncomputable def Qi:D->Value
 |.non=>.type "NoneType"
 |.bl _=>.type "bool"
 |.int _=>.type "int"
 |.str _=>.type "str"
 |.tup _=>.type "tuple"
 |.lst _=>.type "list"
 |.dct _=>.type "dict"
 |.exc _ _ _=>.none
 |.fn _ _=>.type "function"
def Qj(K:PySem.W.Frag)(d:D)(t:Value):Prop:=match d with
 |.exc c _ _=>∃C,t=.ref C/\jJ K c C=true
 |d=>t=Qi d
theorem Fg{gV:List (Addr×Obj)}{σ:St}{H:Hp}{s:Shared}{a:Addr}{o:Obj}{u:HO}{C:Addr}{ns:List Str}{vs:List V}(I:O7 X gV σ H s)(h:H a=some (.frz o u))(hc:o.cls=.ref C)(hn:PySem.W.notCls o=true)(hf:XF H o.dict ns vs):∃od,PySem.W.InstAt s.heap a o C od/\∀d,o.dict=some d->∃q,od=some q/\s.heap.get? d=some q:=by
 have e:=(show s.heap.get? a=some o/\_ from I.hok a _ h).1;rcases hf with⟨_,_,z⟩|⟨d,od,z,h2,_⟩
 . exact⟨none,⟨e,hc,hn,by rw[z];trivial⟩,λd q=>by rw[z]at q;cases q⟩
 . have e2:=(show s.heap.get? d=some od/\_ from I.hok d _ h2).1;exact⟨some od,⟨e,hc,hn,by rw[z];exact e2⟩,λd' q=>by rw[z]at q;cases q;exact⟨od,rfl,e2⟩⟩
theorem Fh{gV:List (Addr×Obj)}{σ:St}{H:Hp}{s:Shared}{x:V}{u c:Value}{d:D}{b:Bool}{Q:Value->Shared->Prop}{A:Around}{E:Value->Shared->Prop}(I:O7 X gV σ H s)(rx:cB x u)(r:PZ X.K H x d)(e:∀t,Qj X.K d t->PySem.W.kitOne X.K t c=some b)(h:∀tk,Q (.bool b) {s with toks:=tk}) :
  wpAny (model X.prog X.w) A (call (.builtin "isinstance") [u,c]) Q E s:=by
 cases r with
 |non=>cases rx;exact Vz PySem.W.kitx_none I.kIn True.intro (e _ rfl) (λz=>nomatch z) h
 |bl y=>cases rx;exact Vz PySem.W.kitx_bool I.kIn True.intro (e _ rfl) (λz=>nomatch z) h
 |int i=>obtain⟨t,rfl⟩:=rx;exact Vz PySem.W.kitx_int I.kIn True.intro (e _ rfl) (λz=>nomatch z) h
 |str y=>obtain⟨t,rfl⟩:=rx;exact Vz PySem.W.kitx_str I.kIn True.intro (e _ rfl) (λz=>nomatch z) h
 | lst hz rs =>
  cases rx;obtain⟨its,_,⟨o,n,e1,c1,_,_⟩,_⟩:=I.list hz.l;exact Vz PySem.W.kitx_list I.kIn ⟨o,e1,c1⟩ (e _ rfl) (λz=>nomatch z) h
 | tup hz rs =>
  cases rx;obtain⟨its,_,⟨o,e1,c1,_⟩,_⟩:=I.tuple hz;exact Vz PySem.W.kitx_tuple I.kIn ⟨o,e1,c1⟩ (e _ rfl) (λz=>nomatch z) h
 | @dct a o kvs hz =>
  cases rx;obtain⟨_,_,_,vs,_,o',es,ep,h1,h2,_⟩:=(show eX X.prog X.w H s.heap a (.frz o (.dK kvs))from I.hok a _ hz);exact Vz PySem.W.kitx_dict I.kIn ⟨o',h1,h2.1⟩ (e _ rfl) (λz=>nomatch z) h
 | @exc a o u cc C ns vs ds h1 hv hc hn hs hq hf rs =>
  cases rx;obtain⟨od,Ia,_⟩:=Fg I h1 hc hn hf;obtain⟨LL,cd,S⟩:=jK hs;exact Vz (EO S) I.kIn ⟨_,_,Ia⟩ (e _ ⟨C,rfl,hs⟩) (λz=>nomatch z) h
 | fn hl hf hq hc hz hd hv hm r =>
  cases rx;exact Vz HU I.kIn ⟨_,(I.hok _ _ hf).1,rfl⟩ (e _ rfl) (λz=>nomatch z) h
noncomputable def nE(T:String):D->Bool
 |.non=>T == "NoneType"
 |.bl _=>T == "bool" ||T == "int"
 |.int _=>T == "int"
 |.str _=>T == "str"
 |.tup _=>T == "tuple"
 |.lst _=>T == "list"
 |.dct _=>T == "dict"
 |.exc _ _ _=>(["ValueError","Exception","BaseException","object"]:List String).contains T
 |.fn _ _=>T == "function"
def qa(T:String):D->(L->Prop)->Prop:=λd k=>k (.d (.bl (nE T d)))
theorem pQ{T:String}{y:Str}{py:Pos}(hT:∀ K d t,Qj K d t->PySem.W.kitOne K t (.type T)=some (nE T d)) (hg:Gl X "isinstance") (hm:X.mg "isinstance"=none) (hy:Gl X y) (hmy:X.mg y=none) (hby:bootBuiltins y=some (.type T)) (ha:PL X a ta)
  (hny:y≠"__name__":=by decide) (hdy:(y == ("__debug__" : Str))=false:=by decide)
  (h1:starEach [a,.Name y py] X.env=(false,eval a X.env)::starEach [.Name y py] X.env:=by rfl) (h2:starEach [.Name y py] X.env=[(false,eval (.Name y py) X.env)]:=by rfl) (hpl:(backTo pos (starEach [.Name y py] X.env)).any (·.1)=false:=by rfl) :
  PL X (.Call (.Name "isinstance" p) [a,.Name y py] [] pos) (P9 (qa T) ta):=by
 have cr:k9 X (.builtin "isinstance") (λxs H Q=>∃ x d,xs=[x,.ty T]/\PZ X.K H x d/\Q (.bl (nE T d)) H):=by intro gV s σ H xs us Q I rv h;obtain⟨x,d,rfl,r,q⟩:=h;obtain⟨u,w,rfl,r1,r2⟩:=EC rv;cases r2;exact Fh I r1 r (hT _ d) λtk=>⟨.bl _,H,I.tok _,rfl,q⟩
 refine PL.of (zC cr hg hm y_ (dG (ay ha).pe (dG (HE hy hmy hby (v:=.ty T) rfl hny hdy) ng h2) h1) (he:=h1) (hpl:=hpl)) λσ H Pr Z so E h=>?_
 refine⟨Pr,Z,λr Z1=>match r with
  |.d x=>qa T x λr=>so r Z1
  |_=>False,E,h,λv H' r Z' E' p=>?_⟩
 cases r with
 | d x =>
  obtain⟨_,e1,p1⟩:=E'.head_d;cases e1;exact⟨_,x,rfl,p1,_,Z',E'.tail.cons_d (.bl _),p⟩
 |_=>exact p.elim
end
section
variable{X:Cx}{e a b:Expr}{pos p apos cpos:Pos}{tb te:W L}{x:Str}
theorem aD.updOwn{K:PySem.W.Frag}{Pr H:Hp}{σ:St}{Z:Ev}{i:Nat}{l:Addr}{xs ys:List D}{vs:List V}(E:aD K Pr H σ Z)(q:Z[i]?=some (.own l xs))(r:bU K H vs ys):aD K Pr (OZ H l (.lst vs)) σ (Z.set i (.own l ys)):=by obtain⟨sv,hs,rfl,_⟩:=E.slot q;have hi:i<Z.length:=(TR.mp q).1;have E1:=(E.out q).write r;have E2:=E1.back (i:=i) (by simp[hi]) hs;rw[VH]at E2;exact E2
theorem aD.ownAt{K:PySem.W.Frag}{Pr H:Hp}{σ:St}{Z:Ev}{i:Nat}{l:Addr}{xs:List D}(E:aD K Pr H σ Z)(q:Z[i]?=some (.own l xs)):σ[i]?=some (some (.ref l))/\∃vs,H l=some (.lst vs)/\bU K H vs xs:=by obtain⟨sv,hs,rfl,r⟩:=E.slot q;exact⟨hs,r⟩
def A5(i:Nat)(Z:Ev)(k:Addr->List D->Prop):Prop:=match Z[i]? with
 |some (.own a xs)=>k a xs
 |_=>False
theorem mh{i:Nat}{Z:Ev}{k:Addr->List D->Prop}(h:A5 i Z k):∃a xs,Z[i]?=some (.own a xs)/\k a xs:=by
 unfold A5 at h
 cases q:Z[i]? with
 |none=>rw[q]at h;exact h.elim
 | some l =>
  rw[q]at h
  cases l with
  |own a xs=>exact⟨a,xs,rfl,h⟩
  |un=>exact h.elim
  |d x=>exact h.elim
  |bx _ _=>exact h.elim
  |dic _ _=>exact h.elim
def En(i:Nat)(te:W L):W L:=λZ so=>A5 i Z λ_ _=>te Z λr Z1=>P2 r λy=>A5 i Z1 λa xs=>xs.length<sizeLine/\so (.d .non) (Z1.set i (.own a (xs++[y])))
theorem fk(i:Nat)(he:PL X e te)(hN:X.N[i]?=some x:=by rfl)(hv:O5 X.env.scope x:=by first | exact Or.inl rfl | exact Or.inr (Or.inl rfl) | exact Or.inr (Or.inr rfl)) (hd:(x == ("__debug__" : Str))=false:=by decide)
  (hcd:(x == ("__classdict__" : Str))=false:=by decide) (hs1:starEach [e] X.env=[(false,eval e X.env)]:=by rfl) (hbase:attributeBase (.Name x p) "append" X.env (eval (.Name x p) X.env)=eval (.Name x p) X.env:=by rfl)
  (hfew:((backTo cpos (starEach [e] X.env)).all (λx=>!x.1) && (backToKw cpos (keywordEach [] X.env)).all (λx=>x.1.isSome)
   && decide (([e]).length+([]:List Keyword).length+(if([]:List Keyword).isEmpty then 0 else 1)<30))=true:=by rfl)
  (hline:(apos.endLine == cpos.line)=true:=by rfl) (hplain:(backTo cpos (starEach ([]:List Expr) X.env)).any (·.1)=false:=by rfl) :
  PL X (.Call (.Attribute (.Name x p) "append" apos) [e] [] cpos) (En i te):=by
 refine PL.of (KO PySem.F.plainAttrs_list PySem.F.slot_list_append PySem.F.type_list_append wb (jn hN hv hd hcd) (dG (ay he).pe ng hs1) (hbase:=hbase) (hfew:=hfew) (hline:=hline) (hs:=hs1) (hplain:=hplain)) λσ H Pr Z so E h=>?_;obtain⟨l,xs0,q0,h⟩:=mh h;obtain⟨hσ,vs0,hl0,_⟩:=E.ownAt q0
 refine⟨.ref l,hσ,.inl ⟨rfl,vs0,Pc.of hl0⟩,Pr,Z,λr Z1=>match r with
  |.d y=>A5 i Z1 λa xs=>xs.length<sizeLine/\so (.d .non) (Z1.set i (.own a (xs++[y])))
  |_=>False,E,h,λv H' r Z' E' pp=>?_⟩
 cases r with
 | d y =>
  obtain⟨l',xs,q,p4,pp⟩:=mh pp;obtain⟨hσ',vs,hl,r⟩:=E'.tail.ownAt q;rw[hσ]at hσ';cases hσ';obtain⟨_,e1,p1⟩:=E'.head_d;cases e1;exact⟨l,vs,v,rfl,rfl,hl,by rw[r.length];exact p4,_,_,(E'.tail.updOwn q (r.append (.cons p1 .nil))).cons_d .non,pp⟩
 |_=>exact pp.elim
def yl(i:Nat)(tb:W L):W L:=λZ so=>A5 i Z λ_ _=>tb Z λr Z1=>oN r λj=>A5 i Z1 λ_ xs=>∃y,Pz xs j=some y/\so (.d y) Z1
theorem iz(i:Nat)(hb:PL X b tb)(hs:yb b)(hN:X.N[i]?=some x:=by rfl)(hv:O5 X.env.scope x:=by first | exact Or.inl rfl | exact Or.inr (Or.inl rfl) | exact Or.inr (Or.inr rfl)) (hd:(x == ("__debug__" : Str))=false:=by decide)
  (hcd:(x == ("__classdict__" : Str))=false:=by decide):PL X (.Subscript (.Name x p) b pos) (yl i tb):=by
 refine PL.of (MZ B1 (jn hN hv hd hcd) hb.pe hs) λσ H Pr Z so E h=>?_;obtain⟨l,xs0,q0,h⟩:=mh h;obtain⟨hσ,vs0,hl0,_⟩:=E.ownAt q0;refine⟨.ref l,hσ,Pr,Z,_,E,h,λv H' r Z' E' pp=>?_⟩;obtain⟨j,rfl,pp⟩:=eN pp;obtain⟨l',xs,q,y,hy,pp⟩:=mh pp;obtain⟨hσ',vs,hl,r⟩:=E'.tail.ownAt q;rw[hσ]at hσ';cases hσ';obtain⟨_,e1,p1⟩:=E'.head_d;cases e1;cases p1;obtain⟨w,hw,rw⟩:=yj r hy;exact⟨l,vs,j,w,rfl,rfl,Pc.of hl,hw,_,Z',E'.tail.cons_d rw,pp⟩
def Iy(i:Nat):W L:=λZ so=>A5 i Z λ_ xs=>so (.d (.int xs.length)) Z
theorem Iz(i:Nat) (hg:Gl X "len") (hm:X.mg "len"=none) (hN:X.N[i]?=some x:=by rfl) (hv:O5 X.env.scope x:=by first | exact Or.inl rfl | exact Or.inr (Or.inl rfl) | exact Or.inr (Or.inr rfl)) (hd:(x == ("__debug__" : Str))=false:=by decide)
  (hcd:(x == ("__classdict__" : Str))=false:=by decide) (h1:starEach [.Name x p] X.env=[(false,eval (.Name x p) X.env)]:=by rfl) (hpl:(backTo pos (starEach ([]:List Expr) X.env)).any (·.1)=false:=by rfl) :
  PL X (.Call (.Name "len" apos) [.Name x p] [] pos) (Iy i):=by
 refine PL.of (zC pN hg hm PySem.boot_len (dG (jn hN hv hd hcd) ng h1) (he:=h1) (hpl:=hpl)) λσ H Pr Z so E h=>?_;obtain⟨l,xs0,q0,h⟩:=mh h;obtain⟨hσ,vs0,hl0,r⟩:=E.ownAt q0;exact⟨.ref l,hσ,l,vs0,rfl,.inl (Pc.of hl0),_,Z,E.cons_d (.int _),by rw[r.length];exact h⟩
def sY(i:Nat)(tb te:W L):W Fl:=λZ so=>te Z λr Z1=>P2 r λy=>A5 i Z1 λ_ _=>tb Z1 λr Z2=>oN r λj=>A5 i Z2 λa xs=>∃k,Py xs.length j=some k/\so .nx (Z2.set i (.own a (xs.set k y)))
theorem jR(i:Nat){b:Expr}{ps:Pos}(hb:PL X b tb)(he:PL X e te)(hN:X.N[i]?=some x:=by rfl)(hv:O5 X.env.scope x:=by first | exact Or.inl rfl | exact Or.inr (Or.inl rfl) | exact Or.inr (Or.inr rfl)) (hd:(x == ("__debug__" : Str))=false:=by decide)
  (hcd:(x == ("__classdict__" : Str))=false:=by decide)
  (ha:∀v,assign (.Subscript (.Name x p) b ps) X.env v=(do
   let ov <- holding [v] (eval (.Name x p) X.env)
   let iv <- holding [v,ov] (eval b X.env)
   standAt ps
   holding [v,ov,iv] (setItem ov iv v)
   release [v,ov,iv] []):=by intro _;rfl)
  (hs:swapsWithSole [.Subscript (.Name x p) b ps] e pos.line X.env=pure false:=by rfl) (hw:swappedStores [.Subscript (.Name x p) b ps] e X.env=pure none:=by rfl)
  (h1:(assignEach [.Subscript (.Name x p) b ps] X.env).map (·.2)=[assign (.Subscript (.Name x p) b ps) X.env]:=by rfl):PM X (.Assign [.Subscript (.Name x p) b ps] e pos) (sY i tb te):=by
 refine PM.of (Kx (ay he).pe (Kw (jn hN hv hd hcd) hb.pe EG ha) hs hw h1) λσ H Pr Z so p4 E h=>?_
 refine⟨Pr,Z,λr Z1=>match r with
  |.d y=>A5 i Z1 λ_ _=>tb Z1 λr Z2=>oN r λj=>A5 i Z2 λa xs=>∃k,Py xs.length j=some k/\so .nx (Z2.set i (.own a (xs.set k y)))
  |_=>False,E,h,λv H' r Z' E' pp=>?_⟩
 cases r with
 | d y =>
  obtain⟨l,xs0,q0,pp⟩:=mh pp;obtain⟨hσ,vs0,hl0,_⟩:=E'.tail.ownAt q0;refine⟨.ref l,hσ,bG H' Z',Z',_,E'.tail.wide,pp,λw H2 r2 Z2 E2 pp=>?_⟩;obtain⟨j,rfl,pp⟩:=eN pp;obtain⟨l',xs,q,k,hk,pp⟩:=mh pp;obtain⟨_,e1,p1⟩:=E2.head_d;cases e1;cases p1;have E3:aD X.K Pr H2 (some (.int j)::some v::σ) (.d (.int j)::.d y::Z2):=aD.step (τ:=[some v]) (lam:=[.d y]) (w:=[some (.int j)]) (μ:=[.d (.int j)]) E' rfl E2 rfl;obtain⟨_,e1,p1⟩:=E3.tail.head_d;cases e1;obtain⟨hσ',vs,hl,r⟩:=E3.tail.tail.ownAt q;rw[hσ]at hσ';cases hσ';refine⟨l,vs,j,k,rfl,rfl,hl,by rw[r.length];exact hk,_,E3.tail.tail.updOwn q (r.set p1 k),pp⟩
 |_=>exact pp.elim
def A6:Option (W L)->Ev->(Option Int->Ev->Prop)->Prop
 |none=>λZ k=>k none Z
 |some t=>λZ k=>t Z λr Z1=>oN r λi=>k (some i) Z1
noncomputable def Cn{α:Type}(xs:List α)(lo hi:Option Int):List α:=(xs.drop (HT.sIx xs.length 0 lo)).take (HT.sIx xs.length xs.length hi-HT.sIx xs.length 0 lo)
end
noncomputable def bI:List Nat->Ev->Ev
 |[],Z=>Z
 |j::r,Z=>(bI r Z).set j .un
noncomputable def cT(fi:List Nat)(Z:Ev):Ev:=fi.map λj=>(Z[j]?).getD .un
noncomputable def cm(fi:List Nat)(σ:St):St:=fi.map λj=>(σ[j]?).getD none
noncomputable def iA:List Nat->Ev->Ev->Ev
 |j::r,c::cs,Z=>iA r cs (Z.set j c)
 |_,_,Z=>Z
theorem gh:∀(fi:List Nat)(Z:Ev),(bI fi Z).length=Z.length
 |[],_=>rfl
 |j::r,Z=>by unfold bI;rw[Vo,gh r Z]
theorem wu:∀(fi:List Nat)(Z:Ev)(j:Nat),j∉fi->(bI fi Z)[j]?=Z[j]?
 |[],_,_,_=>rfl
 | i::r,Z,j,h=>by unfold bI;rw[UN (λe=>h (by simp[e])),wu r Z j λe=>h (TL _ e)]
theorem zF:∀(fi:List Nat)(Z:Ev)(j:Nat),j∈fi->j<Z.length->(bI fi Z)[j]?=some .un
 | i::r,Z,j,h,hl=>by
  unfold bI;by_cases e:i=j
  . subst e;rw[UL (by rw[gh];exact hl)]
  . rw[UN e];exact zF r Z j ((Ue.mp h).resolve_left λz=>e z.symm) hl
section
variable{K:PySem.W.Frag}{Pr H:Hp}{σ:St}{Z:Ev}
theorem aD.takeAt(E:aD K Pr H σ Z){i:Nat}{l:L}{s:Option V}(h:Z[i]?=some l)(hs:σ[i]?=some s):aD K Pr H (s::σ) (l::Z.set i .un):=E.outL h hs
theorem aD.takes(E:aD K Pr H σ Z):∀(fi:List Nat),fi.Nodup->(∀j∈fi,j<Z.length)->aD K Pr H (cm fi σ++σ) (cT fi Z++bI fi Z)
 |[],_,_=>E
 | j::r,nd,hl=>by
  have ih:=E.takes r (Uz.mp nd).2 λi hi=>hl i (TL _ hi);have hj:j<Z.length:=hl j TQ;have hjs:j<σ.length:=by rw[E.len];exact hj
  have e1:(cT r Z++bI r Z)[r.length+j]?=some Z[j]:=by rw[Uv (by simp[cT])];simp only[cT,TY,UD];rw[wu r Z j (Uz.mp nd).1];exact TM hj
  have e2:(cm r σ++σ)[r.length+j]?=some σ[j]:=by rw[Uv (by simp[cm])];simp only[cm,TY,UD];exact TM hjs
  have z:=ih.takeAt e1 e2;rw[VU _ _ (by simp[cT])]at z;simp only[cT,TY,UD]at z;have c1:cm (j::r) σ=σ[j]::cm r σ:=by simp[cm,hjs]
  have c2:cT (j::r) Z=Z[j]::cT r Z:=by simp[cT,hj]
  rw[c1,c2];exact z
theorem aD.backs:∀(fi:List Nat){cs Z:Ev},fi.Nodup->cs.length=fi.length->(∀j∈fi,Z[j]?=some .un)->(∀j∈fi,j<σ.length)->aD K Pr H (cm fi σ++σ) (cs++Z)->aD K Pr H σ (iA fi cs Z)
 |[],[],Z,_,_,_,_,E=>E
 | j::r,c::cs,Z,nd,hl,hu,hs,E=>by
  have hjs:j<σ.length:=hs j TQ;have hj:=hu j TQ;have c1:cm (j::r) σ=σ[j]::cm r σ:=by simp[cm,hjs]
  rw[c1]at E;have hlr:cs.length=r.length:=by simpa using hl
  have z:=aD.back (σ:=cm r σ++σ) (Z:=cs++Z) (l:=c) E (i:=r.length+j) (by
   rw[Uv xL,hlr,UD];exact hj) (by
   rw[Uv (by simp[cm])];simp only[cm,TY,UD]
   exact TM hjs)
  rw[VU _ _ xL,hlr,UD]at z
  exact aD.backs r (Uz.mp nd).2 hlr (λi hi=>by
   rw[UN (λe=>(Uz.mp nd).1 (by rw[e];exact hi))];exact hu i (TL _ hi)) (λi hi=>hs i (TL _ hi)) z
 |[],_::_,_,_,hl,_,_,_=>by simp at hl
 |_::_,[],_,_,hl,_,_,_=>by simp at hl
end
noncomputable def wx(cells:List (Str×Addr)):List (Str×NameKind)->List (Str×Addr)->List (Str×Addr)
 |[],acc=>acc
 |(n,k)::r,acc=>wx cells r (if k == .free then(match cells.lookup n with|some c=>(n,c)::acc|none=>acc)else acc)
theorem oP{env:Env}:∀(names:List (Str×NameKind))(acc:List (Str×Addr)),(∀x∈names,x.2=.free->∃c,env.cells.lookup x.1=some c) ->
  (forIn names acc λ(x:Str×NameKind) (cs:List (Str×Addr))=>(if x.2 == .free then do let c <- cellOf env x.1;pure (ForInStep.yield ((x.1,c)::cs))else pure (ForInStep.yield cs):Sem (ForInStep (List (Str×Addr)))))=pure (wx env.cells names acc)
 |[],acc,_=>rfl
 | (n,k)::r,acc,h=>by
  rw[List.forIn_cons];by_cases hk:(k == NameKind.free)=true
  .
   obtain⟨c,hc⟩:=h (n,k) TQ (by simpa using hk);have e:cellOf env n=pure c:=by unfold cellOf;rw[show env.cells.lookup n=some c from hc]
   simp only[hk,Wg,e,pure_bind,wx,hc];exact oP r _ λx hx=>h x (TL _ hx)
  . simp only[hk,wx,V8,pure_bind];exact oP r _ λx hx=>h x (TL _ hx)
theorem nF{scope:Scope}{env:Env}(h:∀x∈scope.names,x.2=.free->∃c,env.cells.lookup x.1=some c):closureFor scope env=pure (wx env.cells scope.names []):=by have:=oP (env:=env) scope.names [] h;unfold closureFor;simp only[bind_pure_comp]at this ⊢;rw[this];rfl
theorem zG{cells:List (Str×Addr)}:∀(names:List (Str×NameKind))(acc:List (Str×Addr)),(∀x c,acc.lookup x=some c->cells.lookup x=some c)->∀x c,(wx cells names acc).lookup x=some c->cells.lookup x=some c
 |[],acc,h,x,c,e=>h x c e
 | (n,k)::r,acc,h,x,c,e=>by
  unfold wx at e;refine zG r _ (λy d ey=>?_) x c e;split at ey
  .
   split at ey
   .
    rename_i q;rw[UR]at ey;split at ey
    .
     rename_i e2;have:y=n:=by simpa using e2
     cases ey;rw[this];exact q
    . exact h y d ey
   . exact h y d ey
  . exact h y d ey
theorem qc{n:Str}{c:Addr}{acc:List (Str×Addr)}{x:Str}(h:∃d,acc.lookup x=some d):∃d,((n,c)::acc).lookup x=some d:=by
 rw[UR];split
 . exact⟨_,rfl⟩
 . exact h
theorem uI{cells:List (Str×Addr)}:∀(names:List (Str×NameKind))(acc:List (Str×Addr))(x:Str),((∃d,acc.lookup x=some d)∨((x,NameKind.free)∈names/\∃c,cells.lookup x=some c))->∃d,(wx cells names acc).lookup x=some d
 | [],acc,x,h=>by
  rcases h with h|⟨h,_⟩
  . exact h
  . simp at h
 | (n,k)::r,acc,x,h=>by
  unfold wx;refine uI r _ x ?_;rcases h with h|⟨hm,c,hc⟩
  .
   left;split
   .
    split
    . exact qc h
    . exact h
   . exact h
  .
   rcases Ue.mp hm with e|hm
   . cases e;left;simp only[hc,beq_self_eq_true,Wg];exact⟨c,by simp[UR]⟩
   . exact .inr ⟨hm,c,hc⟩
noncomputable def jr(X:Cx)(scope:Scope)(cl:List (Str×Addr))(Nb:List Str)(s₀:Shared)(H₀:Hp)(fp:List Addr):Cx :=
 {X with N:=Nb,s₀:=s₀,H₀:=H₀,env:=compEnvC scope cl s₀.heap.objs.size X.env,outer:=X.stack,stack:=X.stack,ex:=fp,fn:=λ_=>false,pn:=[],xe:=λ_ _=>False}
theorem kT{α β:Type}{F:α->β->Prop}:∀{a:List α}{b:List β},Paired F a b↔a.length=b.length/\∀p∈a.zip b,F p.1 p.2
 |[],[]=>⟨λ_=>⟨rfl,λ_ h=>by simp at h⟩,λ_=>.nil⟩
 |[],_::_=>⟨(λh=>nomatch h),λh=>by simp at h⟩
 |_::_,[]=>⟨(λh=>nomatch h),λh=>by simp at h⟩
 | x::a,y::b=>by
  constructor
  .
   intro h
   cases h with
   | cons r t =>
    obtain⟨h1,h2⟩:=kT.mp t
    exact⟨by simp[h1],λp hp=>by
     rw[Vq]at hp;rcases Ue.mp hp with rfl|hp
     . exact r
     .
      exact h2 p hp⟩
  . rintro⟨hl,h⟩;exact .cons (h (x,y) v6) (kT.mpr ⟨by simpa using hl,λp hp=>h p (by rw[Vq];exact TL _ hp)⟩)
theorem uJ:∀{σ:St}{Z:Ev},σ.length=Z.length->(σ.zip Z).map (·.2)=Z
 |[],[],_=>rfl
 | _::σ,l::Z,h=>by have ih:=uJ (σ:=σ) (Z:=Z) (by simpa using h);rw[Vq,Ur,ih]
 |[],_::_,h=>by simp at h
 |_::_,[],h=>by simp at h
theorem aD.rearr{K:PySem.W.Frag}{Pr H:Hp}{σ σ2:St}{Z Z2:Ev}(E:aD K Pr H σ Z)(hl:σ2.length=Z2.length)(extra:List (Option V×L))(h:(σ.zip Z).Perm (σ2.zip Z2++extra)):aD K Pr H σ2 Z2:=by
 have pm:(owns Z).Perm (owns Z2++owns (extra.map (·.2))):=by have q:=ny (h.map (·.2));rw[UE,uJ E.len,uJ hl,aH]at q;exact q
 refine⟨E.sub,(UC.mp (pm.nodup_iff.mp E.nd)).1,λa ha=>E.off a (pm.mem_iff.mpr (Uj _ ha)),kT.mpr ⟨hl,λp hp=>?_⟩⟩;exact(kT.mp E.sl).2 p (h.mem_iff.mpr (Uj _ hp))
theorem wy{fi:List Nat}{σ τ:St}(h:∀j∈fi,j<σ.length):cm fi (σ++τ)=cm fi σ:=by unfold cm;refine Vx λj hj=>?_;rw[UV (h j hj)]
theorem A7{fi:List Nat}{σ τ:Ev}(h:∀j∈fi,j<σ.length):cT fi (σ++τ)=cT fi σ:=by unfold cT;refine Vx λj hj=>?_;rw[UV (h j hj)]
theorem wz{τ:Ev}:∀{fi:List Nat}{Z:Ev},(∀j∈fi,j<Z.length)->bI fi (Z++τ)=bI fi Z++τ
 |[],_,_=>rfl
 | j::r,Z,h=>by unfold bI;rw[wz λi hi=>h i (TL _ hi),List.set_append_left _ _ (by rw[gh];exact h j TQ)]
theorem ud{τ:Ev}:∀{fi:List Nat}{cs Z:Ev},(∀j∈fi,j<Z.length)->iA fi cs (Z++τ)=iA fi cs Z++τ
 |[],[],_,_=>rfl
 |[],_::_,_,_=>rfl
 |_::_,[],_,_=>rfl
 | j::r,c::cs,Z,h=>by unfold iA;rw[List.set_append_left _ _ (h j TQ)];exact ud λi hi=>by rw[Vo];exact h i (TL _ hi)
theorem gi{env:Env}:∀{names:List (Str×NameKind)}{x:Str},names.lookup x=some .free ->
  (names.map λ(n,k)=>if(k == NameKind.free && env.scope.kind == .function && env.kindOf n == some .cell)then(n,NameKind.cell)else(n,k)).lookup x=some .cell ∨
  (names.map λ(n,k)=>if(k == NameKind.free && env.scope.kind == .function && env.kindOf n == some .cell)then(n,NameKind.cell)else(n,k)).lookup x=some .free
 |[],_,h=>by simp at h
 | (n,k)::r,x,h=>by
  have ih:=@gi env r x;rw[Ur]
  cases hx:x == n with
  | true =>
   simp only[UR,hx]at h;cases h;dsimp only;by_cases hc:(NameKind.free == NameKind.free && env.scope.kind == .function && env.kindOf n == some .cell)=true
   . left;rw[if_pos hc];simp[UR,hx]
   . right;rw[if_neg hc];simp[UR,hx]
  | false =>
   simp only[UR,hx]at h;dsimp only;by_cases hc:(k == NameKind.free && env.scope.kind == .function && env.kindOf n == some .cell)=true
   . rw[if_pos hc];simp only[UR,hx];exact ih h
   . rw[if_neg hc];simp only[UR,hx];exact ih h
theorem iQ{env:Env}:∀{names:List (Str×NameKind)}{x:Str}{k:NameKind},(∀y∈names,y.2≠.cell)->(k=.cell∨k=.free) ->
  (names.map λ(n,k)=>if(k == NameKind.free && env.scope.kind == .function && env.kindOf n == some .cell)then(n,NameKind.cell)else(n,k)).lookup x=some k->(x,NameKind.free)∈names
 |[],_,_,_,_,h=>by simp at h
 | (n,k0)::r,x,k,hc,hk,h=>by
  rw[Ur]at h;dsimp only at h;by_cases q:(k0 == NameKind.free && env.scope.kind == .function && env.kindOf n == some .cell)=true
  .
   rw[if_pos q,UR]at h;have e0:k0=.free:=by have:=(V0.mp (V0.mp q).1).1;simpa using this
   split at h
   .
    rename_i e;have:x=n:=by simpa using e
    subst this e0;exact TQ
   . exact TL _ (iQ (λy hy=>hc y (TL _ hy)) hk h)
  .
   rw[if_neg q,UR]at h;split at h
   .
    rename_i e;have:x=n:=by simpa using e
    subst this;have e1:k0=k:=by simpa using h
    subst e1;rcases hk with z|z
    . exact absurd z (hc (x,k0) TQ)
    . subst z;exact TQ
   . exact TL _ (iQ (λy hy=>hc y (TL _ hy)) hk h)
section
variable{prog:Program}{w:World}{A:Around}{R:Result->Shared->Prop}
theorem Co{elt target iter:Expr}{ifs:List Expr}{scope:Scope}{pos:Pos}{it acc:Value}{env:Env}(I:Nat->Shared->Prop)
  (turn:∀n s,I n s->wpAny (model prog w) A (pyNext it) (λr s₁=>match r with
   |none=>R (.ok .next) s₁
   | some v=>wpAny (model prog w) A (letOwnedTupleGo target it v) (λ_ s₀=>wpAny (model prog w) A (assign target env v) (λ_ s₂ =>
     wpAny (model prog w) A (forIn ifs true λc r=>if r=true then do let ok <- isTrue c env (eval c env);pure (ForInStep.yield ok)else pure (ForInStep.yield r)) (λok s₃ =>
      if ok=true then wpAny (model prog w) A (eval elt env) (λx s₄ =>
       wpAny (model prog w) A (call (.builtin "list.append") [acc,x]) (λ_ s₅=>∃ m,m < n/\I m s₅) (λ_ _=>False) s₄) (λ_ _=>False) s₃
      else ∃m,m<n/\I m s₃) (λ_ _=>False) s₂) (λ_ _=>False) s₀) (λ_ _=>False) s₁) (λ_ _=>False) s)
  (n:Nat) {s:Shared} (h:I n s) :
  codeAny (model prog w) A (.compLoop (.ListComp elt [⟨target,iter,ifs,0⟩] scope pos) 0 it acc env) R s:=by
 refine codeAny_loop rfl I (λn s hI=>?_) n h
 show wpAny _ A ((compTurn (.ListComp elt [⟨target,iter,ifs,0⟩] scope pos) 0 it acc env).onRaise (λx=>do noteFrame x env;theTreesLotGoes x)) _ _ s
 refine wpAny_noted ?_;rw[compTurn_list];have fe:∀{α:Type}{t:Sem α}{Q:α->Shared->Prop}{E:Value->Shared->Prop}{s:Shared},wpAny (model prog w) A t Q (λ_ _=>False) s->wpAny (model prog w) A t Q E s:=λh=>Vc h (λ_ _ q=>q) λ_ _ z=>z.elim;refine tu (V3 (tu (Vc (turn n s hI) (λr s₁ h₁=>?_) λ_ _ h'=>h'.elim)))
 cases r with
 |none=>exact Ub h₁
 | some v =>
  refine tu (Vc h₁ (λ_ s₀ h₀=>?_) λ_ _ z=>z.elim);refine tu (Vc h₀ (λ_ s₂ h₂=>tu (Vc h₂ (λok s₃ h₃=>?_) λ_ _ h'=>h'.elim)) λ_ _ h'=>h'.elim)
  cases ok with
  |false=>exact Ub ⟨rfl,h₃⟩
  | true =>
   exact tu (tu (Vc h₃ (λx s₄ h₄=>tu (Vc h₄ (λ_ s₅ h₅=>Ub (Ub ⟨rfl,h₅⟩)) λ_ _ h'=>h'.elim)) λ_ _ h'=>h'.elim))
end
def Qk(X:Cx)(tg:Expr)(n:Nat)(g:Tg):Prop:=∃gg:TG,PG X tg gg/\∀v σ H Pr Z x k,σ.length=X.N.length->aD X.K Pr H σ Z->PZ X.K H v x->g x Z k->gg v σ H λσ' H'=>H'=H/\σ'.drop n=σ.drop n/\∃Z',aD X.K Pr H σ' Z'/\k Z'
theorem oQ{X:Cx}{i n:Nat}{x:Str}{pos:Pos}(hn:i<n)(hN:X.N.Nodup)(hi:X.N[i]?=some x)(hx:O6 X.env.scope x)(hf:X.fn x=true∨X.env.scope.names.lookup x=some .local:=by first|exact .inl rfl|exact .inr rfl|assumption):Qk X (.Name x pos) n (bJ i) :=
 ⟨_,uB hN hi hx hf,λv σ H Pr Z x k hl E r h=>⟨rfl,by rw[List.drop_set_of_lt hn],_,(E.cons_d r).store (by rw[hl];exact(TR.mp hi).1),h⟩⟩
def Ql(X:Cx)(ifs:List Expr)(t:W Bool):Prop :=
 ∀(gV:List (Addr×Obj))(s:Shared)(σ:St)(H Pr:Hp)(Z:Ev)(so:Bool->Ev->Prop),O7 X gV σ H s->aD X.K Pr H σ Z->t Z so ->
  wpAny (model X.prog X.w) X.A (forIn ifs true λc r=>if r=true then do let ok <- isTrue c X.env (eval c X.env);pure (ForInStep.yield ok)else pure (ForInStep.yield r)) (EB X gV σ Pr so) X.xe s
def mi:W Bool:=λZ so=>so true Z
theorem jS{X:Cx}:Ql X [] mi:=λgV s σ H Pr Z so I E h=>wpAny_tests_nil ⟨H,Z,I,E,h⟩
theorem ID{X:Cx}{c:Expr}{t:W Bool}(h:PB X c t):Ql X [c] t:=λgV s σ H Pr Z so I E ht=>wpAny_tests_one (h gV s σ H Pr Z so I E ht)
def d6(g:Tg)(ti:W Bool)(te:W L):List D->Ev->List D->(List D->Ev->Prop)->Prop
 |[],Z,acc,k=>k acc Z
 |x::xs,Z,acc,k=>g x Z λZ1=>ti Z1 λb Z2=>if b=true then te Z2 λr Z3=>P2 r λy=>d6 g ti te xs Z3 (acc++[y]) k else d6 g ti te xs Z2 acc k
def oR(n:Nat)(fi:List Nat)(src:W (List D))(g:Tg)(ti:W Bool)(te:W L):W L:=λZ so=>src Z λxs Z1=>xs.length<=sizeLine /\
 d6 g ti te xs (List.replicate n .un++cT fi Z1) [] λys ρb=>∀a,so (.own a ys) (iA fi (ρb.drop n) (bI fi Z1))
section
variable{X:Cx}
theorem wB{elt tg iter:Expr}{ifs:List Expr}{scope sc:Scope}{pos:Pos}{N Nt Nf:List Str}{fi:List Nat}{src:W (List D)}{g:Tg}{ti:W Bool}{te:W L}
  (hsc:X.env.scope=sc) (hXN:X.N=N) (hc:X.calm=true) (hi:Qe X tg iter src)
  (hkind:scope.kind=.function) (hnames:∀x∈scope.names,x.2=.local->scope.names.lookup x.1=some .local) (hcell:∀y∈scope.names,y.2≠.cell)
  (hfr:∀x∈scope.names,x.2=.free->sc.names.lookup x.1=some .cell∨sc.names.lookup x.1=some .free)
  (hnd:fi.Nodup) (hNf:Nf.map some=fi.map (λj=>N[j]?)) (hNk:∀x∈Nf,scope.names.lookup x=some .free) (hfl:∀j∈fi,j<N.length)
  (hg:∀cl s₀ H₀ fp,Qk (jr X scope cl (Nt++Nf) s₀ H₀ fp) tg Nt.length g) (hti:∀cl s₀ H₀ fp,Ql (jr X scope cl (Nt++Nf) s₀ H₀ fp) ifs ti) (hte:∀cl s₀ H₀ fp,PL (jr X scope cl (Nt++Nf) s₀ H₀ fp) elt te)
  {gV:List (Addr×Obj)} {s:Shared} {σ:St} {H Pr:Hp} {Z:Ev} {so:L->Ev->Prop} {use:Option (Value->Sem Unit)} {Q:Value->Shared->Prop} (I:O7 X gV σ H s) (E:aD X.K Pr H σ Z) (h:oR Nt.length fi src g ti te Z so)
  (hRR:∀D C s7 H6 acc Z'' m,O7 X gV σ H6 s7->s7.heap.Ns C m->H6 C=none->C≠X.env.locals->X.s₀.heap.objs.size<=C->(∀x c,X.env.cells.lookup x=some c->c≠C)->(∀p∈X.pn++gV,p.1≠C)->aD X.K Pr H6 (some (.ref D)::σ) (.own D acc::Z'')->so (.own D acc) Z'' ->
   compPost (model X.prog X.w) X.A X.xe use Q (.ref D) C (.ok .next) s7)
  (hs:∀x,foldedSetIterable iter X.env x=pure x):wpAny (model X.prog X.w) X.A (comprehension (.ListComp elt [⟨tg,iter,ifs,0⟩] scope pos) scope X.env (firstIterPos [⟨tg,iter,ifs,0⟩] pos) (newList []) false (eval iter X.env) use) Q X.xe s:=by
 have hcells:∀x∈scope.names,x.2=.free->∃c,X.env.cells.lookup x.1=some c:=λx hx hk=>I.ok.has x.1 (by
  show X.env.scope.names.lookup x.1=_∨X.env.scope.names.lookup x.1=_
  rw[hsc];exact hfr x hx hk)
 have hsub:=zG (cells:=X.env.cells) scope.names [] (λx c e=>by simp at e);refine wpAny_comprehension_free (use:=use) rfl hs (nF hcells) hkind hnames (O9 (hi gV s σ H Pr Z _ I E h) λv s1 h1=>O9 h1 λitv s2 h2=>?_);obtain⟨it,fp,tn,J,H2,xs,Z2,e,I2,T,st2,f2,E2,G,p4,w0⟩:=h2;subst e;refine VF (T:="list") ?_;generalize hD:s2.heap.objs.size=D;have fD:H2 D=none:=by rw[<- hD];exact I2.fresh
 have I3:O7 X gV σ (OZ H2 D (.lst [])) {s2 with heap:=s2.heap.push {cls:=.type "list",dict:=none,data:=.seq ([]:List Value).toArray} }:=by have:=O7.lnew (ys:=[]) (its:=[]) (t':=s2.toks) I2 .nil (Vr _);rw[hD]at this;exact this
 have E3:=E2.cons_own (p:=D) (vs:=[]) (xs:=[]) fD .nil;have sz3:(s2.heap.push {cls:=.type "list",dict:=none,data:=.seq ([]:List Value).toArray}).objs.size=D+1:=by rw[Heap.size_push,hD]
 generalize hs3:({s2 with heap:=s2.heap.push {cls:=.type "list",dict:=none,data:=.seq ([]:List Value).toArray} }:Shared)=s3 at I3;have hs3h:s3.heap=s2.heap.push {cls:=.type "list",dict:=none,data:=.seq ([]:List Value).toArray}:=by rw[<- hs3]
 have fpD:∀b∈fp,b≠D:=λb hb=>by obtain⟨o,e,_⟩:=T.obj 0 _ st2 b hb;rw[<- hD];exact Ut (TZ e)
 have old3:∀b o,s2.heap.get? b=some o->s3.heap.get? b=some o:=λb o e=>by rw[hs3h];exact TN _ e
 refine wpAny_newFunctionEnv (around:=some X.env) hcell (by intro y hy;simp at hy) (λh4 hns4 hsb4=>?_) hkind
 have hns4':h4.Ns s3.heap.objs.size (λ_=>none):=by
  have:(λx=>(([]:List (Str×Value)).reverse.lookup x))=λ_=>(none:Option Value):=by funext x;rfl
  rw[this]at hns4;exact hns4
 have old4:∀b o,s3.heap.get? b=some o->h4.get? b=some o:=λb o e=>by rw[hsb4.2 b (Ut (TZ e))];exact TN _ e
 have hσl:σ.length=N.length:=by rw[<- hXN];exact I.len
 have hρ2:σ.length=Z2.length:=E2.len;have hjσ:∀j∈fi,j<σ.length:=λj hj=>by rw[hσl];exact hfl j hj
 have hjρ:∀j∈fi,j<Z2.length:=λj hj=>by rw[<- hρ2];exact hjσ j hj
 have hfpl:∀b∈fp,b<s3.heap.objs.size:=λb hb=>by obtain⟨o,e,_⟩:=T.obj 0 _ st2 b hb;exact TZ (old3 b o e)
 have hlNf:Nf.length=fi.length:=by have:=congrArg List.length hNf;simpa using this
 have Bok:(jr X scope (wx X.env.cells scope.names []) (Nt++Nf) s3 (OZ H2 D (.lst [])) fp).Ok:=by
  refine⟨I3.ok.mod,hkind,I.ok.glob,I.ok.blt,Ud _,λx y c e1 e2=>I.ok.inj x y c (hsub x c e1) (hsub y c e2),λx hx=>?_,λx c hf _=>(U2 hf).elim,I.ok.hd,I.ok.frames,.inl rfl,λb hb=>⟨Ut (hfpl b hb),λx c e=>(f2 b hb).2.2.2.2.1 x c (hsub x c e)⟩,I3.bs,T9 I.ok.bsz I3.sz,λb o e hb=>?_,λb hb hm=>?_,I3.stack,I3.stkFree,I3.tbs⟩
  .
   have hm:(x,NameKind.free)∈scope.names:=by
    rcases hx with hx|hx
    . exact iQ (env:=X.env) hcell (.inl rfl) hx
    . exact iQ (env:=X.env) hcell (.inr rfl) hx
   exact uI scope.names [] x (.inr ⟨hm,hcells _ hm rfl⟩)
  .
   rcases(f2 b hb).2.2.2.1 with z|z
   . exact I.ok.noex b o e z
   . exact absurd (TU (TZ (I.ok.bs b o e).1) z) (Vu _)
  .
   rcases Ue.mp (I3.stkSub b hm)with z|z
   . exact(f2 b hb).2.1 z
   . exact(f2 b hb).2.2.1 z
 have I4:O7 (jr X scope (wx X.env.cells scope.names []) (Nt++Nf) s3 (OZ H2 D (.lst [])) fp) [] (List.replicate Nt.length none++cm fi σ) (OZ H2 D (.lst [])) {s3 with heap:=h4,toks:=s3.toks+([]:List (Str×Value)).length}:=by
  refine⟨Bok,rfl,I3.bare,Un.kept old4,⟨_,hns4',λi x v e1 e2 e3=>?_⟩,λx c e=>?_,I3.fresh,λx c e=>(I3.freeC x c (hsub x c e)).imp id λz=>⟨rfl,z.2⟩,λp hp=>absurd (show p∈([]:List (Addr×Obj))from hp) v6,I3.hok.kept old4,?_⟩
  .
   have e1:(Nt++Nf)[i]?=some x:=e1
   have hi':Nt.length<=i:=by
    by_cases q:i<Nt.length
    . rw[UV (by simpa using q),List.getElem?_replicate]at e2;split at e2<;>cases e2
    . omega
   rw[Uv hi']at e1;rw[Uv (by simpa using hi')]at e2;simp only[List.length_replicate]at e2;generalize i-Nt.length=k at e1 e2;have hk:k<fi.length:=by have:=(TR.mp e1).1;omega
   have e4:(Nf.map some)[k]?=(fi.map λj=>N[j]?)[k]?:=by rw[hNf]
   rw[Ui,Ui,e1,TM hk]at e4;have e5:N[fi[k]]?=some x:=by simpa using e4.symm
   have e6:σ[fi[k]]?=some (some v):=by unfold cm at e2;rw[Ui,TM hk]at e2;have hjl:=hjσ fi[k] (TV hk);rw[TM hjl];simpa[TM hjl]using e2
   have hxm:x∈Nf:=List.mem_of_getElem? e1;have hfree:=hNk x hxm;have hmem:(x,NameKind.free)∈scope.names:=Vk hfree;have hkx:=hfr _ hmem rfl;obtain⟨m,_,hl⟩:=I3.loc;obtain⟨u,ru,lk⟩:=hl fi[k] x v (by rw[hXN];exact e5) e6 (by rw[hsc];exact .inr hkx);refine⟨u,ru,.inr ⟨gi (env:=X.env) hfree,?_⟩⟩;rcases lk with⟨z,_⟩|⟨_,c,hc1,hc2⟩
   .
    have z:X.env.scope.names.lookup x=some .local:=z;rw[hsc]at z;rcases hkx with q|q
    . rw[z]at q;cases q
    . rw[z]at q;cases q
   .
    obtain⟨d,hd⟩:=uI (cells:=X.env.cells) scope.names [] x (.inr ⟨hmem,c,hc1⟩);have:d=c:=by have:=hsub x d hd;rw[hc1]at this;exact(Uq this).symm
    subst this;obtain⟨o,ho,hdd⟩:=hc2;exact⟨d,hd,o,old4 _ o ho,hdd⟩
  . obtain⟨v,o,ho,hd⟩:=I3.cell x c (hsub x c e);exact⟨v,o,old4 c o ho,hd⟩
  . show(List.replicate Nt.length none++cm fi σ).length=(Nt++Nf).length;simp[cm,hlNf]
 have E4:aD X.K Pr (OZ H2 D (.lst [])) (some (.ref D)::(σ++(List.replicate Nt.length none++cm fi σ))) (.own D []::(bI fi Z2++(List.replicate Nt.length .un++cT fi Z2))):=by
  have a1:aD X.K Pr (OZ H2 D (.lst [])) (σ++[some (.ref D)]) (Z2++[.own D []]):=E3.rearr (by simp[hρ2]) [] (by
   rw[US,U6 hρ2]
   exact(U4 (l₁:=[(some (V.ref D),L.own D [])]) (l₂:=σ.zip Z2)))
  have a2:=a1.takes fi hnd λj hj=>by have:=hjρ j hj;simp;omega
  rw[wy hjσ,A7 hjρ,wz hjρ]at a2;have a3:=a2.uns Nt.length;have hcl:(cm fi σ).length=(cT fi Z2).length:=by simp[cm,cT]
  have hul:σ.length=(bI fi Z2).length:=by rw[gh];exact hρ2
  refine a3.rearr (by simp[hul,hcl]) [] ?_;have l1:(cm fi σ++(σ++[some (V.ref D)])++List.replicate Nt.length none).zip (cT fi Z2++(bI fi Z2++[L.own D []])++List.replicate Nt.length L.un)=((cm fi σ).zip (cT fi Z2)++(σ.zip (bI fi Z2)++[(some (V.ref D),L.own D [])]))++(List.replicate Nt.length none).zip (List.replicate Nt.length L.un):=by rw[U6 (by simp only[Us,hcl,hul];rfl),U6 hcl,U6 hul];rfl
  have l2:(some (V.ref D)::(σ++(List.replicate Nt.length none++cm fi σ))).zip (L.own D []::(bI fi Z2++(List.replicate Nt.length L.un++cT fi Z2)))=(some (V.ref D),L.own D [])::(σ.zip (bI fi Z2)++((List.replicate Nt.length none).zip (List.replicate Nt.length L.un)++(cm fi σ).zip (cT fi Z2))):=by rw[Vq,U6 hul,U6 v6]
  rw[US,l1,l2];generalize (cm fi σ).zip (cT fi Z2)=z1;generalize σ.zip (bI fi Z2)=z2;generalize (List.replicate Nt.length none).zip (List.replicate Nt.length L.un)=z3;show(z1++(z2++[(some (V.ref D),L.own D [])])++z3).Perm ((some (V.ref D),L.own D [])::(z2++(z3++z1)));have p1:(z1++(z2++[(some (V.ref D),L.own D [])])++z3).Perm ((z2++[(some (V.ref D),L.own D [])])++z3++z1):=by rw[UQ];exact U4
  refine p1.trans ?_;rw[UQ,UQ];exact List.perm_middle
 clear E3
 let B:Cx:=jr X scope (wx X.env.cells scope.names []) (Nt++Nf) s3 (OZ H2 D (.lst [])) fp
 have hul:σ.length=(bI fi Z2).length:=by rw[gh];exact hρ2
 have stat:∀{H':Hp},(∀b∈fp,H' b=none)->∀b∈fp,BN B [] H' b:=λhn b hb=>by
  refine⟨hn b hb,Ut (hfpl b hb),λhm=>?_,.inl hb,λx c e=>(f2 b hb).2.2.2.2.1 x c (hsub x c e),λp hp=>absurd (show p∈([]:List (Addr×Obj))from hp) v6⟩;rcases Ue.mp (I3.stkSub b hm)with z|z
  . exact(f2 b hb).2.1 z
  . exact(f2 b hb).2.2.1 z
 have loop:∀s5:Shared,s5={s3 with heap:=h4,toks:=s3.toks+([]:List (Str×Value)).length}->codeAny (model X.prog X.w) X.A (.compLoop (.ListComp elt [⟨tg,iter,ifs,0⟩] scope pos) 0 (.ref it) (.ref D) B.env)
   (compPost (model X.prog X.w) X.A X.xe use Q (.ref D) s3.heap.objs.size) s5:=by
  rintro s5 rfl
  refine Co (λn s'=>∃i σ' H' Z' acc,n+i=xs.length/\O7 B [] σ' H' s'/\tn i s'.heap/\(∀b∈fp,H' b=none)/\σ'.drop Nt.length=cm fi σ/\aD X.K Pr H' (some (.ref D)::(σ++σ')) (.own D acc::(bI fi Z2++Z'))/\acc.length<=i /\
   d6 g ti te (xs.drop i) Z' acc λys ρb=>∀a,so (.own a ys) (iA fi (ρb.drop Nt.length) (bI fi Z2))) ?_ xs.length
   ⟨0,_,_,_,[],xL,I4,T.keep 0 _ _ st2 λb hb o e=>old4 b o (old3 b o e),λb hb=>by rw[aB (fpD b hb)];exact(f2 b hb).1,v6,E4,Ud _,by simpa using w0⟩
  rintro n s6 ⟨i,σ6,H6,Z6,acc,hn,I6,st6,fr6,dr6,E6,hal,w6⟩
  have pr:vN H2 H6:=λb o p e=>by
   have ne:b≠D:=λz=>by rw[z,fD]at e;cases e
   have e':B.H₀ b=some o:=by show OZ H2 D (.lst []) b=some o;rw[aB ne];exact e
   cases o with
   |tup ys=>exact I6.base.tups b ys e'
   |frz ob u=>exact I6.base.frzs b ob u e'
   |tbl t=>exact I6.base.tbls b t e'
   |_=>exact p.elim
  obtain⟨go,stop⟩:=G H6 pr;have hτ:(some (V.ref D)::σ).length=(L.own D acc::bI fi Z2).length:=by simp[hul]
  by_cases hlt:i<xs.length
  .
   obtain⟨hgo,hy⟩:=go i xs[i] (TM hlt);rw[UH hlt]at w6;refine O9 (T.item B rfl rfl rfl hc i [] s6 σ6 H6 (λ_ _=>False) I6 (stat fr6) st6 hgo) λr s7 ⟨u,hr,h7⟩=>?_;subst hr;refine O9 h7 λ_ s8 ⟨x,H8,I8,r8,y8,st8,fr8⟩=>?_;obtain⟨gr,rx⟩:=hy x H8 y8;have I8':=I8.pinned (stat fr8) (T.obj _ _ st8);have E8:=E6.grown gr;have E8a:aD X.K (bG H8 Z6) H8 σ6 Z6:=(aD.drop (τ:=some (V.ref D)::σ) (lam:=L.own D acc::bI fi Z2) E8 hτ).wide;obtain⟨gg,hgg,hgs⟩:=hg (wx X.env.cells scope.names []) s3 (OZ H2 D (.lst [])) fp;refine O9 (hgg _ s8 σ6 H8 x u _ I8' r8 (hgs x σ6 H8 _ Z6 xs[i] _ I8.len E8a rx w6)) λ_ s9 ⟨σ9,H9,I9,e9,dr9,Z9,E9,q9⟩=>?_;subst e9;have F9:aD X.K Pr H9 (some (V.ref D)::(σ++σ9)) (L.own D acc::(bI fi Z2++Z9)):=aD.step (τ:=some (V.ref D)::σ) (lam:=L.own D acc::bI fi Z2) (w:=[]) (μ:=[]) E8 hτ E9 rfl;have F9a:aD X.K (bG H9 Z9) H9 σ9 Z9:=(aD.drop (τ:=some (V.ref D)::σ) (lam:=L.own D acc::bI fi Z2) F9 hτ).wide;refine O9 (hti _ _ _ _ _ s9 σ9 H9 _ Z9 _ I9 F9a q9) λok sA ⟨HA,ρA,IA,EA,qA⟩=>?_;have FA:aD X.K Pr HA (some (V.ref D)::(σ++σ9)) (L.own D acc::(bI fi Z2++ρA)):=aD.step (τ:=some (V.ref D)::σ) (lam:=L.own D acc::bI fi Z2) (w:=[]) (μ:=[]) F9 hτ EA rfl
   have again:∀{sZ:Shared}{HZ:Hp}{ρZ:Ev}{acc':List L2.D},O7 B ([]++vT fp s8.heap) σ9 HZ sZ->aD X.K Pr HZ (some (.ref D)::(σ++σ9)) (.own D acc'::(bI fi Z2++ρZ))->acc'.length<=i+1 ->
     (d6 g ti te (xs.drop (i+1)) ρZ acc' λys ρb=>∀a,so (.own a ys) (iA fi (ρb.drop Nt.length) (bI fi Z2)))->∃m,m<n/\∃i σ' H' Z' acc,m+i=xs.length/\O7 B [] σ' H' sZ/\tn i sZ.heap/\(∀b∈fp,H' b=none)/\σ'.drop Nt.length=cm fi σ /\
     aD X.K Pr H' (some (.ref D)::(σ++σ')) (.own D acc::(bI fi Z2++Z'))/\acc.length<=i/\d6 g ti te (xs.drop i) Z' acc λys ρb=>∀a,so (.own a ys) (iA fi (ρb.drop Nt.length) (bI fi Z2)):=λ{sZ HZ ρZ acc'} IZ EZ hz qZ=>by
    refine⟨n-1,xL,i+1,σ9,HZ,ρZ,acc',xL,IZ.unpinned,T.keep _ _ _ st8 λb hb o e=>(IZ.pin (b,o) (Um _ (Um _ (kQ hb e)))).1,λb hb=>?_,dr9.trans dr6,EZ,hz,qZ⟩;obtain⟨o,e,d⟩:=T.obj _ _ st8 b hb;exact(IZ.pin (b,o) (Um _ (Um _ (kQ hb e)))).2.1
   cases ok with
   | false =>
    rw[if_neg U2]at qA ⊢;exact again IA FA xL qA
   | true =>
    rw[if_pos rfl]at qA ⊢;have FAa:aD X.K (bG HA ρA) HA σ9 ρA:=(aD.drop (τ:=some (V.ref D)::σ) (lam:=L.own D acc::bI fi Z2) FA hτ).wide;refine O9 (hte _ _ _ _ _ sA σ9 HA _ ρA _ IA FAa qA) λux sB qB=>?_;obtain⟨vy,HB,y,ρB,IB,rB,EB,qB⟩:=EL.frz (X:=B) (so:=λy Z3=>d6 g ti te (xs.drop (i+1)) Z3 (acc++[y]) λys ρb=>∀a,so (.own a ys) (iA fi (ρb.drop Nt.length) (bI fi Z2))) qB;have FB:aD X.K Pr HB (some vy::(some (V.ref D)::(σ++σ9))) (.d y::(L.own D acc::(bI fi Z2++ρB))):=aD.step (τ:=some (V.ref D)::σ) (lam:=L.own D acc::bI fi Z2) (w:=[some vy]) (μ:=[.d y]) FA hτ EB rfl;obtain⟨_,e1,p1⟩:=FB.head_d;cases e1;have Qm:=FB.tail.sl
    cases Qm with
    | cons q0 _ =>
     obtain⟨_,vs,hDB,rvs⟩:=q0;refine O9 (wb (X:=B) _ sB σ9 HB (.ref D) [vy] (.ref D) [ux] (λz H'=>H'=OZ HB D (.lst (vs++[vy]))) IB rfl (.cons rB .nil) ⟨D,vs,vy,rfl,rfl,hDB,by rw[rvs.length];omega,rfl⟩) λ_ sC ⟨z,HC,IC,_,eC⟩=>?_;subst eC;exact again IC (FB.tail.write (rvs.append (.cons p1 .nil))) (by simp;omega) qB
  .
   have e:i=xs.length:=by omega
   subst e;refine O9 (T.done B rfl rfl rfl hc xs.length [] s6 σ6 H6 (λ_ _=>False) I6 (stat fr6) st6 stop) λr s7 ⟨hr,I7⟩=>?_;subst hr;rw[V9]at w6;obtain⟨m,hm,_⟩:=id I7.loc;have I8:O7 X gV σ H6 s7:=I3.call' (ch:=fp) I7.os I7.base I7.hok I7.bare λb hb=>⟨(f2 b hb).2.2.2.1,(f2 b hb).2.1,(f2 b hb).2.2.2.2.1,(f2 b hb).2.2.2.2.2⟩;have f4:=I3.fpOk (H':=H6) (b:=s3.heap.objs.size) (Ud _) I7.free
   .
    have hlen6:σ6.length=Z6.length:=(aD.drop (τ:=some (V.ref D)::σ) (lam:=L.own D acc::bI fi Z2) E6 hτ).len
    have a1:aD X.K Pr H6 (cm fi σ++(σ++[some (V.ref D)])) (Z6.drop Nt.length++(bI fi Z2++[L.own D acc])):=by
     have hcd:(cm fi σ).length=(Z6.drop Nt.length).length:=by rw[<- dr6,Vh,Vh,hlen6]
     refine E6.rearr (by simp[hcd,hul,hlen6]) ((σ6.take Nt.length).zip (Z6.take Nt.length)) ?_;have l0:σ6.zip Z6=(σ6.take Nt.length).zip (Z6.take Nt.length)++(cm fi σ).zip (Z6.drop Nt.length):=by rw[<- dr6,<- U6 (by simp[hlen6]),List.take_append_drop,List.take_append_drop]
     have l1:(some (V.ref D)::(σ++σ6)).zip (L.own D acc::(bI fi Z2++Z6))=(some (V.ref D),L.own D acc)::(σ.zip (bI fi Z2)++σ6.zip Z6):=by rw[Vq,U6 hul]
     have l2:(cm fi σ++(σ++[some (V.ref D)])).zip (Z6.drop Nt.length++(bI fi Z2++[L.own D acc]))=(cm fi σ).zip (Z6.drop Nt.length)++(σ.zip (bI fi Z2)++[(some (V.ref D),L.own D acc)]):=by rw[U6 hcd,U6 hul];rfl
     rw[l1,l2,l0];generalize (cm fi σ).zip (Z6.drop Nt.length)=z1;generalize σ.zip (bI fi Z2)=z2;generalize (σ6.take Nt.length).zip (Z6.take Nt.length)=z3;have p1:((some (V.ref D),L.own D acc)::(z2++(z3++z1))).Perm ((z2++[(some (V.ref D),L.own D acc)])++(z3++z1)):=by rw[UQ];exact List.perm_middle.symm
     refine p1.trans ?_;have p2:((z2++[(some (V.ref D),L.own D acc)])++(z3++z1)).Perm ((z3++z1)++(z2++[(some (V.ref D),L.own D acc)])):=U4;refine p2.trans ?_;rw[UQ];exact U4
    have a2:=aD.backs (σ:=σ++[some (V.ref D)]) (cs:=Z6.drop Nt.length) (Z:=bI fi Z2++[L.own D acc]) fi hnd (by rw[Vh,<- hlen6,<- Vh,dr6];simp[cm]) (λj hj=>by
     rw[UV (by rw[gh];exact hjρ j hj)];exact zF fi Z2 j hj (hjρ j hj)) (λj hj=>by have:=hjσ j hj;simp;omega) (by rw[wy hjσ];exact a1)
    rw[ud λj hj=>by rw[gh];exact hjρ j hj]at a2;have hpl:σ.length=(iA fi (Z6.drop Nt.length) (bI fi Z2)).length:=by have:=a2.len;simpa using this
    refine hRR D s3.heap.objs.size s7 H6 acc (iA fi (Z6.drop Nt.length) (bI fi Z2)) m I8 hm f4.1 f4.2.1 I3.sz f4.2.2.2.2.1 f4.2.2.2.2.2 (a2.rearr (by simp[hpl]) [] ?_) (w6 D);rw[US,U6 hpl,Vq];exact U4 (l₂:=[(some (V.ref D),L.own D acc)])
 exact codeAny_compStart_list (loop _ rfl) (T.self _ 0 _ _ _ (T.keep 0 _ _ st2 λb hb o e=>old4 b o (old3 b o e)) (loop _ rfl))
theorem mj{elt tg iter:Expr}{ifs:List Expr}{scope sc:Scope}{pos:Pos}{N Nt Nf:List Str}{fi:List Nat}{src:W (List D)}{g:Tg}{ti:W Bool}{te:W L}
  (hsc:X.env.scope=sc) (hXN:X.N=N) (hc:X.calm=true) (hi:Qe X tg iter src)
  (hkind:scope.kind=.function) (hnames:∀x∈scope.names,x.2=.local->scope.names.lookup x.1=some .local) (hcell:∀y∈scope.names,y.2≠.cell)
  (hfr:∀x∈scope.names,x.2=.free->sc.names.lookup x.1=some .cell∨sc.names.lookup x.1=some .free)
  (hnd:fi.Nodup) (hNf:Nf.map some=fi.map (λj=>N[j]?)) (hNk:∀x∈Nf,scope.names.lookup x=some .free) (hfl:∀j∈fi,j<N.length)
  (hg:∀cl s₀ H₀ fp,Qk (jr X scope cl (Nt++Nf) s₀ H₀ fp) tg Nt.length g) (hti:∀cl s₀ H₀ fp,Ql (jr X scope cl (Nt++Nf) s₀ H₀ fp) ifs ti) (hte:∀cl s₀ H₀ fp,PL (jr X scope cl (Nt++Nf) s₀ H₀ fp) elt te)
  (hs:∀x,foldedSetIterable iter X.env x=pure x:=by intro _;rfl):PL X (.ListComp elt [⟨tg,iter,ifs,0⟩] scope pos) (oR Nt.length fi src g ti te):=by
 intro gV s σ H Pr Z so I E h;rw[eval_ListComp];refine wB (use:=none) hsc hXN hc hi hkind hnames hcell hfr hnd hNf hNk hfl hg hti hte I E h (λD C s7 H6 acc Z'' m I7 hm h1 h2 h3 h4 h5 E7 p=>?_) hs;exact⟨m,hm,λh' hsb=>⟨.ref D,H6,_,Z'',I7.turned (t':=s7.toks) (λb o hb e=>(hsb.2 b hb).trans e) h1 (U3 (U3 h2)) (.inr h3) h4 h5,rfl,E7,p⟩⟩
theorem Cp{elt tg iter:Expr}{ifs:List Expr}{scope sc:Scope}{pos spos py:Pos}{y:Str}{j:Nat}{N Nt Nf:List Str}{fi:List Nat}{src:W (List D)}{g:Tg}{ti:W Bool}{te:W L}
  (hN:X.N.Nodup) (hj:X.N[j]?=some y) (hy:O6 X.env.scope y)
  (hsc:X.env.scope=sc) (hXN:X.N=N) (hc:X.calm=true) (hi:Qe X tg iter src)
  (hkind:scope.kind=.function) (hnames:∀x∈scope.names,x.2=.local->scope.names.lookup x.1=some .local) (hcell:∀y∈scope.names,y.2≠.cell)
  (hfr:∀x∈scope.names,x.2=.free->sc.names.lookup x.1=some .cell∨sc.names.lookup x.1=some .free)
  (hnd:fi.Nodup) (hNf:Nf.map some=fi.map (λj=>N[j]?)) (hNk:∀x∈Nf,scope.names.lookup x=some .free) (hfl:∀j∈fi,j<N.length)
  (hg:∀cl s₀ H₀ fp,Qk (jr X scope cl (Nt++Nf) s₀ H₀ fp) tg Nt.length g) (hti:∀cl s₀ H₀ fp,Ql (jr X scope cl (Nt++Nf) s₀ H₀ fp) ifs ti) (hte:∀cl s₀ H₀ fp,PL (jr X scope cl (Nt++Nf) s₀ H₀ fp) elt te)
  (hsw:swapsWith (.ListComp elt [⟨tg,iter,ifs,0⟩] scope pos) (some (.Name y py)) spos.line X.env=pure true:=by rfl) (hf:X.fn y=true∨X.env.scope.names.lookup y=some .local:=by first|exact .inl rfl|exact .inr rfl|assumption)
  (hs:∀x,foldedSetIterable iter X.env x=pure x:=by intro _;rfl):PM X (.Assign [.Name y py] (.ListComp elt [⟨tg,iter,ifs,0⟩] scope pos) spos) (bq j (oR Nt.length fi src g ti te)):=by
 intro gV s σ H Pr Z so I E h;rw[exec_Assign_Name_used _ _ _ _ hsw];refine tu (V3 (tu ?_))
 show wpAny _ X.A (do let _ <- comprehension (.ListComp elt [⟨tg,iter,ifs,0⟩] scope pos) scope X.env (firstIterPos [⟨tg,iter,ifs,0⟩] pos) (newList []) false (eval iter X.env) (some (assign (.Name y py) X.env))) _ _ s
 refine tu (O9 (wB (use:=some (assign (.Name y py) X.env)) (Q:=λ_ s'=>SM X gV Pr so .next s') (so:=λr Z1=>so .nx (Z1.set j r)) hsc hXN hc hi hkind hnames hcell hfr hnd hNf hNk hfl hg hti hte I E h (λD C s7 H6 acc Z'' m I7 hm h1 h2 h3 h4 h5 E7 p=>?_) hs) λ_ s' hq=>Ub (Ub hq))
 show wpAny _ X.A (assign (.Name y py) X.env (.ref D)) _ _ _;refine wpAny_assign_Name (vS (v:=.ref D) I7 hN hj hy rfl (λs8 I8 ⟨a,sb,ha⟩=>?_) hf)
 have hCa:C≠a:=by
  rcases ha with z|z
  . rw[z];exact h2
  . exact λq=>h4 y a z q.symm
 refine⟨m,hm.sameBut sb hCa,λh' hsb=>⟨_,H6,_,I8.turned (t':=s8.toks) (λb o hb e=>(hsb.2 b hb).trans e) h1 h2 (.inr h3) h4 h5,E7.store (by rw[I7.len];exact(TR.mp hj).1),p⟩⟩
end
section
variable{X:Cx}{e a b:Expr}{pos:Pos}{ta tb te:W L}{x y:Str}
def MH(i j:Nat)(ta tb:W L):W Fl:=λZ so=>ta Z λr Z1=>P2 r λv=>tb Z1 λr2 Z2=>P2 r2 λw=>so .nx ((Z2.set i (.d v)).set j (.d w))
theorem G3{i j:Nat}{px py pt:Pos} {kt k2 pt2} (hc:X.calm=true) (hN:X.N.Nodup) (hi:X.N[i]?=some x) (hj:X.N[j]?=some y) (hij:i≠j)
  (hx:X.env.scope.names.lookup x=some .local) (hy:X.env.scope.names.lookup y=some .local) (ha:PL X a ta) (hb:PL X b tb)
  (hw:swappedStores [.Tuple [.Name x px,.Name y py] kt pt] (.Tuple [a,b] k2 pt2) X.env=pure (some [x,y]))
  (hs:swapsWithSole [.Tuple [.Name x px,.Name y py] kt pt] (.Tuple [a,b] k2 pt2) pos.line X.env=pure false:=by rfl)
  (h1:starEach [a,b] X.env=(false,eval a X.env)::starEach [b] X.env:=by rfl) (h2:starEach [b] X.env=[(false,eval b X.env)]:=by rfl) :
  PM X (.Assign [.Tuple [.Name x px,.Name y py] kt pt] (.Tuple [a,b] k2 pt2) pos) (MH i j ta tb):=by
 refine PM.of (Ky hc hN hi hj hij hx hy (dG (ay ha).pe (dG (ay hb).pe ng h2) h1) hw hs) λσ H Pr Z so p4 E h=>?_
 refine⟨Pr,Z,λr Z1=>match r with
  |.d v=>tb Z1 λr2 Z2=>P2 r2 λw=>so .nx ((Z2.set i (.d v)).set j (.d w))
  |_=>False,E,h,λv H1 r Z1 E1 pp=>?_⟩
 cases r with
 | d dv =>
  refine⟨bG H1 Z1,Z1,λr Z2=>match r with
   |.d w=>so .nx ((Z2.set i (.d dv)).set j (.d w))
   |_=>False,E1.tail.wide,pp,λw H2 r2 Z2 E2 pp=>?_⟩
  cases r2 with
  | d dw =>
   have E3:aD X.K Pr H2 (some w::some v::σ) (.d dw::.d dv::Z2):=aD.step (τ:=[some v]) (lam:=[.d dv]) (w:=[some w]) (μ:=[.d dw]) E1 rfl E2 rfl;have il:i<σ.length:=by rw[p4];exact(TR.mp hi).1
   have jl:j<σ.length:=by rw[p4];exact(TR.mp hj).1
   obtain⟨_,e1,r1⟩:=E3.head_d;cases e1;have E4:aD X.K Pr H2 (σ.set i (some v)) (Z2.set i (.d dv)):=E3.tail.store il;exact⟨v,w,rfl,_,(E4.cons_d r1).store (by simpa using jl),pp⟩
  |_=>exact pp.elim
 |_=>exact pp.elim
def Cq(is:List Nat)(te:W L):W Fl:=λZ so=>te Z λr Z1=>P2 r λv=>ff is v Z1 λZ2=>so .nx Z2
theorem ym{tg:Expr}{is:List Nat}(hg:Qc X tg (ff is))(he:PL X e te)(hs:swapsWithSole [tg] e pos.line X.env=pure false:=by rfl)(hw:swappedStores [tg] e X.env=pure none:=by rfl)
  (h1:(assignEach [tg] X.env).map (·.2)=[assign tg X.env]:=by rfl):PM X (.Assign [tg] e pos) (Cq is te):=by
 intro gV s σ H Pr Z so I E h;obtain⟨gg,hg,hgg⟩:=hg;refine wpAny_Assign_stores (O9 (he gV s σ H Pr Z _ I E h) λv s1 q=>?_) hs hw;obtain⟨w,H1,d,Z1,I1,r1,E1,q1⟩:=EL.frz (so:=λd Z1=>ff is d Z1 λZ2=>so .nx Z2) q;rw[h1];obtain⟨_,e1,p1⟩:=E1.head_d;cases e1;exact O9 (hg gV s1 σ H1 w v _ I1 r1 (hgg w σ H1 Pr Z1 d _ I1.len E1.tail p1 q1)) λ_ s2 ⟨σ',H',I',e',_,Z',E',q⟩=>by subst e';exact⟨σ',_,Z',I',E',q⟩
noncomputable def qd:D->Bool
 |.non=>true | .bl _=>true | .int _=>true | .str _=>true
 |_=>false
noncomputable def Qn:D->D->Bool
 |.non,.non=>true
 |.bl a,.bl b=>a == b
 |.bl a,.int b=>(if a then 1 else 0) == b
 |.int a,.bl b=>a == (if b then 1 else 0)
 |.int a,.int b=>a == b
 |.str a,.str b=>a == b
 |_,_=>false
theorem nG{K:PySem.W.Frag}{H:Hp}{v:V}{d:D}(r:PZ K H v d)(h:qd d=true):sR v=true:=by cases r<;>first|rfl|(exact absurd h (by simp[qd]))
theorem K6{K:PySem.W.Frag}{H:Hp}{v w:V}{d f:D}(r:PZ K H v d)(q:PZ K H w f)(h:qd d=true)(h':qd f=true):PH v w=Qn d f:=by cases r<;>cases q<;>first|rfl|(exact absurd h (by simp[qd]))|(exact absurd h' (by simp[qd]))
noncomputable def PV(x:D)(ys:List D):Bool:=ys.any λy=>Qn y x
theorem wD{K:PySem.W.Frag}{H:Hp}{v:V}{x:D}(r:PZ K H v x)(h:qd x=true):∀{vs:List V}{ys:List D},bU K H vs ys->ys.all qd=true->PN v vs=PV x ys/\vs.all sR=true
 |_,_,.nil,_=>⟨rfl,rfl⟩
 | _,_,.cons r0 t,ha=>by rw[List.all_cons,Uc]at ha;obtain⟨i1,i2⟩:=wD r h t ha.2;unfold PN PV at i1 ⊢;rw[VJ,VJ,List.all_cons,i1,K6 r0 r ha.1 h,nG r0 ha.1,i2];exact⟨rfl,rfl⟩
def yn(neg:Bool):P4:=λx y k=>qd x=true/\jP y λys=>ys.all qd=true/\k (.d (.bl (if neg then !PV x ys else PV x ys)))
theorem IE:P5 X (compareOp .In) (yn false):=P5.of B2 λσ H Pr Z x y dx dy so E px py ⟨hx,h⟩=>by
 cases py with
 | lst hz rs =>
  obtain⟨ha,h⟩:=h;obtain⟨i1,i2⟩:=wD px hx rs ha;exact⟨_,_,rfl,.inl hz.l,nG px hx,i2,_,E.cons_d (.bl _),by rw[i1];exact h⟩
 | tup hz rs =>
  obtain⟨ha,h⟩:=h;obtain⟨i1,i2⟩:=wD px hx rs ha;exact⟨_,_,rfl,.inr hz,nG px hx,i2,_,E.cons_d (.bl _),by rw[i1];exact h⟩
 |_=>exact h.elim
theorem Fi:P5 X (compareOp .NotIn) (yn true):=P5.of v5 λσ H Pr Z x y dx dy so E px py ⟨hx,h⟩=>by
 cases py with
 | lst hz rs =>
  obtain⟨ha,h⟩:=h;obtain⟨i1,i2⟩:=wD px hx rs ha;exact⟨_,_,rfl,.inl hz.l,nG px hx,i2,_,E.cons_d (.bl _),by rw[i1];exact h⟩
 | tup hz rs =>
  obtain⟨ha,h⟩:=h;obtain⟨i1,i2⟩:=wD px hx rs ha;exact⟨_,_,rfl,.inr hz,nG px hx,i2,_,E.cons_d (.bl _),by rw[i1];exact h⟩
 |_=>exact h.elim
def Qo(X:Cx)(lo:Option Expr)(t:Option (W L)):Prop:=match lo,t with
 |none,none=>True
 |some e,some t=>PL X e t
 |_,_=>False
theorem wF{K:PySem.W.Frag}{H:Hp}{vs:List V}{xs:List D}(r:bU K H vs xs)(l u:Option Int):bU K H (G0 vs l u) (Cn xs l u):=by unfold G0 Cn;rw[r.length];exact(r.drop _).take _
noncomputable def Qp(K:PySem.W.Frag)(t:Option (W L)):TO:=λσ H Q=>∃Pr Z so,aD K Pr H σ Z/\A6 t Z so/\∀i H' Z',aD K Pr H' σ Z'->so i Z'->Q i H'
theorem K7{lo:Option Expr}{t:Option (W L)}(h:Qo X lo t):PO X lo (Qp X.K t):=by
 cases lo with
 | none =>
  cases t with
  | none =>
   intro gV s σ H Q I ⟨Pr,Z,so,E,hw,q⟩;exact HM gV s σ H Q I (q none H Z E hw)
  |some t=>exact h.elim
 | some e =>
  cases t with
  |none=>exact h.elim
  | some t =>
   intro gV s σ H Q I ⟨Pr,Z,so,E,hw,q⟩;refine HN (PL.pe (show PL X e t from h)) gV s σ H Q I ⟨Pr,Z,_,E,hw,λv H' r Z' E' pp=>?_⟩;obtain⟨i,rfl,pp⟩:=eN pp;obtain⟨_,e1,p1⟩:=E'.head_d;cases e1;cases p1;exact⟨i,rfl,q (some i) H' Z' E'.tail pp⟩
end
def K8{α:Type}(o:Option L)(t u:W α)(Z:Ev)(so:α->Ev->Prop):Prop:=match o with
 |some (.own _ _)=>t Z so
 |_=>u Z so
noncomputable def fm{α:Type}(i:Nat)(t u:W α):W α:=λZ so=>K8 Z[i]? t u Z so
theorem Fj{α:Type}(a:Addr)(xs:List D)(t u:W α)(Z:Ev)(so:α->Ev->Prop):K8 (some (.own a xs)) t u Z so=t Z so:=(rfl)
theorem K9{α:Type}(x:D)(t u:W α)(Z:Ev)(so:α->Ev->Prop):K8 (some (.d x)) t u Z so=u Z so:=(rfl)
theorem IF{α:Type}(a:Option Addr)(ls:List L)(t u:W α)(Z:Ev)(so:α->Ev->Prop):K8 (some (.bx a ls)) t u Z so=u Z so:=(rfl)
theorem gM{X:Cx}{e:Expr}{i:Nat}{t u:W L}(h:PL X e t)(h':PL X e u):PL X e (fm i t u):=λgV s σ H Pr Z so I E q=>by
 unfold fm K8 at q;split at q
 . exact h gV s σ H Pr Z so I E q
 . exact h' gV s σ H Pr Z so I E q
theorem IG{K:PySem.W.Frag}{c:Str}{C:Addr}{T:String}(h:jJ K c C=true)(hm:PySem.W.kitMeta T=true):PySem.W.kitOne K (.ref C) (.type T)=some ((["ValueError","Exception","BaseException","object"]:List String).contains T):=by obtain⟨L,cd,S⟩:=jK h;unfold PySem.W.kitOne PySem.W.kitCls;rw[if_neg (show ¬((Value.ref C == Value.type T)=true)from λz=>by cases z)];dsimp only;rw[if_pos hm];show PySem.W.mroIn K C (.type T)=_;rw[S.mroIn,qN]
theorem wG{T:String}(h0:∀K d,(∀c ns xs,d≠.exc c ns xs)->PySem.W.kitOne K (Qi d) (.type T)=some (nE T d))(hm:PySem.W.kitMeta T=true):∀K d t,Qj K d t->PySem.W.kitOne K t (.type T)=some (nE T d):=by
 intro K d t h
 cases d with
 | exc c ns xs =>
  obtain⟨C,e,h⟩:=h;rw[e];exact IG h hm
 |_=>cases h;exact h0 K _ (λ_ _ _ z=>nomatch z)
theorem IH:∀ K d t,Qj K d t->PySem.W.kitOne K t (.type "int")=some (nE "int" d):=wG (λK d hd=>by cases d <;> first | rfl | exact absurd rfl (hd _ _ _)) y_
theorem Fk:∀ K d t,Qj K d t->PySem.W.kitOne K t (.type "bool")=some (nE "bool" d):=wG (λK d hd=>by cases d <;> first | rfl | exact absurd rfl (hd _ _ _)) y_
theorem II:∀ K d t,Qj K d t->PySem.W.kitOne K t (.type "str")=some (nE "str" d):=wG (λK d hd=>by cases d <;> first | rfl | exact absurd rfl (hd _ _ _)) y_
theorem zH:∀ K d t,Qj K d t->PySem.W.kitOne K t (.type "list")=some (nE "list" d):=wG (λK d hd=>by cases d <;> first | rfl | exact absurd rfl (hd _ _ _)) y_
theorem qV:∀ K d t,Qj K d t->PySem.W.kitOne K t (.type "tuple")=some (nE "tuple" d):=wG (λK d hd=>by cases d <;> first | rfl | exact absurd rfl (hd _ _ _)) y_
def yo(K:PySem.W.Frag)(mg:Str->Option Value)(x:Str)(d:D):Prop:=∃v u,mg x=some u/\cB v u/\∀H,PZ K H v d
theorem m5{X:Cx}{x:Str}{d:D}{pos:Pos}(g:yo X.K X.mg x d)(hg:Gl X x) (hdb:(x == ("__debug__" : Str))=false:=by decide):PL X (.Name x pos) (wC d):=by obtain⟨v,u,h1,h2,h3⟩:=g;exact Ih hg h1 h2 h3 hdb
def M6(o:Obj)(d:D):Prop:=∃ its n vs ds,d=.tup ds/\o.cls=.type "tuple"/\o.data=.seq its n/\its.size<=sizeLine/\cn vs its.toList/\∀ K H,bU K H vs ds
theorem zJ{K:PySem.W.Frag}{mg:Str->Option Value}{x:Str}{d:D}{l:Addr}{o:Obj}(h1:mg x=some (.ref l))(h2:K.lookup l=some o)(h3:M6 o d):yo K mg x d:=by obtain⟨its,n,vs,ds,rfl,hc,hd,hz,hv,hr⟩:=h3;exact⟨.ref l,_,h1,rfl,λH=>.tup (.inr ⟨o,its,n,h2,hc,hd,hz,hv⟩) (hr K H)⟩
theorem zK{K:PySem.W.Frag}{mg:Str->Option Value}{x:Str}{s:Str}{t:Tok}(h1:mg x=some (.str s t)):yo K mg x (.str s):=⟨.str s,_,h1,⟨t,rfl⟩,λH=>.str s⟩
theorem qW{K:PySem.W.Frag}{H:Hp}:∀ns:List Int,bU K H (ns.map V.int) (ns.map D.int)
 |[]=>.nil
 |n::ns=>.cons (.int n) (qW ns)
theorem Cr{K:PySem.W.Frag}{H:Hp}{a:Addr}{ns:List Int}{fs:FS}{n:Nat}(hl:ns.length<=n)(hO:MF H)(hS:Pc K H a (ns.map V.int))(h:fs [.d (.lst (ns.map .int))] (λr _=>r=.d (.bl true))):spF K 1 fs [.ref a] H (λv _=>v=.bl true) λ_ _ _=>False:=by
 have hz:PY K H a (ns.map V.int):=by
  rcases hS with(h|⟨o,h⟩)|h
  .
   rcases hO a with z|⟨o,xs,z⟩|⟨q,z⟩
   . rw[z]at h;cases h
   . rw[z]at h;cases h
   . rw[z]at h;cases h
  . exact .inl ⟨o,h⟩
  . exact .inr h
 refine⟨rfl,λ_=>none,[.d (.lst (ns.map .int))],_,⟨(λb o e=>nomatch e),(show([]:List Addr).Nodup from Wb),(λa h=>absurd (show a∈([]:List Addr)from h) v6),.cons ⟨.ref a,rfl,.lst hz (qW ns)⟩ .nil⟩,h,λv H' r ls' E p=>?_⟩;subst p;obtain⟨_,e,r⟩:=E.head_d;cases e;cases r;rfl
section
variable{X:Cx}
def M7:P4:=λx y k=>match y with
 |.non=>k (.d (.bl (match x with | .non=>true|_=>false)))
 |_=>False
def qX:P4:=λx y k=>match y with
 |.non=>k (.d (.bl (match x with | .non=>false|_=>true)))
 |_=>False
theorem uK:P5 X (compareOp .IsNot) qX:=Iv.imp λx y k h=>by
 unfold qX at h;split at h
 . exact⟨rfl,h⟩
 . exact h.elim
end
end L2
namespace L2
open PySem
theorem zL(a b:Int):Int.gcd b (a.fmod b)=Int.gcd a b:=by rw[Int.fmod_def,Int.gcd_sub_mul_left_right,Int.gcd_comm]
theorem lA(a:Int){b:Int}(h:b≠0):(a.fmod b).natAbs<b.natAbs:=by
 rw[Int.fmod_eq_emod];have h1:=VX a h;have h2:a % b<(b.natAbs:Int):=Int.emod_lt a h;split
 . omega
 . rename_i q;have:a % b≠0:=λe=>q (.inr (Int.dvd_of_emod_eq_zero e));omega
noncomputable def Qq(q:Rat):D:=.tup [.int q.num,.int (q.den:Int)]
theorem yp{t b:Int}(h:b≠0):0<Int.gcd t b:=Int.gcd_pos_of_ne_zero_right _ h
noncomputable def cW(t b:Int):Int:=if b<0 then -(Int.gcd t b:Int)else(Int.gcd t b:Int)
theorem zM{t b:Int}(h:b≠0):cW t b≠0:=by have:=yp (t:=t) h;unfold cW;split<;>omega
theorem Cs(t b:Int):(cW t b).natAbs=Int.gcd t b:=by unfold cW;split<;>omega
theorem zN{t b:Int}(h:b≠0):(cW t b).natAbs<=b.natAbs:=by rw[Cs];exact V6 xL (by have:=Int.gcd_dvd_right t b;exact Int.natAbs_dvd_natAbs.mpr this |> λq=>by simpa using q)
theorem qY{a g:Int}(hg:g≠0)(h:g∣a):a.fdiv (-g)=-(a / g):=by obtain⟨k,rfl⟩:=h;rw[Int.mul_ediv_cancel_left _ hg,show g*k=(-g)*(-k) by rw[Int.neg_mul_neg],Int.mul_fdiv_cancel_left _ xL]
theorem Ct{t b:Int}(h:b≠0):t.fdiv (cW t b)=(Rat.divInt t b).num:=by
 have hg:=yp (t:=t) h;have hd:(Int.gcd t b:Int)∣t:=Int.gcd_dvd_left t b;rw[Rat.num_divInt,Int.gcd_comm b t];unfold cW;split
 . rename_i hb;rw[qY xL hd,Int.sign_eq_neg_one_of_neg hb,Int.neg_one_mul,Int.neg_ediv_of_dvd hd]
 . rename_i hb;rw[Int.sign_eq_one_of_pos xL,Int.one_mul,Int.fdiv_eq_ediv_of_nonneg _ xL]
theorem IJ{t b:Int}(h:b≠0):b.fdiv (cW t b)=((Rat.divInt t b).den:Int):=by
 have hg:=yp (t:=t) h;have hd:(Int.gcd t b:Int)∣b:=Int.gcd_dvd_right t b;rw[Rat.den_divInt,if_neg h,Int.gcd_comm b t,Int.natCast_ediv];unfold cW;split
 .
  rename_i hb;rw[qY xL hd,<- Int.neg_ediv_of_dvd hd]
  congr 1
  omega
 .
  rename_i hb;rw[Int.fdiv_eq_ediv_of_nonneg _ xL]
  congr 1
  omega
theorem G4{t b:Int}(h:b≠0):(Rat.divInt t b).den<=b.natAbs:=by rw[Rat.den_divInt,if_neg h];exact Nat.div_le_self _ _
theorem G5{t b:Int}(h:b≠0):(Rat.divInt t b).num.natAbs<=t.natAbs:=by rw[<- Ct h];exact PySem.natAbs_fdiv_le _ _
theorem den_pos(q:Rat):0<q.den:=Nat.pos_of_ne_zero q.den_nz
theorem zO(p q:Rat):Rat.divInt (p.num*(q.den:Int)+q.num*(p.den:Int)) ((p.den:Int)*(q.den:Int))=p+q:=by have hp:=den_pos p;have hq:=den_pos q;have:=Rat.divInt_add_divInt p.num q.num (d₁:=(p.den:Int)) (d₂:=(q.den:Int)) xL xL;rw[UF,UF]at this;exact this.symm
theorem G6(p q:Rat):Rat.divInt (p.num*(q.den:Int)-q.num*(p.den:Int)) ((p.den:Int)*(q.den:Int))=p-q:=by have:=zO p (-q);rw[U1,<- this];simp only[Rat.neg_num,Rat.neg_den,Int.neg_mul,Int.sub_eq_add_neg]
def RB(n:Nat)(q:Rat):Prop:=q.num.natAbs<2^n/\q.den<2^n
theorem RB.mono{m n:Nat}{q:Rat}(h:RB m q)(hl:m<=n):RB n q:=⟨TU h.1 (Uh x_ hl),TU h.2 (Uh x_ hl)⟩
theorem RB.neg{n:Nat}{q:Rat}(h:RB n q):RB n (-q):=⟨by rw[Rat.neg_num,Int.natAbs_neg];exact h.1,by rw[Rat.neg_den];exact h.2⟩
theorem RB.bn{n:Nat}{q:Rat}(h:RB n q)(hl:n<=1000000):c9 q.num:=TU h.1 (Uh x_ hl)
theorem RB.bd{n:Nat}{q:Rat}(h:RB n q)(hl:n<=1000000):c9 (q.den:Int):=by unfold c9;rw[UA];exact TU h.2 (Uh x_ hl)
theorem bB{a b m n:Nat}(h1:a<2^m)(h2:b<2^n):a*b<2^(m+n):=by rw[Nat.pow_add];exact Nat.mul_lt_mul'' h1 h2
theorem RB.add{m n:Nat}{p q:Rat}(hp:RB m p)(hq:RB n q):RB (m+n+1) (p+q):=by
 have dp:=den_pos p;have dq:=den_pos q;have hne:((p.den:Int)*(q.den:Int))≠0:=Int.mul_ne_zero xL xL;rw[<- zO p q];have a1:=bB hp.1 hq.2;have a2:=bB hq.1 hp.2;have a3:=bB hp.2 hq.2;have e:(2:Nat)^(m+n+1)=2^(m+n)+2^(m+n):=by rw[Nat.pow_succ];omega
 rw[Nat.add_comm n m]at a2;constructor
 . refine Ug (G5 hne) ?_;refine Ug (Int.natAbs_add_le _ _) ?_;rw[Vm,Vm,UA,UA,e];omega
 . refine Ug (G4 hne) ?_;rw[Vm,UA,UA,e];omega
@[simp] theorem q5(i j:Int):Qg (.int i) (.int j)=decide (i=j):=by simp[Qg,Qf,PyData.eqv];by_cases h:i=j<;>simp[h]
@[simp] theorem IK(i j:Str):Qg (.str i) (.str j)=decide (i=j):=by simp[Qg,Qf,PyData.eqv];by_cases h:i=j<;>simp[h]
@[simp] theorem La(i j:Bool):Qg (.bl i) (.bl j)=decide (i=j):=by simp[Qg,Qf,PyData.eqv];cases i<;>cases j<;>rfl
@[simp] theorem A8(i:Int):gL (.int i):=rfl
@[simp] theorem Cu(i:Bool):gL (.bl i):=rfl
@[simp] theorem A9:gL .non:=rfl
mutual
noncomputable def Qr:Nat->D->Bool
 |_,.non=>true
 |_,.bl _=>true
 |_,.int _=>true
 |_,.str x=>PyData.strOk x
 |0,.tup _=>false
 |0,.lst _=>false
 |n+1,.tup xs=>G7 n xs
 |n+1,.lst xs=>G7 n xs
 |_,.dct _=>false
 |_,.exc _ _ _=>false
 |_,.fn _ _=>false
noncomputable def G7:Nat->List D->Bool
 |_,[]=>true
 |n,x::xs=>Qr n x && G7 n xs
end
mutual
theorem yq:∀(n:Nat)(d:D),Qr n d=true->(Qf d).canLay0=true/\(Qf d).depth<=n
 |_,.non,_=>⟨rfl,Vr _⟩
 |_,.bl _,_=>⟨rfl,Vr _⟩
 |_,.int _,_=>⟨rfl,Vr _⟩
 |_,.str x,h=>⟨by simpa[Qr,Qf,PyData.canLay0]using h,Vr _⟩
 |0,.tup _,h=>by simp[Qr]at h
 |0,.lst _,h=>by simp[Qr]at h
 | n+1,.tup xs,h=>by
  obtain⟨h1,h2⟩:=uL n xs (by simpa[Qr]using h)
  exact⟨h1,Nat.succ_le_succ h2⟩
 | n+1,.lst xs,h=>by
  obtain⟨h1,h2⟩:=uL n xs (by simpa[Qr]using h)
  exact⟨h1,Nat.succ_le_succ h2⟩
 |_,.dct _,h=>by simp[Qr]at h
 |_,.exc _ _ _,h=>by simp[Qr]at h
 |_,.fn _ _,h=>by simp[Qr]at h
theorem uL:∀(n:Nat)(ds:List D),G7 n ds=true->PyData.canLayAll0 (iL ds)=true/\PyData.depthAll (iL ds)<=n
 |_,[],_=>⟨rfl,Vr _⟩
 | n,d::ds,h=>by
  have h':Qr n d=true/\G7 n ds=true:=by simpa[G7]using h
  obtain⟨a1,a2⟩:=yq n d h'.1
  obtain⟨b1,b2⟩:=uL n ds h'.2
  exact⟨by simp[iL,PyData.canLayAll0,a1,b1],by simp only[iL,PyData.depthAll];omega⟩
end
theorem qw{n:Nat}{d:D}(h:Qr n d=true)(hn:n<=64):gL d:=by obtain⟨h1,h2⟩:=yq n d h;unfold gL SeqAt.shaped;rw[h1,UI xL];rfl
theorem Cv(xs ys:List D):Qg (.tup xs) (.tup ys)=PyData.eqvAll (iL xs) (iL ys):=by simp[Qg,Qf,PyData.eqv]
theorem nH(x y:D)(xs ys:List D):PyData.eqvAll (iL (x::xs)) (iL (y::ys))=(Qg x y && PyData.eqvAll (iL xs) (iL ys)):=by simp[iL,PyData.eqvAll,Qg]
theorem zQ:PyData.eqvAll (iL []) (iL [])=true:=by simp[iL,PyData.eqvAll]
theorem zR(q:Rat):gL (Qq q):=qw (n:=1) (by simp[Qq,Qr,G7]) x_
theorem G8(p q:Rat):Qg (Qq p) (Qq q)=decide (p=q):=by
 unfold Qq;rw[Cv,nH,nH,zQ,q5,q5,Bool.and_true];by_cases h:p=q
 . subst h;simp
 .
  rw[Ul h];by_cases h1:p.num=q.num
  . have:¬((p.den:Int)=(q.den:Int)):=λe=>h (Rat.ext h1 xL);simp[this]
  . simp[h1]
end L2
namespace L2
open PySem PySem.Spec PyProof.Rows
section
variable{X:Cx}{a b c:Expr}{pos p:Pos}{ta tb tc:W L}
def zS(o o':P4)(ta tb tc:W L):W L:=λZ so=>ta Z λr Z1=>oN r λi=>tb Z1 λr Z2=>oN r λj=>o (.int i) (.int j) λz=>AX z λk=>if k=true then tc Z2 λr Z3=>oN r λl=>o' (.int j) (.int l) λz=>so z Z3 else so (.d (.bl false)) Z2
def MI(X:Cx)(op:CmpOp)(o:P4):Prop:=∃f:Int->Int->Bool,Pk X (compareOp op) (Po λi j=>.bl (f i j))/\∀i j k,o (.int i) (.int j) k->k (.d (.bl (f i j)))
theorem M8:MI X .Lt vP:=⟨_,KF,λ_ _ _ h=>h⟩
theorem M9:MI X .LtE M5:=⟨_,MU,λ_ _ _ h=>h⟩
theorem Fm{op op':CmpOp}{o o':P4}{f f':Int->Int->Bool}(h1:∀i j k,o (.int i) (.int j) k->k (.d (.bl (f i j))))(h2:∀i j k,o' (.int i) (.int j) k->k (.d (.bl (f' i j))))
  (σ:St) (H Pr:Hp) (Z:Ev) (so:L->Ev->Prop) (Q:VK) (hQ:∀v H' r Z',aD X.K Pr H' (some v::σ) (r::Z')->so r Z'->Q v H') (E:aD X.K Pr H σ Z) (h:zS o o' ta tb tc Z so) :
  GZ (Po λi j=>.bl (f i j)) (Po λi j=>.bl (f' i j)) (tL X.K ta) (tL X.K tb) (tL X.K tc) σ H Q:=by
 refine⟨Pr,Z,_,E,h,λv H1 r Z1 E1 p=>?_⟩;obtain⟨i,rfl,p⟩:=eN p;obtain⟨_,e1,r1⟩:=E1.head_d;cases e1;cases r1;refine⟨Pr,Z1,_,E1.tail,p,λv H2 r Z2 E2 p=>?_⟩;obtain⟨j,rfl,p⟩:=eN p;obtain⟨_,e1,r1⟩:=E2.head_d;cases e1;cases r1;refine⟨i,j,rfl,rfl,f i j,rfl,?_⟩;have q:=h1 i j _ p
 cases hk:f i j with
 | false =>
  rw[hk]at q;exact hQ _ _ _ Z2 (E2.tail.cons_d (.bl false)) q
 | true =>
  rw[hk]at q;refine⟨Pr,Z2,_,E2.tail,q,λv H3 r Z3 E3 p=>?_⟩;obtain⟨l,rfl,p⟩:=eN p;obtain⟨_,e1,r1⟩:=E3.head_d;cases e1;cases r1;exact⟨j,l,rfl,rfl,hQ _ _ _ Z3 (E3.tail.cons_d (.bl _)) (h2 j l _ p)⟩
theorem Fn{op op':CmpOp}{o o':P4}(ho:MI X op o)(ho':MI X op' o')(ha:PL X a ta)(hb:PL X b tb)(hc:PL X c tc)(hm:lastMarks [op,op'] [b,c]=false:=by with_unfolding_all rfl) :
  PL X (.Compare a [op,op'] [b,c] pos) (zS o o' ta tb tc):=by
 obtain⟨f,r1,h1⟩:=ho;obtain⟨f',r2,h2⟩:=ho';exact PL.of (Ez r1 r2 ha.pe hb.pe hc.pe hm) λσ H Pr Z so E h=>Fm (op:=op) (op':=op') h1 h2 σ H Pr Z so _ (λv H' r Z' E' p=>⟨r,Z',E',p⟩) E h
end
end L2
namespace L2
open PySem PySem.Spec PyProof.Rows PySem.Builtin.Str
section
variable{X:Cx}{a:Expr}{pos p2:Pos}{ta:W L}{x:Str}
theorem Ld:Pw X (λx lo hi H Q=>∃z,x=.str z/\z.length<=sizeLine/\Q (.str (Txt.slice z lo hi)) H):=by
 intro gV s σ H x v vl vu lo hi sl Q I rx hs pl pu h;obtain⟨z,rfl,hz,q⟩:=h;obtain⟨t,rfl⟩:=rx;refine⟨"str",_,F.slot_str_getitem.lookup,typeIs_str _ _ _,?_⟩
 obtain⟨l',rfl,rfl⟩:∃l':Option (Int×Tok),vl=partValue l'/\lo=l'.map (·.1):=by
  cases pl
  . exact⟨none,rfl,rfl⟩
  . exact⟨some (_,_),rfl,rfl⟩
 obtain⟨u',rfl,rfl⟩:∃l':Option (Int×Tok),vu=partValue l'/\hi=l'.map (·.1):=by
  cases pu
  . exact⟨none,rfl,rfl⟩
  . exact⟨some (_,_),rfl,rfl⟩
 exact wpAny_getItem_str_slice (l:=l') (u:=u') (st:=none) hs rfl (post_val_or_str ⟨T9 (Txt.slice_le z _ _) hz,λt' k=>⟨.str _,H,I.tok k,⟨t',rfl⟩,q⟩⟩)
def Lf(ta:W L)(lo hi:Option (W L)):W L:=λZ so=>ta Z λr Z1=>P2 r λd=>A6 lo Z1 λl Z2=>A6 hi Z2 λu Z3=>match d with
 |.lst xs=>∀a,so (.own a (Cn xs l u)) Z3
 |.str z=>z.length<=sizeLine/\so (.d (.str (Txt.slice z l u))) Z3
 |.tup xs=>¬(HT.sIx xs.length 0 l=0/\HT.sIx xs.length xs.length u=xs.length)/\so (.d (.tup (Cn xs l u))) Z3
 |_=>False
theorem q8{lo hi:Option Expr}{tl th:Option (W L)}(ha:PL X a ta)(hl:Qo X lo tl)(hh:Qo X hi th):PL X (.Subscript a (.Slice lo hi none p2) pos) (Lf ta tl th):=by
 refine PL.of (EF (Pw.or HP (Pw.or Ld KI)) (ay ha).pe (K7 hl) (K7 hh)) λσ H Pr Z so E h=>?_
 refine⟨Pr,Z,λr Z1=>match r with
  | .d d=>A6 tl Z1 λl Z2=>A6 th Z2 λu Z3=>match d with
   |.lst xs=>∀a,so (.own a (Cn xs l u)) Z3
   |.str z=>z.length<=sizeLine/\so (.d (.str (Txt.slice z l u))) Z3
   |.tup xs=>¬(HT.sIx xs.length 0 l=0/\HT.sIx xs.length xs.length u=xs.length)/\so (.d (.tup (Cn xs l u))) Z3
   |_=>False
  |_=>False,E,h,λv H1 r Z1 E1 pp=>?_⟩
 cases r with
 | d d =>
  obtain⟨_,e1,p1⟩:=E1.head_d;cases e1;refine⟨bG H1 Z1,Z1,_,E1.tail.wide,pp,λl H2 Z2 E2 pp=>?_⟩;have F2:aD X.K Pr H2 (some v::σ) (.d d::Z2):=aD.step (τ:=[some v]) (lam:=[.d d]) (w:=[]) (μ:=[]) E1 rfl E2 rfl;refine⟨bG H2 Z2,Z2,_,F2.tail.wide,pp,λu H3 Z3 E3 pp=>?_⟩;have F3:aD X.K Pr H3 (some v::σ) (.d d::Z3):=aD.step (τ:=[some v]) (lam:=[.d d]) (w:=[]) (μ:=[]) F2 rfl E3 rfl;obtain⟨_,e1,p1⟩:=F3.head_d;cases e1
  cases p1 with
  |lst hz rs=>exact .inl ⟨_,_,rfl,hz.l,λq hq=>⟨_,_,F3.tail.cons_own hq (wF rs l u),pp q⟩⟩
  |str z=>exact .inr (.inl ⟨z,rfl,pp.1,_,_,F3.tail.cons_d (.str _),pp.2⟩)
  |tup hz rs=>exact .inr (.inr ⟨_,_,rfl,hz,by rw[rs.length];exact pp.1,λq hq=>⟨_,_,F3.tail.cons_tup hq (wF rs l u),pp.2⟩⟩)
  |_=>exact pp.elim
 |_=>exact pp.elim
def Na(K:PySem.W.Frag):V->List V->Hp->VK->Prop:=λx vs H Q=>∃z a ys zs,x=.str z/\vs=[.ref a]/\(Pc K H a ys∨Pd K H a ys)/\ys=zs.map V.str/\(zs.map (·.length)).sum+zs.length*z.length<=16777216/\Q (.str (Txt.join z zs)) H
theorem rf:∀{zs:List Str}{us:List Value},cn (zs.map V.str) us->StrsAre us zs
 |[],_,.nil=>.nil
 | z::zs,_,.cons r t=>by obtain⟨t',rfl⟩:=r;exact .cons z t' (rf t)
theorem IL:PF X "str.join" (Na X.K):=by
 intro gV s σ H x vs v us Q I rx rv h;obtain⟨z,a,ys,zs,rfl,rfl,hq,rfl,hz,q⟩:=h;obtain⟨t,rfl⟩:=rx;obtain⟨u,rfl,ru⟩:=rv.one;cases ru;rcases hq with hq|hq
 . obtain⟨its,r,pl,_⟩:=I.list hq;exact join_list pl.isList (by simpa using rf r) hz λt' k=>⟨.str _,H,I.tok k,⟨t',rfl⟩,q⟩
 . obtain⟨its,r,pl,_⟩:=I.tuple hq;exact join_tuple pl (by simpa using rf r) hz λt' k=>⟨.str _,H,I.tok k,⟨t',rfl⟩,q⟩
end
section
variable{X:Cx}{e a b c:Expr}{es:List Expr}{pos p apos cpos:Pos}{te:W L}{x y:Str}
def IM(z:Str)(te:W L):W L:=λZ so=>te Z λr Z1=>P2 r λd=>jP d λxs=>∃zs,xs=zs.map D.str/\(zs.map (·.length)).sum+zs.length*z.length<=16777216/\so (.d (.str (Txt.join z zs))) Z1
theorem rg{K:PySem.W.Frag}{H:Hp}:∀{zs:List Str}{vs:List V},bU K H vs (zs.map D.str)->vs=zs.map V.str
 |[],_,.nil=>rfl
 | z::zs,_,.cons r t=>by cases r;rw[rg t];rfl
theorem IP{z:Str}{j:Nat}{pz:Pos}(he:PL X e te)(hs1:starEach [e] X.env=[(false,eval e X.env)]:=by rfl) (hbase:attributeBase (.Constant (.str z) j pz) "join" X.env (eval (.Constant (.str z) j pz) X.env)=eval (.Constant (.str z) j pz) X.env:=by rfl)
  (hfew:((backTo cpos (starEach [e] X.env)).all (λx=>!x.1) && (backToKw cpos (keywordEach [] X.env)).all (λx=>x.1.isSome)
   && decide (([e]).length+([]:List Keyword).length+(if([]:List Keyword).isEmpty then 0 else 1)<30))=true:=by rfl)
  (hline:(apos.endLine == cpos.line)=true:=by rfl) (hplain:(backTo cpos (starEach ([]:List Expr) X.env)).any (·.1)=false:=by rfl) :
  PL X (.Call (.Attribute (.Constant (.str z) j pz) "join" apos) [e] [] cpos) (IM z te):=by
 refine PL.of (KO PySem.F.plainAttrs_str PySem.F.slot_str_join PySem.F.type_str_join IL BJ (dG (ay he).pe ng hs1) (hbase:=hbase) (hfew:=hfew) (hline:=hline) (hs:=hs1) (hplain:=hplain)) λσ H Pr Z so E h=>?_
 refine⟨rfl,Pr,Z,λr Z1=>match r with
  |.d d=>jP d λxs=>∃zs,xs=zs.map D.str/\(zs.map (·.length)).sum+zs.length*z.length<=16777216/\so (.d (.str (Txt.join z zs))) Z1
  |_=>False,E,h,λv H' r Z' E' pp=>?_⟩
 cases r with
 | d d =>
  obtain⟨_,e1,p1⟩:=E'.head_d;cases e1
  cases p1 with
  | lst hz rs =>
   obtain⟨zs,rfl,hl,pp⟩:=pp;exact⟨z,_,_,zs,rfl,rfl,.inl hz.l,rg rs,hl,_,_,E'.tail.cons_d (.str _),pp⟩
  | tup hz rs =>
   obtain⟨zs,rfl,hl,pp⟩:=pp;exact⟨z,_,_,zs,rfl,rfl,.inr hz,rg rs,hl,_,_,E'.tail.cons_d (.str _),pp⟩
  |_=>exact pp.elim
 |_=>exact pp.elim
theorem O7.turnedL{gV:List (Addr×Obj)}{σ:St}{H:Hp}{s:Shared}{h':Heap}{t':Nat}{fp:List Addr}(I:O7 X gV σ H s)(k:∀b o,b∉fp->s.heap.get? b=some o->h'.get? b=some o)(hf:∀b∈fp,BN X gV H b):O7 X gV σ H {s with heap:=h',toks:=t' }:=by
 have nit:∀b u,H b=some u->b∉fp:=λb u e z=>by rw[(hf b z).1]at e;cases e
 refine I.step (g':=s.gens) (d':=s.drawn) (ch:=fp) (λb hb=>?_) (λb o _ _ hc e _=>k b o hc e) (λb o _ _ hc e _=>⟨o.slots,k b o hc e⟩) (λ_ _ _ _ n=>n)
  (λb o hc e=>⟨o,k b o hc e⟩) (λ_ _ e=>e) (λ_ _ _ e=>e) (λ_ _ e=>e) (λm hm=>?_) (λb u e=>?_) I.bare
 . obtain⟨f0,f1,f2,f3,f4,f5⟩:=hf b hb;exact⟨f3,f1,f4,f5⟩
 . obtain⟨o,es,ep,ho,r⟩:=hm;exact⟨o,es,ep,k _ o (λz=>(hf _ z).2.1 rfl) ho,r⟩
 .
  refine(I.hok b u e).stay (λc v hc q=>k c v ?_ q) (λ_ q=>q) (λ_ _ q=>q) λ_ _ _ _ q=>q;rcases hc with z|z
  . rw[z];exact nit b u e
  . exact nit c _ z
noncomputable def Qs(K:PySem.W.Frag)(a:Addr):It :=
 ⟨λi H=>∃xs x,Pc K H a xs/\xs[i]?=some x,λi H v H'=>∃p x,v=.ref p/\H p=none/\H'=OZ H p (.tup [.int i,x])/\∀xs,Pc K H a xs->xs[i]?=some x,λi H=>∃xs,Pc K H a xs/\xs.length<=i⟩
theorem Cw{P:Program}{w:World}{K:PySem.W.Frag}{k:Nat}(q it a:Addr)(hne:q≠it):HG P w K (.Tuple es k pos) (Qs K a) [q,it] q (λi h=>(∃old,IsEnum h q it i old)/\h.IsListIter it a i) where
 mem:=by simp
 obj:=λi h st b hb=>by
  obtain⟨⟨old,he⟩,o,e,c,d⟩:=st;rcases Ue.mp hb with rfl|hb
  .
   exact⟨_,he,λv z=>by
    have z':Data.fields _=Data.cell v:=z
    cases z'⟩
  .
   have e':b=it:=by simpa using hb
   subst e';exact⟨o,e,λv z=>by rw[d]at z;cases z⟩
 keep:=λi h h' st kk=>⟨let ⟨old,he⟩:=st.1;⟨old,kk q v6 _ he⟩,st.2.at λo e=>kk it v6 o e⟩
 item:=by
  intro X hP hw hK hc i gV s σ H E I hf st hg;subst hP hw hK;obtain⟨xs,x,hq,hx⟩:=hg;obtain⟨its,rv,p,hz⟩:=I.list hq;obtain⟨u,hu,ru⟩:=rv.get hx;obtain⟨⟨old,he⟩,hit⟩:=st;have hai:a≠it:=λz=>by subst z;obtain⟨o,e,c,d⟩:=hit;obtain⟨o',e',c',_⟩:=p.isList;rw[e]at e';cases e';rw[c]at c';exact absurd c' v6
  have hqa:q≠a:=λz=>by subst z;obtain⟨o',e',c',_⟩:=p.isList;rw[he]at e';cases e';exact absurd c' v6
  have D:=Draws.list (prog:=X.prog) (w:=X.w) (A:=X.A.in1) (I.ok.hd hc) it a hai its.toArray;have hlt:i<its.toArray.size:=by rw[Uk];exact(TR.mp hu).1
  refine wpAny_pyNext_enum_itemD D he ⟨hit,p.isList⟩ hlt hne (by simp[hne,hqa]) λx' h' tk hPx hout hst' htup hsz hk=>?_
  have hx':x'=u:=by
   have:its.toArray[i]?=some u:=by simpa using hu
   rw[this]at hPx;exact(Uq hPx).symm
  subst hx';refine⟨.ref s.heap.objs.size,rfl,wpAny_letOwnedTupleGo_enum (s:={s with heap:=h',toks:=tk+1}) hout λh'' he'' hs''=>?_⟩;have qlt:q<s.heap.objs.size:=TZ he;have ilt:it<s.heap.objs.size:=by obtain⟨o,e,_⟩:=hit;exact TZ e
  have I1:O7 X gV σ (OZ H s.heap.objs.size (.tup [.int i,x])) {s with heap:=s.heap.push {cls:=.type "tuple",data:=.seq #[.int i tk,x'] },toks:=tk} :=
   I.laid (λb ob q=>TN _ q) (Ud _) ⟨by show 2<=sizeLine;decide,[.int i tk,x'],.cons ⟨tk,rfl⟩ (.cons ru .nil),⟨_,Up _ rfl,rfl,_,rfl⟩⟩
  have hf1:∀b∈[q,it],BN X gV (OZ H s.heap.objs.size (.tup [.int i,x])) b:=λb hb=>by
   refine⟨?_,(hf b hb).2⟩;rw[aB ?_]
   . exact(hf b hb).1
   .
    rcases Ue.mp hb with rfl|hb
    . exact Ut qlt
    . rw[U0.mp hb];exact Ut ilt
  have I2:=I1.turnedL (h':=h'') (t':=tk+1) (fp:=[q,it]) (λb o hb e=>by
   have hbq:b≠q:=λz=>hb (by simp[z]);have hbi:b≠it:=λz=>hb (by simp[z]);refine(hs''.2 b hbq).trans ?_;rcases Heap.get?_push_cases e with⟨rfl,rfl⟩|e
   . exact htup
   .
    exact hk b o hbq hbi e) hf1
  refine⟨.ref s.heap.objs.size,_,I2,rfl,⟨_,x,rfl,I.fresh,rfl,λys hy=>by rw[I.list_inj hy hq];exact hx⟩,⟨⟨_,by simpa using he''⟩,hst'.1.extBut hs''.extBut (U3 hne)⟩,λb hb=>(hf1 b hb).1⟩
 done:=by
  intro X hP hw hK hc i gV s σ H E I hf st hg;subst hP hw hK;obtain⟨xs,hq,hx⟩:=hg;obtain⟨its,rv,p,hz⟩:=I.list hq;obtain⟨⟨old,he⟩,hit⟩:=st;have hai:a≠it:=λz=>by subst z;obtain⟨o,e,c,d⟩:=hit;obtain⟨o',e',c',_⟩:=p.isList;rw[e]at e';cases e';rw[c]at c';exact absurd c' v6
  have hl:=rv.length;have hT:s.TypeIs (.ref q) "enumerate":=⟨_,he,rfl⟩;unfold pyNext
  refine tu (wpAny_attempt (wpAny_callSpecial?_slot (name:=Str.ofString "__next__") hT F.slot_enumerate_next
   (wpAny_call_entry F.slot_enumerate_next hT F.entry_enumerate_next ?_ (F.args_enumerate_next_1 _))))
  show wpAny _ _ (field (.ref q) 2 >>= _) _ _ _;refine tu (VY he rfl (x:=.ref it) rfl ?_);refine tu (wpAny_nextOf_list_end (I.ok.hd hc) hit p.isList (by simp;omega) λh' x he' hx'=>?_);obtain⟨o,ho,hcc⟩:=hx';refine tu (wpAny_isInstance (T:="StopIteration") (b:=true) ⟨o,ho,hcc⟩ isSubtype_stop ?_);refine Ub ⟨rfl,?_⟩;exact I.turnedL (t':=s.toks) (fp:=[q,it]) (λb o hb e=>he' b o (λz=>hb (by simp[z])) e) hf
 self:=λ_ _ _ _ _ st h=>let ⟨_,he⟩:=st.1;wpAny_pyIter_enum he h
noncomputable def eh(xs:List D):List D:=xs.zipIdx.map λp=>.tup [.int (p.2:Int),p.1]
theorem Ba{K:PySem.W.Frag}{H:Hp}{a:Addr}{vs:List V}{xs:List D}(h:PY K H a vs)(r:bU K H vs xs):AY K H (Qs K a) (eh xs):=λH' p=>by
 have h':=(h.pres p).l;have p4:(eh xs).length=vs.length:=by rw[r.length];simp[eh]
 refine⟨λi x e=>?_,⟨vs,h',by rw[p4];exact Ud _⟩⟩;have hi:i<vs.length:=by rw[<- p4];exact(TR.mp e).1
 have hi2:i<xs.length:=by rw[<- r.length];exact hi
 have ex:x=.tup [.int (i:Int),xs[i]]:=by
  have:(eh xs)[i]?=some (.tup [.int (i:Int),xs[i]]):=by simp[eh,hi2]
  rw[this]at e;exact(Uq e).symm
 obtain⟨v,ev,rv⟩:=r.get (i:=i) (TM hi2);refine⟨⟨vs,v,h',ev⟩,λw H2 ⟨q,y,e1,e2,e3,e4⟩=>?_⟩;have e5:=e4 vs h';rw[ev]at e5;cases e5;subst e1 e3 ex;refine⟨.inr ⟨_,_,e2,rfl⟩,.tup (.inl (.inl (a6 ..))) (.cons (.int _) (.cons ((rv.pres p).new e2) .nil))⟩
def tj(t:W L):W (List D):=λZ so=>t Z λr Z1=>P2 r λd=>match d with
 |.lst xs=>so (eh xs) Z1
 |_=>False
theorem gN{k:Nat}{t:W L} (hg:Gl X "enumerate") (hm:X.mg "enumerate"=none) (ha:PL X a t) (hs:starEach [a] X.env=[(false,eval a X.env)]:=by rfl):Qe X (.Tuple es k apos) (.Call (.Name "enumerate" p) [a] [] pos) (tj t):=by
 intro gV s σ H Pr Z so I E h
 refine Call_ (ly I hg hm boot_enumerate (Vt (O9 (ae (ay ha) ag hs pos gV s σ H Pr Z (λls Z1=>match ls with
  |[.d (.lst xs)]=>so (eh xs) Z1
  |_=>False) I E ?_) λus s1 ⟨vs,H1,ls,Z1,I1,r1,hl,hb,E1,_,q1⟩=>?_) hs rfl))
 .
  show t Z _
  have e:(λr Z1=>P2 r λd=>match d with | .lst xs=>so (eh xs) Z1|_=>False)=(λr Z1=>P2 r λx=>aF Z1 λxs Z2=>match L.d x::xs with | [.d (.lst xs)]=>so (eh xs) Z2|_=>False):=by
   funext r Z1
   cases r with
   |un=>rfl
   |d d=>cases d<;>rfl
   |own=>rfl
   | bx b ls =>
    show d9 (bL (.bx b ls)) _=d9 (bL (.bx b ls)) _
    cases bL (.bx b ls)with
    |none=>rfl
    |some d=>cases d<;>rfl
   |dic b ls=>rfl
  rw[<- e];exact h
 .
  dsimp only at q1;split at q1
  .
   rename_i xs
   cases vs with
   |nil=>exact absurd hl v6
   | cons v vs =>
    have:vs=[]:=by
     have:vs.length=0:=by simpa using hl
     exact VE.mp this
    subst this;obtain⟨_,e1,p1⟩:=aD.head_d (σ:=σ) (Z:=Z1) E1;cases e1
    cases p1 with
    | lst hz rs =>
     obtain⟨u,rfl,ru⟩:=r1.one;cases ru;obtain⟨its,rv,pl,hz'⟩:=I1.list hz.l;refine call_enumerate_list pl.isList λh' hE hI hsz hk=>?_;refine wpAny_pyIter_enum (s:={s1 with heap:=h' }) hE ?_;have E2:aD X.K Pr H1 σ Z1:=aD.tail (σ:=σ) (Z:=Z1) E1;refine⟨s1.heap.objs.size+1,[s1.heap.objs.size+1,s1.heap.objs.size],_,_,H1,_,Z1,rfl,I1.kept (t':=s1.toks) hk,Cw _ _ _ (Nat.succ_ne_self _),⟨⟨_,hE⟩,hI⟩,λb hb=>?_,E2,Ba hz rs,q1⟩
     have hb':s1.heap.objs.size<=b:=by
      rcases Ue.mp hb with rfl|hb
      . exact Nat.le_succ _
      . rw[U0.mp hb];exact Ud _
     exact I1.fpOk hb' (I1.hok.fresh hb')
  . exact q1.elim
end
section
variable{X:Cx}{e a b:Expr}{es:List Expr}{pos p p2 apos:Pos}{x y:Str}
noncomputable def Qt(K:PySem.W.Frag)(a b:Addr):It :=
 ⟨λi H=>∃xs ys x y,Pc K H a xs/\Pc K H b ys/\xs[i]?=some x/\ys[i]?=some y,λi H v H'=>∃p x y,v=.ref p/\H p=none/\H'=OZ H p (.tup [x,y])/\(∀xs,Pc K H a xs->xs[i]?=some x)/\∀ys,Pc K H b ys->ys[i]?=some y,
  λi H=>∃xs ys,Pc K H a xs/\Pc K H b ys/\(xs.length<=i∨ys.length<=i)⟩
theorem cX{h:Heap}{l a:Addr}{its:Array Value}{o:Obj}(hl:h.IsList l its)(ho:h.get? a=some o) (hc:o.cls≠.type "list"):l≠a:=λz=>by subst z;obtain⟨o',e',c',_⟩:=hl;rw[ho]at e';cases e';exact hc c'
theorem Fo{P:Program}{w:World}{K:PySem.W.Frag}{k:Nat}(z TI TO i1 i2 l1 l2:Addr)(hnd:[z,TI,TO,i1,i2].Nodup):HG P w K (.Tuple es k pos) (Qt K l1 l2) [z,TI,TO,i1,i2] z
  (λi h=>IsZip h z TI TO .none/\IsPair h TI (.ref i1) (.ref i2)/\(∃a b,IsPair h TO a b)/\h.IsListIter i1 l1 i/\h.IsListIter i2 l2 i) where
 mem:=by simp
 obj:=λi h st b hb=>by
  obtain⟨hz,hTI,⟨p,q,hTO⟩,⟨o1,e1,c1,d1⟩,⟨o2,e2,c2,d2⟩⟩:=st;simp only[Ue,VN,or_false]at hb;rcases hb with rfl|rfl|rfl|rfl|rfl
  .
   exact⟨_,hz,λv z=>by
    have z':Data.fields _=Data.cell v:=z
    cases z'⟩
  .
   exact⟨_,hTI,λv z=>by
    have z':Data.seq _ _=Data.cell v:=z
    cases z'⟩
  .
   exact⟨_,hTO,λv z=>by
    have z':Data.seq _ _=Data.cell v:=z
    cases z'⟩
  . exact⟨o1,e1,λv z=>by rw[d1]at z;cases z⟩
  . exact⟨o2,e2,λv z=>by rw[d2]at z;cases z⟩
 keep:=λi h h' st kk=>by obtain⟨hz,hTI,⟨p,q,hTO⟩,h1,h2⟩:=st;exact⟨kk z v6 _ hz,kk TI v6 _ hTI,⟨p,q,kk TO v6 _ hTO⟩,h1.at λo e=>kk i1 v6 o e,h2.at λo e=>kk i2 v6 o e⟩
 item:=by
  intro X hP hw hK hc i gV s σ H E I hf st hg;subst hP hw hK;obtain⟨xs,ys,x,y,hq1,hq2,hx,hy⟩:=hg;obtain⟨its,rv,pl,_⟩:=I.list hq1;obtain⟨its2,rv2,pl2,_⟩:=I.list hq2;obtain⟨u,hu,ru⟩:=rv.get hx;obtain⟨u2,hu2,ru2⟩:=rv2.get hy;obtain⟨hz,hTI,⟨p,q,hTO⟩,h1,h2⟩:=st;obtain⟨o1,e1,c1,d1⟩:=id h1;obtain⟨o2,e2,c2,d2⟩:=id h2;have n1:o1.cls≠.type "list":=by rw[c1]; simp
  have n2:o2.cls≠.type "list":=by rw[c2]; simp
  simp only[Uz,Ue,VN,or_false,not_or,Wb,and_true,not_false_eq_true]at hnd;obtain⟨⟨a1,a2,a3,a4⟩,⟨b1,b2,b3⟩,⟨c1',c2'⟩,d1'⟩:=hnd
  have D:ZipApart z TI TO i1 i2 l1 l2:=⟨U3 a1,U3 a2,U3 a3,U3 a4,b1,b2,b3,c1',c2',d1',cX pl.isList hz v6,cX pl.isList hTO v6,cX pl.isList e1 n1,cX pl.isList e2 n2,
   cX pl2.isList hz v6,cX pl2.isList hTO v6,cX pl2.isList e1 n1,cX pl2.isList e2 n2⟩
  refine wpAny_pyNext_zip_item D hz hTI hTO h1 h2 pl.isList pl2.isList (x:=u) (y:=u2) (by simpa using hu) (by simpa using hu2) λh' hz' hTO' h1' h2' hT' hsz hk=>?_;refine⟨.ref s.heap.objs.size,rfl,wpAny_letOwnedTupleGo_zip (s:={s with heap:=h' }) hz' λh'' hz'' hs''=>?_⟩
  have lt:∀b∈[z,TI,TO,i1,i2],b<s.heap.objs.size:=λb hb=>by
   simp only[Ue,VN,or_false]at hb;rcases hb with rfl|rfl|rfl|rfl|rfl
   . exact TZ hz
   . exact TZ hTI
   . exact TZ hTO
   . exact TZ e1
   . exact TZ e2
  have I1:O7 X gV σ (OZ H s.heap.objs.size (.tup [x,y])) {s with heap:=s.heap.push {cls:=.type "tuple",data:=.seq #[u,u2] },toks:=s.toks} :=
   I.laid (λb ob q=>TN _ q) (Ud _) ⟨by show 2<=sizeLine;decide,[u,u2],.cons ru (.cons ru2 .nil),⟨_,Up _ rfl,rfl,_,rfl⟩⟩
  have hf1:∀b∈[z,TI,TO,i1,i2],BN X gV (OZ H s.heap.objs.size (.tup [x,y])) b:=λb hb=>by refine⟨?_,(hf b hb).2⟩;rw[aB (Ut (lt b hb))];exact(hf b hb).1
  have I2:=I1.turnedL (h':=h'') (t':=s.toks) (fp:=[z,TI,TO,i1,i2]) (λb o hb e=>by
   simp only[Ue,VN,or_false,not_or]at hb;obtain⟨hbz,hbTI,hbTO,hb1,hb2⟩:=hb;refine(hs''.2 b hbz).trans ?_;rcases Heap.get?_push_cases e with⟨rfl,rfl⟩|e
   . exact hT'
   .
    exact hk b o hbz hbTO hb1 hb2 e) hf1
  exact⟨.ref s.heap.objs.size,_,I2,rfl,⟨_,x,y,rfl,I.fresh,rfl,λzs hy'=>by rw[I.list_inj hy' hq1];exact hx,λzs hy'=>by rw[I.list_inj hy' hq2];exact hy⟩,
   ⟨hz'',hs''.extBut _ _ D.TIz (hk _ _ D.TIz D.TITO D.TIi1 D.TIi2 hTI),⟨_,_,hs''.extBut _ _ D.TOz hTO'⟩,h1'.extBut hs''.extBut D.i1z,h2'.extBut hs''.extBut D.i2z⟩,λb hb=>(hf1 b hb).1⟩
 done:=by
  intro X hP hw hK hc i gV s σ H E I hf st hg;subst hP hw hK;obtain⟨xs,ys,hq1,hq2,hend⟩:=hg;obtain⟨its,rv,pl,_⟩:=I.list hq1;obtain⟨its2,rv2,pl2,_⟩:=I.list hq2;obtain⟨hz,hTI,⟨p,q,hTO⟩,h1,h2⟩:=st;obtain⟨o1,e1,c1,d1⟩:=id h1;obtain⟨o2,e2,c2,d2⟩:=id h2;have n1:o1.cls≠.type "list":=by rw[c1]; simp
  have n2:o2.cls≠.type "list":=by rw[c2]; simp
  simp only[Uz,Ue,VN,or_false,not_or,Wb,and_true,not_false_eq_true]at hnd;obtain⟨⟨a1,a2,a3,a4⟩,⟨b1,b2,b3⟩,⟨c1',c2'⟩,d1'⟩:=hnd
  have D:ZipApart z TI TO i1 i2 l1 l2:=⟨U3 a1,U3 a2,U3 a3,U3 a4,b1,b2,b3,c1',c2',d1',cX pl.isList hz v6,cX pl.isList hTO v6,cX pl.isList e1 n1,cX pl.isList e2 n2,
   cX pl2.isList hz v6,cX pl2.isList hTO v6,cX pl2.isList e1 n1,cX pl2.isList e2 n2⟩
  have hl:=rv.length;have hl2:=rv2.length
  have hend':its.toArray[i]?=none∨its2.toArray[i]?=none:=by
   rcases hend with h|h
   . exact .inl (by simp;omega)
   . exact .inr (by simp;omega)
  refine wpAny_pyNext_zip_end (I.ok.hd hc) D hz hTI hTO h1 h2 pl.isList pl2.isList hend' λh' hk=>⟨rfl,?_⟩;exact I.turnedL (t':=s.toks) (fp:=[z,TI,TO,i1,i2]) (λb o hb e=>hk b o (λz=>hb (by simp[z])) (λz=>hb (by simp[z])) (λz=>hb (by simp[z])) (λz=>hb (by simp[z])) e) hf
 self:=λ_ _ _ _ _ st h=>wpAny_pyIter_zip st.1 h
noncomputable def Eo(xs ys:List D):List D:=(xs.zip ys).map λp=>.tup [p.1,p.2]
theorem Cy{K:PySem.W.Frag}{H:Hp}{a b:Addr}{vs ws:List V}{xs ys:List D}(h:PY K H a vs)(r:bU K H vs xs)(h2:PY K H b ws)(r2:bU K H ws ys):AY K H (Qt K a b) (Eo xs ys):=λH' p=>by
 have h':=(h.pres p).l;have h2':=(h2.pres p).l;have p4:(Eo xs ys).length=min vs.length ws.length:=by rw[r.length,r2.length];simp[Eo]
 refine⟨λi x e=>?_,⟨vs,ws,h',h2',by rw[p4];omega⟩⟩;have hi:i<min vs.length ws.length:=by rw[<- p4];exact(TR.mp e).1
 have hi2:i<xs.length:=by rw[<- r.length];omega
 have hi3:i<ys.length:=by rw[<- r2.length];omega
 have ex:x=.tup [xs[i],ys[i]]:=by
  have:(Eo xs ys)[i]?=some (.tup [xs[i],ys[i]]):=by simp[Eo,hi2,hi3,List.getElem?_zip_eq_some]
  rw[this]at e;exact(Uq e).symm
 obtain⟨v,ev,rv⟩:=r.get (i:=i) (TM hi2);obtain⟨v2,ev2,rv2⟩:=r2.get (i:=i) (TM hi3);refine⟨⟨vs,ws,v,v2,h',h2',ev,ev2⟩,λw H2 ⟨q,y,y2,e1,e2,e3,e4,e5⟩=>?_⟩;have e6:=e4 vs h';have e7:=e5 ws h2';rw[ev]at e6;rw[ev2]at e7;cases e6;cases e7;subst e1 e3 ex;refine⟨.inr ⟨_,_,e2,rfl⟩,.tup (.inl (.inl (a6 ..))) (.cons ((rv.pres p).new e2) (.cons ((rv2.pres p).new e2) .nil))⟩
def Kn(d d2:D)(k:List D->Prop):Prop:=match d,d2 with
 |.lst xs,.lst ys=>k (Eo xs ys)
 |_,_=>False
def MJ(t u:W L):W (List D):=λZ so=>t Z λr Z1=>P2 r λd=>u Z1 λr2 Z2=>P2 r2 λd2=>Kn d d2 λzs=>so zs Z2
theorem Cz{k:Nat}{t u:W L} (hg:Gl X "zip") (hm:X.mg "zip"=none) (ha:PL X a t) (hb:PL X b u) (hs:starEach [a,b] X.env=[(false,eval a X.env),(false,eval b X.env)]:=by rfl) (hs2:starEach [b] X.env=[(false,eval b X.env)]:=by rfl) :
  Qe X (.Tuple es k apos) (.Call (.Name "zip" p) [a,b] [] pos) (MJ t u):=by
 intro gV s σ H Pr Z so I E h
 refine Call_ (ly I hg hm boot_zip (Vt (O9 (ae (ay ha) (ae (ay hb) ag hs2) (by rw[hs,hs2]) pos gV s σ H Pr Z (λls Z1=>match ls with
  |[.d d,.d d2]=>Kn d d2 λzs=>so zs Z1
  |_=>False) I E ?_) λus s1 ⟨vs,H1,ls,Z1,I1,r1,hl,hb,E1,_,q1⟩=>?_) (by rw[hs,hs2]) (by rw[hs2];rfl)))
 .
  show t Z _
  have e:(λr Z1=>P2 r λd=>u Z1 λr2 Z2=>P2 r2 λd2=>Kn d d2 λzs=>so zs Z2)
    = (λr Z1=>P2 r λx=>ar (bp u) aF Z1 λxs Z2=>match L.d x::xs with | [.d d,.d d2]=>Kn d d2 λzs=>so zs Z2|_=>False):=by
   funext r Z1
   cases r with
   |un=>rfl
   |d d=>rfl
   |own a xs=>rfl
   | bx b ls =>
    show d9 (bL (.bx b ls)) _=d9 (bL (.bx b ls)) _;cases bL (.bx b ls)<;>rfl
   |dic b ls=>rfl
  rw[<- e];exact h
 .
  dsimp only at q1;split at q1
  .
   rename_i d d2;unfold Kn at q1;split at q1
   rotate_left
   . exact q1.elim
   rename_i xs ys
   match vs,hl with
   | [v,v2],_ =>
    obtain⟨_,e1,p1⟩:=aD.head_d (σ:=some v2::σ) (Z:=.d (.lst ys)::Z1) E1;cases e1;obtain⟨_,e1,p2⟩:=aD.head_d (σ:=σ) (Z:=Z1) (aD.tail (σ:=some v2::σ) (Z:=.d (.lst ys)::Z1) E1);cases e1
    cases p1 with
    | lst hz rs =>
     cases p2 with
     | lst hz2 rs2 =>
      obtain⟨u1,u2,rfl,ru,ru2⟩:=r1.two;cases ru;cases ru2;obtain⟨its,rv,pl,_⟩:=I1.list hz.l;obtain⟨its2,rv2,pl2,_⟩:=I1.list hz2.l;refine call_zip_2 pl.isList pl2.isList λh' hZ hTI hTO hI1 hI2 hsz hk=>?_;refine wpAny_pyIter_zip (s:={s1 with heap:=h' }) hZ ?_;have E1':aD X.K Pr H1 (some _::some _::σ) (.d _::.d _::Z1):=E1;have E2:aD X.K Pr H1 σ Z1:=E1'.tail.tail;refine⟨s1.heap.objs.size+4,[s1.heap.objs.size+4,s1.heap.objs.size+2,s1.heap.objs.size+3,s1.heap.objs.size,s1.heap.objs.size+1],_,_,H1,_,Z1,rfl,I1.kept (t':=s1.toks) hk,Fo _ _ _ _ _ _ _ v6,⟨hZ,hTI,⟨_,_,hTO⟩,hI1,hI2⟩,λb hb=>?_,E2,Cy hz rs hz2 rs2,q1⟩
      have hb':s1.heap.objs.size<=b:=by
       simp only[Ue,VN,or_false]at hb;rcases hb with rfl|rfl|rfl|rfl|rfl
       . exact VO _ _
       . exact VO _ _
       . exact VO _ _
       . exact Ud _
       . exact VO _ _
      exact I1.fpOk hb' (I1.hok.fresh hb')
  . exact q1.elim
end
section
variable{X:Cx}{es:List Expr}{pos:Pos}{x:Str}
def MK(X:Cx)(es:List Expr)(n:Nat)(is:List Nat):Prop:=∃gg:Pe,Pf X es gg/\es.length=is.length/\∀vs σ H Pr Z xs k,σ.length=X.N.length->aD X.K Pr H σ Z->bU X.K H vs xs->iO is xs Z k->gg vs σ H λσ' H'=>H'=H/\σ'.drop n=σ.drop n/\∃Z',aD X.K Pr H σ' Z'/\k Z'
theorem yr{n:Nat}:MK X [] n []:=⟨_,BM,rfl,λvs σ H Pr Z xs k hl E r h=>by
 cases r with
 |nil=>exact⟨rfl,rfl,rfl,Z,E,h⟩
 |cons _ _=>exact h.elim⟩
theorem kU{i n:Nat}{is:List Nat}{x:Str}(hn:i<n)(hN:X.N.Nodup)(hi:X.N[i]?=some x)(hx:O6 X.env.scope x)(hr:MK X es n is)(hf:X.fn x=true∨X.env.scope.names.lookup x=some .local:=by first|exact .inl rfl|exact .inr rfl|assumption)
  (hs:(assignEach (.Name x pos::es) X.env).map (·.2)=assign (.Name x pos) X.env::(assignEach es X.env).map (·.2):=by rfl):MK X (.Name x pos::es) n (i::is):=by
 obtain⟨gg,hg,p4,q⟩:=hr;refine⟨_,zy (uB hN hi hx hf) hg hs,by simp[p4],λvs σ H Pr Z xs k hl E r h=>?_⟩
 cases r with
 |nil=>exact h.elim
 | cons r0 t =>
  refine⟨_,_,rfl,?_⟩;have:=q _ (σ.set i (some _)) H Pr _ _ k (by simpa using hl) ((E.cons_d r0).store (by rw[hl];exact(TR.mp hi).1)) t h;rw[List.drop_set_of_lt hn]at this;exact this
theorem CA{is:List Nat}{k n:Nat}(hc:X.calm=true)(h:MK X es n is)(hn:(assignEach es X.env).length=is.length:=by rfl)(hst:(assignEach es X.env).findIdx? (·.1)=none:=by rfl):Qk X (.Tuple es k pos) n (ff is):=by
 obtain⟨gg,hg,p4,q⟩:=h;refine⟨_,GX hc hg hn hst,λv σ H Pr Z x k hl E r h=>?_⟩
 cases r with
 |tup hs rs=>exact⟨_,_,rfl,hs,by rw[rs.length];exact me h,q _ σ H Pr Z _ k hl E rs h⟩
 |_=>exact h.elim
end
end L2
namespace L2
open PySem PySem.Spec PyProof.Rows
mutual
noncomputable def Qu:D->Bool
 |.lst _=>false
 |.dct _=>false
 |.exc _ _ _=>false
 |.fn _ _=>false
 |.tup xs=>uM xs
 |_=>true
noncomputable def uM:List D->Bool
 |[]=>true
 |x::xs=>Qu x && uM xs
end
mutual
noncomputable def lB:L->Bool
 |.un=>true
 |.d x=>Qu x
 |.own _ xs=>uM xs
 |.bx _ ls=>rh ls
 |.dic _ kvs=>kvs.all λp=>Qu p.2
noncomputable def rh:List L->Bool
 |[]=>true
 |l::ls=>lB l && rh ls
end
theorem yt:lB .un=true:=by simp[lB]
theorem Lg(x:D):lB (.d x)=Qu x:=by simp[lB]
theorem Fp(a:Addr)(xs:List D):lB (.own a xs)=uM xs:=by simp[lB]
theorem IQ(a:Option Addr)(ls:List L):lB (.bx a ls)=rh ls:=by simp[lB]
theorem Fq(a:Addr)(kvs:List (OY×D)):lB (.dic a kvs)=kvs.all λp=>Qu p.2:=by simp[lB]
theorem CB:rh []=true:=by simp[rh]
theorem Bb(l:L)(ls:List L):rh (l::ls)=(lB l && rh ls):=by simp[rh]
section
variable{X:Cx}{gV:List (Addr×Obj)}{σ:St}{H:Hp}{s:Shared}
theorem O7.thaw{a:Addr}{o:Obj}{xs:List V}(I:O7 X gV σ H s)(h:H a=some (.frz o (.lst xs)))(h0:∀o u,X.H₀ a≠some (.frz o u)):O7 X gV σ (OZ H a (.lst xs)) s:=by
 have ne:∀b,H b=none->b≠a:=λb n e=>by subst e;rw[h]at n;cases n
 have nt:∀b xs,H b=some (.tup xs)->b≠a:=λb xs n e=>by subst e;rw[h]at n;cases n
 have no:∀b z,H b=some (.own z)->b≠a:=λb z n e=>by subst e;rw[h]at n;cases n
 have nf:∀b o,H b=some (.frz o (.own b))->b≠a:=λb o n e=>by subst e;rw[h]at n;cases n
 have nw:=(I.hok a _ h).2;refine⟨I.ok,I.os,I.bare,⟨I.base.keep,I.base.slot,λb ob e n hx=>?_,I.base.there,λb xs e=>?_,λb ob z e=>?_,λb ps e=>?_⟩,I.loc,I.cell,?_,λx c e=>?_,λp hp=>?_,λb z e=>?_,I.len⟩
 . have q:=I.base.free b ob e n hx;rw[aB (ne b q)];exact q
 . have q:=I.base.tups b xs e;rw[aB (nt b xs q)];exact q
 . have q:=I.base.frzs b ob z e;rw[aB (λy=>by subst y;exact h0 _ _ e)];exact q
 . have q:=I.base.tbls b ps e;rw[aB (λz=>by subst z;rw[h]at q;cases q)];exact q
 . rw[aB (ne _ I.free)];exact I.free
 .
  rcases I.freeC x c e with z|⟨hf,o,z⟩
  . exact .inl (by rw[aB (ne _ z)];exact z)
  . exact .inr ⟨hf,o,by rw[aB (nf _ _ z)];exact z⟩
 . obtain⟨e,n,r⟩:=I.pin p hp;exact⟨e,by rw[aB (ne _ n)];exact n,r⟩
 .
  by_cases hb:b=a
  . subst hb;rw[a6]at e;cases e;exact nw.stay (λc v _ q=>q) (λc q=>by rw[aB (no c _ q)];exact q) (λc xs q=>by rw[aB (nt c xs q)];exact q) λc ob _ _ q=>by rw[aB (nf c ob q)];exact q
  . rw[aB hb]at e;exact(I.hok b z e).stay (λc v _ q=>q) (λc q=>by rw[aB (no c _ q)];exact q) (λc xs q=>by rw[aB (nt c xs q)];exact q) λc ob _ _ q=>by rw[aB (nf c ob q)];exact q
end
def lC(H' H2:Hp)(S:List Addr):Prop:=(∀b,b∉S->H2 b=H' b)/\(∀a∈S,∃o vs,H' a=some (.frz o (.lst vs))/\H2 a=some (.lst vs))
theorem CC{X:Cx}{gV:List (Addr×Obj)}{σ:St}{s:Shared}:∀(S:List Addr){H:Hp},S.Nodup->O7 X gV σ H s->(∀a∈S,∃o vs,H a=some (.frz o (.lst vs)))->(∀a∈S,∀o u,X.H₀ a≠some (.frz o u))->∃H2,O7 X gV σ H2 s/\lC H H2 S
 |[],H,_,I,_,_=>⟨H,I,λ_ _=>rfl,λ_ h=>by simp at h⟩
 | a::S,H,nd,I,h,h0=>by
  obtain⟨na,nd⟩:=Uz.mp nd;obtain⟨o,vs,ea⟩:=h a TQ;have I1:=I.thaw ea (h0 a TQ)
  obtain⟨H2,I2,T1,T2⟩:=CC S nd I1 (λb hb=>by
   obtain⟨o,us,e⟩:=h b (TL _ hb)
   exact⟨o,us,by rw[aB (λz:b=a=>na (by rw[<- z];exact hb))];exact e⟩) λb hb=>h0 b (TL _ hb)
  refine⟨H2,I2,λb hb=>?_,λb hb=>?_⟩
  . rw[T1 b (λz=>hb (TL _ z)),aB (λz:b=a=>hb (by rw[z];exact TQ))]
  .
   rcases Ue.mp hb with rfl|hb
   . exact⟨o,vs,ea,by rw[T1 b na,a6]⟩
   . obtain⟨o',us,e1,e2⟩:=T2 b hb;rw[aB (λz:b=a=>na (by rw[<- z];exact hb))]at e1;exact⟨o',us,e1,e2⟩
section
variable{K:PySem.W.Frag}{H' H2:Hp}{S:List Addr}
mutual
theorem PZ.thaw(T:lC H' H2 S):∀{v:V}{d:D},Qu d=true->PZ K H' v d->PZ K H2 v d
 |_,_,_,.non=>.non
 |_,_,_,.bl b=>.bl b
 |_,_,_,.int i=>.int i
 |_,_,_,.str x=>.str x
 | _,_,h,.tup hs r=>by
  refine .tup ?_ (bU.thaw T (by simpa[Qu]using h) r)
  rcases hs with(e|⟨u,e⟩)|e
  .
   exact .inl (.inl (by rw[T.1 _ λz=>by obtain⟨o,vs,e1,_⟩:=T.2 _ z;rw[e1]at e;cases e];exact e))
  .
   exact .inl (.inr ⟨u,by rw[T.1 _ λz=>by obtain⟨o,vs,e1,_⟩:=T.2 _ z;rw[e1]at e;cases e];exact e⟩)
  .
   exact .inr e
 |_,_,h,.lst hs r=>by simp[Qu]at h
 |_,_,h,.dct e=>by simp[Qu]at h
 |_,_,h,.exc _ _ _ _ _ _ _ _=>by simp[Qu]at h
 |_,_,h,.fn _ _ _ _ _ _ _ _ _=>by simp[Qu]at h
theorem bU.thaw(T:lC H' H2 S):∀{vs:List V}{ds:List D},uM ds=true->bU K H' vs ds->bU K H2 vs ds
 |_,_,_,.nil=>.nil
 | _,_,h,.cons r t=>by
  simp only[uM,Uc]at h
  exact .cons (PZ.thaw T h.1 r) (bU.thaw T h.2 t)
end
theorem lC.lst(T:lC H' H2 S){a:Addr}{vs:List V}(h:H' a=some (.lst vs)):a∉S/\H2 a=some (.lst vs):=by
 have n:a∉S:=λz=>by obtain⟨o,us,e,_⟩:=T.2 a z;rw[h]at e;cases e
 exact⟨n,(T.1 a n).trans h⟩
theorem lC.tup(T:lC H' H2 S){a:Addr}{vs:List V}(h:Pd K H' a vs):Pd K H2 a vs:=by
 rcases h with(e|⟨u,e⟩)|e
 . exact .inl (.inl (by rw[T.1 _ λz=>by obtain⟨o,vs,e1,_⟩:=T.2 _ z;rw[e1]at e;cases e];exact e))
 . exact .inl (.inr ⟨u,by rw[T.1 _ λz=>by obtain⟨o,vs,e1,_⟩:=T.2 _ z;rw[e1]at e;cases e];exact e⟩)
 . exact .inr e
mutual
theorem ba.thaw(T:lC H' H2 S):∀{s:Option V}(l:L),lB l=true->ba K H' s l->ba K H2 s l
 |_,.un,_,_=>by unfold ba;exact True.intro
 | _,.d x,h,q=>by
  unfold ba at q ⊢
  obtain⟨v,e,r⟩:=q
  exact⟨v,e,r.thaw T (by simpa[lB]using h)⟩
 | _,.own a xs,h,q=>by
  unfold ba at q ⊢
  obtain⟨e,vs,ha,r⟩:=q
  exact⟨e,vs,(T.lst ha).2,r.thaw T (by simpa[lB]using h)⟩
 | _,.bx none ls,h,q=>by
  unfold ba at q ⊢
  obtain⟨a,vs,e,ha,r⟩:=q
  exact⟨a,vs,e,T.tup ha,cj.thaw T ls (by simpa[lB]using h) r⟩
 | _,.bx (some a) ls,h,q=>by
  unfold ba at q ⊢
  obtain⟨e,vs,ha,r⟩:=q
  exact⟨e,vs,(T.lst ha).2,cj.thaw T ls (by simpa[lB]using h) r⟩
 | _,.dic a kvs,h,q=>by
  unfold ba at q ⊢
  obtain⟨e,vs,ha,r⟩:=q
  have h':∀p∈kvs,Qu p.2=true:=by simpa[lB]using h
  refine⟨e,vs,?_,Paired.impMem r λp hp q z=>⟨z.1,z.2.thaw T (h' p hp)⟩⟩
  rw[T.1 a λz=>by obtain⟨o,us,e1,_⟩:=T.2 _ z;rw[e1]at ha;cases ha]
  exact ha
theorem cj.thaw(T:lC H' H2 S):∀{vs:List V}(ls:List L),rh ls=true->cj K H' vs ls->cj K H2 vs ls
 |_,[],_,q=>by unfold cj at q ⊢;exact q
 | _,l::ls,h,q=>by
  unfold cj at q ⊢
  simp only[rh,Uc]at h
  obtain⟨v,us,e,h1,h2⟩:=q
  exact⟨v,us,e,ba.thaw T l h.1 h1,cj.thaw T ls h.2 h2⟩
end
end
noncomputable def tD:L->Bool
 |.d _=>true
 |l=>lB l
theorem Fs:tD .un=true:=by simp[tD,lB]
theorem IR(x:D):tD (.d x)=true:=rfl
theorem CD(a:Addr)(xs:List D):tD (.own a xs)=uM xs:=by simp[tD,lB]
theorem CF(a:Addr)(kvs:List (OY×D)):tD (.dic a kvs)=kvs.all λp=>Qu p.2:=by simp[tD,lB]
theorem Ft(a:Option Addr)(ls:List L):tD (.bx a ls)=rh ls:=by simp[tD,lB]
noncomputable def eu(i:Nat)(Z:Ev):Bool:=(Z.set i .un).all tD
theorem ue{K:PySem.W.Frag}{H0 H' H2:Hp}{S:List Addr}(T:lC H' H2 S)(p:vN H0 H2):∀{σ:St}{Z Z0:Ev},Z.length=Z0.length ->
  (∀(j:Nat)(l:L),Z[j]?=some l->lB l=true∨∃x,l=.d x/\Z0[j]?=some (.d x))->Paired (ba K H0) σ Z0->Paired (ba K H') σ Z->Paired (ba K H2) σ Z
 |[],[],_,_,_,_,_=>.nil
 | s::σ,l::Z,l0::Z0,hl,h,.cons q0 t0,.cons q t=>by
  refine .cons ?_ (ue T p (by simpa using hl) (λj l e=>h (j+1) l e) t0 t);rcases h 0 l rfl with hh|⟨x,rfl,e⟩
  . exact q.thaw T l hh
  .
   have e:l0=.d x:=by simpa using e
   subst e;exact q0.pres p (.d x) λa ha=>by simp[bc]at ha
 |[],_::_,_,_,_,_,t=>nomatch t
 |_::_,[],_,_,_,_,t=>nomatch t
mutual
theorem ba.lsts{K:PySem.W.Frag}{H:Hp}:∀{s:Option V}(l:L){x:D},ba K H s l->bL l=some x->∀a∈bc l,∃vs,H a=some (.lst vs)
 |_,.un,_,_,_,a,ha=>by simp[bc]at ha
 |_,.d x,_,_,_,a,ha=>by simp[bc]at ha
 |_,.dic _ _,_,_,h,_,_=>by simp[bL]at h
 | _,.own b xs,_,h,_,a,ha=>by
  simp only[ba]at h
  have e:a=b:=by simpa[bc]using ha
  subst e
  obtain⟨_,vs,q,_⟩:=h
  exact⟨_,q⟩
 | _,.bx none ls,_,h,hx,a,ha=>by
  simp only[ba]at h
  simp only[bL,Option.map_eq_some_iff]at hx
  obtain⟨xs,hx,_⟩:=hx
  obtain⟨b,vs,e,_,r⟩:=h
  exact cj.lsts ls r hx a (by simpa[bc]using ha)
 | _,.bx (some b) ls,_,h,hx,a,ha=>by
  simp only[ba]at h
  simp only[bL,Option.map_eq_some_iff]at hx
  obtain⟨xs,hx,_⟩:=hx
  obtain⟨e,vs,q,r⟩:=h
  rcases(by simpa[bc]using ha:a=b∨a∈eZ ls)with z|z
  .
   subst z;exact⟨_,q⟩
  .
   exact cj.lsts ls r hx a z
theorem cj.lsts{K:PySem.W.Frag}{H:Hp}:∀{vs:List V}(ls:List L){xs:List D},cj K H vs ls->cD ls=some xs->∀a∈eZ ls,∃vs,H a=some (.lst vs)
 |_,[],_,_,_,a,ha=>by simp[eZ]at ha
 | _,l::ls,_,h,hx,a,ha=>by
  simp only[cj]at h
  obtain⟨v,us,e,h1,h2⟩:=h
  simp only[cD]at hx
  split at hx
  .
   rename_i x1 xs1 e1 e2
   rcases(by simpa[eZ]using ha:a∈bc l∨a∈eZ ls)with z|z
   .
    exact ba.lsts l h1 e1 a z
   .
    exact cj.lsts ls h2 e2 a z
  .
   cases hx
end
theorem CG{X:Cx}{gV:List (Addr×Obj)}{σ0:St}{s s1:Shared}{Pr H H1 H':Hp}{σ τ:St}{Z lam:Ev}{i:Nat}{k:L}{x:D}{v:Option V}(I:O7 X gV σ0 H s)(E:aD X.K Pr H σ Z)(hi:Z[i]?=some k)(hSa:∀a∈bc k,∃vs,H a=some (.lst vs))(F:pP H H1 (bc k))(hfl:eu i Z=true)
  (I':O7 X gV σ0 H' s1) (E1:aD X.K Pr H1 σ (Z.set i (.d x))) (E':aD X.K (bG H1 (Z.set i (.d x))) H' (τ++σ) (lam++Z.set i (.d x))) (p4:τ.length=lam.length) (hr:lam.all lB=true):∃H2,O7 X gV σ0 H2 s1/\aD X.K Pr H2 (τ++σ) (lam++Z):=by
 have hil:i<Z.length:=(TR.mp hi).1;have prm:=iu hi (l:=.d x) rfl;have hnd:(bc k++owns (Z.set i (.d x))).Nodup:=prm.nodup_iff.mp E.nd;obtain⟨nd1,nd2,nd3⟩:=UC.mp hnd;have hna:∀a∈bc k,a∉owns (Z.set i (.d x)):=λa ha z=>nd3 a ha a z rfl;have hb:∀b u,H1 b=some u->b∉owns (Z.set i (.d x))->H' b=some u:=λb u e hno=>by refine E'.sub b u ?_;unfold bG;rw[if_neg hno];exact e
 have hS:∀a∈bc k,∃o vs,H' a=some (.frz o (.lst vs)):=λa ha=>by obtain⟨vs,e⟩:=hSa a ha;obtain⟨o,eo⟩:=F.2.2 a ha vs e;exact⟨o,vs,hb a _ eo (hna a ha)⟩
 obtain⟨H2,I2,T⟩:=CC (bc k) nd1 I' hS λa ha o u e=>by have z:=I.base.frzs a o u e;obtain⟨vs,q⟩:=hSa a ha;rw[q]at z;cases z
 have back:∀a∈bc k,H2 a=H a:=λa ha=>by obtain⟨vs,e⟩:=hSa a ha;obtain⟨o,eo⟩:=F.2.2 a ha vs e;obtain⟨o',vs',e1,e2⟩:=T.2 a ha;rw[hb a _ eo (hna a ha)]at e1;cases e1;rw[e2,e]
 have P:vN H H2:=λb u hp e=>by
  have hno:b∉owns Z:=λz=>by obtain⟨ws,hz,mu⟩:=E.at_own z;rw[hz]at e;cases e;exact mu.no hp
  have hnk:b∉bc k:=λz=>hno (prm.mem_iff.mpr (Uj _ z));rw[T.1 b hnk];exact hb b u (F.1 b u hp e) λz=>hno (prm.mem_iff.mpr (Um _ z))
 obtain⟨sl1,sl2⟩:=Paired.unapp p4 E'.sl;have ndE:=E'.nd;rw[aH]at ndE;obtain⟨ne1,ne2,ne3⟩:=UC.mp ndE
 have lamS:∀a∈owns lam,a∉bc k/\Pr a=none/\a∉owns (Z.set i (.d x)):=λa ha=>by
  obtain⟨vs,e,mu⟩:=E'.at_own (a:=a) (by rw[aH];exact Uj _ ha);have h1:a∉bc k:=λz=>by obtain⟨o,us,e1,_⟩:=T.2 _ z;rw[e1]at e;cases e;exact mu
  have h3:a∉owns (Z.set i (.d x)):=λz=>ne3 a ha a z rfl;refine⟨h1,?_,h3⟩;have hoff:=E'.off a (by rw[aH];exact Uj _ ha);unfold bG at hoff;rw[if_neg h3]at hoff
  cases ep:Pr a with
  |none=>rfl
  |some w=>rw[E1.sub a w ep]at hoff;cases hoff
 have slt:Paired (ba X.K H2) σ (Z.set i .un):=by
  have q:Paired (ba X.K H') σ (Z.set i .un):=by have:=(Paired.set_r (b:=L.un) i sl2 λ_ _=>by unfold ba;exact True.intro);rwa [VH]at this
  refine ue T P (Z0:=Z) v6 (λj l e=>?_) E.sl q;by_cases hj:j=i
  . subst hj;rw[UL hil]at e;cases e;exact .inl yt
  .
   have h1:=UW.mp hfl l (List.mem_of_getElem? (i:=j) e);rw[UN (U3 hj)]at e
   cases l with
   |un=>exact .inl yt
   |d y=>exact .inr ⟨y,rfl,e⟩
   |own b ys=>exact .inl h1
   |bx b ls=>exact .inl h1
   |dic b ls=>exact .inl h1
 have slr:Paired (ba X.K H2) τ lam:=Paired.impMem sl1 λl hl s q=>q.thaw T l (UW.mp hr l hl);refine⟨H2,I2,λb u e=>?_,?_,λb hbm=>?_,Paired.app slr ?_⟩
 .
  have hno:b∉owns Z:=λz=>by have:=E.off b z;rw[e]at this;cases this
  have hnk:b∉bc k:=λz=>hno (prm.mem_iff.mpr (Uj _ z));rw[T.1 b hnk];refine hb b u ?_ λz=>hno (prm.mem_iff.mpr (Um _ z));rw[F.2.1 b hnk];exact E.sub b u e
 .
  rw[aH,UC];refine⟨ne1,E.nd,λc hc d hd z=>?_⟩;subst z;obtain⟨h1,h2,h3⟩:=lamS c hc;rcases Uw.mp (prm.mem_iff.mp hd)with z|z
  . exact h1 z
  . exact h3 z
 .
  rw[aH]at hbm;rcases Uw.mp hbm with z|z
  . exact(lamS b z).2.1
  . exact E.off b z
 .
  obtain⟨sv,hs,q⟩:=E.slot hi;have:=Paired.set_r (b:=k) i slt λs es=>by rw[hs]at es;cases es;exact q.pres P k back
  rw[VH]at this
  have e2:Z.set i k=Z:=by
   refine List.ext_getElem? λj=>?_;by_cases hj:j=i
   . subst hj;rw[UL hil,hi]
   . rw[UN (U3 hj)]
  rwa [e2]at this
def Qv(o:Option L)(i:Nat)(t:W L)(Z:Ev)(so:L->Ev->Prop):Prop:=match o with
 |some (.own _ xs)=>eu i Z=true/\t (Z.set i (.d (.lst xs))) λr Z'=>lB r=true/\Z'=Z.set i (.d (.lst xs))/\so r Z
 |some (.bx b ls)=>eu i Z=true/\BB b ls λx=>t (Z.set i (.d x)) λr Z'=>lB r=true/\Z'=Z.set i (.d x)/\so r Z
 |_=>t Z so
def Fu(i:Nat)(t:W L):W L:=λZ so=>Qv Z[i]? i t Z so
theorem IS(a:Addr)(xs:List D)(i:Nat)(t:W L)(Z:Ev)(so:L->Ev->Prop):Qv (some (.own a xs)) i t Z so=(eu i Z=true/\t (Z.set i (.d (.lst xs))) λr Z'=>lB r=true/\Z'=Z.set i (.d (.lst xs))/\so r Z):=(rfl)
theorem Lh(b:Option Addr)(ls:List L)(i:Nat)(t:W L)(Z:Ev)(so:L->Ev->Prop):Qv (some (.bx b ls)) i t Z so=(eu i Z=true/\BB b ls λx=>t (Z.set i (.d x)) λr Z'=>lB r=true/\Z'=Z.set i (.d x)/\so r Z):=(rfl)
theorem Nc(x:D)(i:Nat)(t:W L)(Z:Ev)(so:L->Ev->Prop):Qv (some (.d x)) i t Z so=t Z so:=(rfl)
theorem IT{X:Cx}{gV:List (Addr×Obj)}{s:Shared}{σ:St}{H Pr:Hp}{Z:Ev}{i:Nat}{k:L}{x:D}(I:O7 X gV σ H s)(E:aD X.K Pr H σ Z)(hi:Z[i]?=some k)(hx:bL k=some x):∃H1,O7 X gV σ H1 s/\aD X.K Pr H1 σ (Z.set i (.d x))/\pP H H1 (bc k)/\∀a∈bc k,∃vs,H a=some (.lst vs):=by obtain⟨sv,hs,sl⟩:=E.slot hi;obtain⟨H1,I1,E1,F⟩:=KS k I (E.outL hi hs) hx;have hil:i<Z.length:=(TR.mp hi).1;have E2:=E1.back (i:=i) (by rw[UL hil]) hs;rw[VH]at E2;exact⟨H1,I1,E2,F,sl.lsts k hx⟩
theorem IU{X:Cx}{e:Expr}(i:Nat){t:W L}(h:PL X e t):PL X e (Fu i t):=by
 intro gV s σ H Pr Z so I E hw;have go:∀(k:L)(x:D),Z[i]?=some k->bL k=some x->eu i Z=true->(t (Z.set i (.d x)) λr Z'=>lB r=true/\Z'=Z.set i (.d x)/\so r Z)->wpAny (model X.prog X.w) X.A (eval e X.env) (EL X gV σ Pr so) X.xe s:=by intro k x hi hx hfl hw;obtain⟨H1,I1,E1,F,Sa⟩:=IT I E hi hx;refine O9 (h gV s σ _ _ _ _ I1 E1.wide hw) λu s1 ⟨v,H',r,Z',I',rv,E',hr,eρ,hp⟩=>?_;subst eρ;obtain⟨H2,I2,E2⟩:=CG (τ:=[some v]) (lam:=[r]) (v:=some v) I E hi Sa F hfl I' E1 E' rfl (by simpa using hr);exact⟨v,H2,r,Z,I2,rv,E2,hp⟩
 unfold Fu Qv at hw;split at hw
 . rename_i a xs hi;exact go _ _ hi rfl hw.1 hw.2
 . rename_i b ls hi;obtain⟨x,hx,hw'⟩:=yh hw.2;exact go _ _ hi hx hw.1 hw'
 . exact h gV s σ H Pr Z so I E hw
def Qw(o:Option L)(i:Nat)(t:W Bool)(Z:Ev)(so:Bool->Ev->Prop):Prop:=match o with
 |some (.own _ xs)=>eu i Z=true/\t (Z.set i (.d (.lst xs))) λr Z'=>Z'=Z.set i (.d (.lst xs))/\so r Z
 |some (.bx b ls)=>eu i Z=true/\BB b ls λx=>t (Z.set i (.d x)) λr Z'=>Z'=Z.set i (.d x)/\so r Z
 |_=>t Z so
theorem IV(a:Addr)(xs:List D)(i:Nat)(t:W Bool)(Z:Ev)(so:Bool->Ev->Prop):Qw (some (.own a xs)) i t Z so=(eu i Z=true/\t (Z.set i (.d (.lst xs))) λr Z'=>Z'=Z.set i (.d (.lst xs))/\so r Z):=(rfl)
theorem Li(b:Option Addr)(ls:List L)(i:Nat)(t:W Bool)(Z:Ev)(so:Bool->Ev->Prop):Qw (some (.bx b ls)) i t Z so=(eu i Z=true/\BB b ls λx=>t (Z.set i (.d x)) λr Z'=>Z'=Z.set i (.d x)/\so r Z):=(rfl)
theorem Nd(x:D)(i:Nat)(t:W Bool)(Z:Ev)(so:Bool->Ev->Prop):Qw (some (.d x)) i t Z so=t Z so:=(rfl)
variable{X:Cx}
variable{X:Cx}
theorem zT:∀{ns:List Int}{us:List Value},cn (ns.map V.int) us->IntsAre us ns
 |[],_,r=>by cases r;exact .nil
 | n::ns,_,r=>by
  cases r with
  | cons r0 rs =>
   obtain⟨t,rfl⟩:=r0;exact .cons n t (zT rs)
theorem pR{K:PySem.W.Frag}{H:Hp}:∀{vs:List V}{ns:List Int},bU K H vs (ns.map D.int)->vs=ns.map V.int
 |_,[],r=>by cases r;rfl
 | _,n::ns,r=>by
  cases r with
  | cons r0 rs =>
   cases r0;rw[pR rs];rfl
variable{X:Cx}
section
variable{X:Cx}{e a b c:Expr}{es:List Expr}{pos p p2:Pos}{ta:W L}{x y:Str}
def pS:List (P4×W L)->D->W L
 |[],_=>λ_ _=>False
 |[(o,t)],dx=>λZ so=>t Z λy Z1=>P2 y λdy=>o dx dy λr=>AX r λk=>so (.d (.bl k)) Z1
 |(o,t)::q::r,dx=>λZ so=>t Z λy Z1=>P2 y λdy=>o dx dy λz=>AX z λk=>if k=true then pS (q::r) dy Z1 so else so (.d (.bl false)) Z1
def uN(ta:W L)(ls:List (P4×W L)):W L:=λZ so=>ta Z λx Z1=>P2 x λdx=>pS ls dx Z1 so
inductive rj (X:Cx):List CmpOp->List Expr->List (P4×W L)->Prop where
 |one {op:CmpOp} {e:Expr} {o:P4} {t:W L} (ho:P5 X (compareOp op) o) (h:PL X e t):rj X [op] [e] [(o,t)]
 |cons {op:CmpOp} {e:Expr} {o:P4} {t:W L} {ops:List CmpOp} {es:List Expr} {ls:List (P4×W L)} (ho:P5 X (compareOp op) o) (h:PL X e t) (r:rj X ops es ls):rj X (op::ops) (e::es) ((o,t)::ls)
theorem uO{op:CmpOp}{o:P4}{gV:List (Addr×Obj)}{s:Shared}{σ:St}{H Pr:Hp}{Z:Ev}{v:V}{u:Value}{dx:D}{R:Bool->D->Ev->Prop}{t:W L}{Q:Value->Value->Shared->Prop}(ho:P5 X (compareOp op) o)(h:PL X e t)
  (I:O7 X gV σ H s) (rv:cB v u) (E:aD X.K Pr H (some v::σ) (.d dx::Z)) (ht:t Z λy Z1=>P2 y λdy=>o dx dy λr=>AX r λk=>R k dy Z1)
  (hQ:∀u2 s3 w2 dy H3 Z1 k,O7 X gV σ H3 s3->cB w2 u2->aD X.K Pr H3 (some w2::σ) (.d dy::Z1)->R k dy Z1->Q u2 (.bool k) s3) :
  wpAny (model X.prog X.w) X.A (eval e X.env) (λb s₁=>wpAny (model X.prog X.w) X.A (compareOp op u b) (λc s₂=>Q b c s₂) X.xe s₁) X.xe s:=by
 refine O9 (h gV s σ H _ Z _ I E.tail.wide ht) λu2 s2 q=>?_;obtain⟨y,H2,dy,Z2,I2,r2,E2,q2⟩:=EL.frz (so:=λdy Z1=>o dx dy λr=>AX r λk=>R k dy Z1) q;have E3:aD X.K Pr H2 (some y::some v::σ) (.d dy::.d dx::Z2):=aD.step (τ:=[some v]) (lam:=[.d dx]) (w:=[some y]) (μ:=[.d dy]) E rfl E2 rfl;obtain⟨_,e1,p1⟩:=E3.head_d;obtain⟨_,e2,p2⟩:=E3.tail.head_d;cases e1;cases e2;have E4:aD X.K Pr H2 σ Z2:=E3.tail.tail;have E5:aD X.K Pr H2 (some y::σ) (.d dy::Z2):=E4.cons_d p1;have E5w:=E5;refine O9 (ho gV s2 σ H2 (bG H2 Z2) Z2 v y u u2 dx dy _ I2 rv r2 E4.wide p2 p1 q2) λw s3 ⟨z,H3,r,I3,rz,E6,pp⟩=>?_;obtain⟨k,rfl,pp⟩:=uG pp;obtain⟨_,e3,p3⟩:=E6.head_d;cases e3;cases p3;cases rz;have P3:vN H2 H3:=uF E4 E6.sub;have E7:aD X.K Pr H3 σ Z2:=E4.narrow E6.tail;exact hQ u2 s3 y dy H3 Z2 k I3 r2 (E7.cons_d (p1.pres P3)) pp
theorem Fv{ops:List CmpOp}{es:List Expr}{ls:List (P4×W L)}(h:rj X ops es ls):∀(gV:List (Addr×Obj))(s:Shared)(σ:St)(H Pr:Hp)(Z:Ev)(so:L->Ev->Prop)(v:V)(u:Value)(dx:D)(pos:Pos),O7 X gV σ H s->cB v u->aD X.K Pr H (some v::σ) (.d dx::Z)->pS ls dx Z so ->
  wpAny (model X.prog X.w) X.A (compareChain pos u ops (evalEach es X.env)) (EL X gV σ Pr so) X.xe s:=by
 induction h with
 | one ho h =>
  intro gV s σ H Pr Z so v u dx pos I rv E hl;refine chain_last ?_;exact uO (R:=λk _ Z1=>so (.d (.bl k)) Z1) (Q:=λ_ c s=>EL X gV σ Pr so c s) ho h I rv E hl λu2 s3 w2 dy H3 Z1 k I3 r3 E3 q=>⟨.bl k,H3,_,Z1,I3,rfl,E3.tail.cons_d (.bl k),q⟩
 | @cons op e o t ops es ls ho h r ih =>
  intro gV s σ H Pr Z so v u dx pos I rv E hl
  cases r with
  | one ho2 h2 =>
   refine chain_link (uO (R:=λk dy Z1=>if k=true then pS [_] dy Z1 so else so (.d (.bl false)) Z1) (Q:=λb c s=>wpAny (model X.prog X.w) X.A (truthy c) (λt s₃=>if t then _ else EL X gV σ Pr so c s₃) X.xe s) ho h I rv E hl λu2 s3 w2 dy H3 Z1 k I3 r3 E3 q=>?_)
   refine Vd ?_
   cases k with
   |false=>exact ite_ff ⟨.bl false,H3,_,Z1,I3,rfl,E3.tail.cons_d (.bl false),q⟩
   |true=>exact ite_tt (ih gV s3 σ H3 Pr Z1 so w2 u2 dy pos I3 r3 E3 q)
  | cons ho2 h2 r2 =>
   cases r2 with
   | one ho3 h3 =>
    refine chain_link (uO (R:=λk dy Z1=>if k=true then pS (_::_::_) dy Z1 so else so (.d (.bl false)) Z1) (Q:=λb c s=>wpAny (model X.prog X.w) X.A (truthy c) (λt s₃=>if t then _ else EL X gV σ Pr so c s₃) X.xe s) ho h I rv E hl λu2 s3 w2 dy H3 Z1 k I3 r3 E3 q=>?_)
    refine Vd ?_
    cases k with
    |false=>exact ite_ff ⟨.bl false,H3,_,Z1,I3,rfl,E3.tail.cons_d (.bl false),q⟩
    |true=>exact ite_tt (ih gV s3 σ H3 Pr Z1 so w2 u2 dy pos I3 r3 E3 q)
   | cons ho3 h3 r3 =>
    refine chain_link (uO (R:=λk dy Z1=>if k=true then pS (_::_::_) dy Z1 so else so (.d (.bl false)) Z1) (Q:=λb c s=>wpAny (model X.prog X.w) X.A (truthy c) (λt s₃=>if t then _ else EL X gV σ Pr so c s₃) X.xe s) ho h I rv E hl λu2 s3 w2 dy H3 Z1 k I3 r3 E3 q=>?_)
    refine Vd ?_
    cases k with
    |false=>exact ite_ff ⟨.bl false,H3,_,Z1,I3,rfl,E3.tail.cons_d (.bl false),q⟩
    |true=>exact ite_tt (ih gV s3 σ H3 Pr Z1 so w2 u2 dy pos I3 r3 E3 q)
theorem wH{op op':CmpOp}{ops:List CmpOp}{r1 r2:Expr}{rs:List Expr}{ls:List (P4×W L)}(ha:PL X a ta)(h:rj X (op::op'::ops) (r1::r2::rs) ls)(hm:lastMarks (op::op'::ops) (r1::r2::rs)=false:=by with_unfolding_all rfl):PL X (.Compare a (op::op'::ops) (r1::r2::rs) pos) (uN ta ls):=by intro gV s σ H Pr Z so I E ht;refine Compare_chain (O9 (ha gV s σ H Pr Z _ I E ht) λu s1 q=>?_) hm;obtain⟨v,H1,dx,Z1,I1,rv,E1,q1⟩:=EL.frz (so:=λdx Z1=>pS ls dx Z1 so) q;exact Fv h gV s1 σ H1 Pr Z1 so v u dx pos I1 rv E1 q1
theorem rk{prog:Program}{w:World}{A:Around}{ks:List Bool}{us:List Value}(h:us=ks.map Value.bool):TruthOf prog w A (λi v=>us.toArray[i]?=some v) (λi=>ks.getD i true):=λi v s Q E hv hQ=>by
 subst h;rw[List.getElem?_toArray,Ui]at hv
 cases q:ks[i]? with
 |none=>rw[q]at hv;cases hv
 | some k =>
  rw[q]at hv;cases hv;refine Vd ?_;have:ks.getD i true=k:=by rw[TX,q];rfl
  have hQ':Q (ks.getD i true) s:=hQ;rw[this]at hQ';exact hQ'
theorem CH(ks:List Bool):(List.range ks.length).all (λi=>ks.getD i true)=ks.all id:=by
 apply Bool.eq_iff_iff.mpr;simp only[UW,Uy,id];constructor
 . intro h x hx;obtain⟨i,hi,e⟩:=UJ hx;have:=h i hi;rw[TX,TM hi]at this;simpa[e]using this
 . intro h i hi;rw[TX,TM hi];exact h _ (TV hi)
theorem CI(ks:List Bool):(List.range ks.length).any (λi=>ks.getD i true)=ks.any id:=by
 apply Bool.eq_iff_iff.mpr;simp only[List.any_eq_true,Uy,id];constructor
 . rintro⟨i,hi,e⟩;rw[TX,TM hi]at e;exact⟨_,TV hi,e⟩
 . rintro⟨x,hx,e⟩;obtain⟨i,hi,e2⟩:=UJ hx;refine⟨i,hi,?_⟩;rw[TX,TM hi];simpa[e2]using e
theorem oS:∀{ks:List Bool}{us:List Value},cn (ks.map V.bl) us->us=ks.map Value.bool
 |[],_,.nil=>rfl
 | k::ks,_,.cons r t=>by have e:=oS t;subst e;cases r;rfl
theorem wJ(hc:X.calm=true):k9 X (.builtin "all") (λxs H Q=>∃(p:Addr)(ks:List Bool),xs=[.ref p]/\Pc X.K H p (ks.map V.bl)/\Q (.bl (ks.all id)) H):=by
 intro gV s σ H xs us Q I r ⟨p,ks,e,hq,q⟩;subst e;obtain⟨u,rfl,r1⟩:=vU r;cases r1;obtain⟨its,rv,pl,hz⟩:=I.list hq;have e:=oS rv;refine call_all_walk (wpAny_pyIter_list pl.isList ?_);have hne:p≠s.heap.objs.size:=λz=>by obtain⟨o,n,eo,_⟩:=pl;have:=TZ eo;rw[z]at this;exact absurd this (Vu _)
 refine⟨s.heap.objs.size,_,_,_,_,_,(λi=>ks.getD i true),rfl,Walks.list (A:=X.A.in1) (I.ok.hd hc) _ p hne its.toArray,⟨⟨_,Up _ rfl,rfl,rfl⟩,pl.isList.at λo eo=>TN _ eo⟩,rk e,λh' tk hk=>?_⟩;have hl:its.toArray.size=ks.length:=by rw[e];simp
 rw[hl,CH];refine⟨.bl _,H,I.kept (h':=h') (t':=tk) λb o eb=>hk b o (λhm=>?_) (TN _ eb),rfl,q⟩;have e2:b=s.heap.objs.size:=by simpa using hm
 have:=TZ eb;rw[e2]at this;exact absurd this (Vu _)
theorem wK(hc:X.calm=true):k9 X (.builtin "any") (λxs H Q=>∃(p:Addr)(ks:List Bool),xs=[.ref p]/\Pc X.K H p (ks.map V.bl)/\Q (.bl (ks.any id)) H):=by
 intro gV s σ H xs us Q I r ⟨p,ks,e,hq,q⟩;subst e;obtain⟨u,rfl,r1⟩:=vU r;cases r1;obtain⟨its,rv,pl,hz⟩:=I.list hq;have e:=oS rv;refine call_any_walk (wpAny_pyIter_list pl.isList ?_);have hne:p≠s.heap.objs.size:=λz=>by obtain⟨o,n,eo,_⟩:=pl;have:=TZ eo;rw[z]at this;exact absurd this (Vu _)
 refine⟨s.heap.objs.size,_,_,_,_,_,(λi=>ks.getD i true),rfl,Walks.list (A:=X.A.in1) (I.ok.hd hc) _ p hne its.toArray,⟨⟨_,Up _ rfl,rfl,rfl⟩,pl.isList.at λo eo=>TN _ eo⟩,rk e,λh' tk hk=>?_⟩;have hl:its.toArray.size=ks.length:=by rw[e];simp
 rw[hl,CI];refine⟨.bl _,H,I.kept (h':=h') (t':=tk) λb o eb=>hk b o (λhm=>?_) (TN _ eb),rfl,q⟩;have e2:b=s.heap.objs.size:=by simpa using hm
 have:=TZ eb;rw[e2]at this;exact absurd this (Vu _)
theorem iR{K:PySem.W.Frag}{H:Hp}:∀{vs:List V}{ks:List Bool},bU K H vs (ks.map D.bl)->vs=ks.map V.bl
 |[],[],_=>rfl
 | _::_,k::ks,.cons r t=>by cases r;rw[iR t];rfl
 |[],_::_,r=>nomatch r
 |_::_,[],r=>nomatch r
def Lj:Qh:=λds k=>∃ks:List Bool,ds=[.lst (ks.map D.bl)]/\k (.d (.bl (ks.all id)))
def Lk:Qh:=λds k=>∃ks:List Bool,ds=[.lst (ks.map D.bl)]/\k (.d (.bl (ks.any id)))
theorem Ll(hc:X.calm=true):iy X (.builtin "all") Lj:=iy.of (wJ hc) λσ H Pr Z vs ds so E ps ⟨ks,e,h⟩=>by
 subst e;obtain⟨v,rfl,r⟩:=sX ps
 cases r with
 | lst hz rs =>
  have e:=iR rs;subst e;exact⟨_,ks,rfl,hz.l,_,E.cons_d (.bl _),h⟩
theorem Ln(hc:X.calm=true):iy X (.builtin "any") Lk:=iy.of (wK hc) λσ H Pr Z vs ds so E ps ⟨ks,e,h⟩=>by
 subst e;obtain⟨v,rfl,r⟩:=sX ps
 cases r with
 | lst hz rs =>
  have e:=iR rs;subst e;exact⟨_,ks,rfl,hz.l,_,E.cons_d (.bl _),h⟩
end
end L2
set_option exponentiation.threshold 2000
namespace L2
open PySem PySem.Spec PyProof.Rows
section
variable{X:Cx}{e a b:Expr}{pos p:Pos}{ta tb:W L}{x y:Str}
mutual
noncomputable def jT:D->Bool
 |.int i=>decide (i.natAbs<2^1900)
 |.tup xs=>ml xs
 |.lst xs=>ml xs
 |_=>true
noncomputable def ml:List D->Bool
 |[]=>true
 |x::xs=>jT x && ml xs
end
theorem IW:(2:Nat)^1900<10^600:=by decide +kernel
theorem CJ{i:Int}(h:i.natAbs<2^1900):(PyData.shown (.int i)).length<=601:=by have e:=PySem.int_text_length_le10 (k:=600) x_ (Nat.lt_trans h IW);show(Str.ofString (toString i)).length<=601;rw[PySem.ofString_length];exact e
mutual
theorem qx:∀d:D,jT d=true->(Qf d).intsShort 601=true/\(Qf d).showable=true
 |.non,_=>⟨rfl,rfl⟩
 |.bl _,_=>⟨rfl,rfl⟩
 |.str _,_=>⟨rfl,rfl⟩
 |.dct _,_=>⟨rfl,rfl⟩
 |.exc _ _ _,_=>⟨rfl,rfl⟩
 |.fn _ _,_=>⟨rfl,rfl⟩
 | .int i,h=>by
  have h':i.natAbs<2^1900:=by simpa only[jT,Ua]using h
  refine⟨by simp only[Qf,PyData.intsShort,Ua];exact CJ h',?_⟩
  simp only[Qf,PyData.showable,Ua]
  by_cases h0:i.natAbs=0
  .
   rw[h0];decide
  .
   exact(Nat.log2_lt h0).mpr (TU h' (Uh x_ x_))
 | .tup xs,h=>by
  obtain⟨h1,h2⟩:=rl xs (by simpa only[jT]using h)
  exact⟨by simpa only[Qf,PyData.intsShort]using h1,by simpa only[Qf,PyData.showable]using h2⟩
 | .lst xs,h=>by
  obtain⟨h1,h2⟩:=rl xs (by simpa only[jT]using h)
  exact⟨by simpa only[Qf,PyData.intsShort]using h1,by simpa only[Qf,PyData.showable]using h2⟩
theorem rl:∀ds:List D,ml ds=true->PyData.intsShortAll 601 (iL ds)=true/\PyData.showableAll (iL ds)=true
 |[],_=>⟨rfl,rfl⟩
 | d::ds,h=>by
  simp only[ml,Uc]at h
  obtain⟨h1,h2⟩:=qx d h.1
  obtain⟨h3,h4⟩:=rl ds h.2
  exact⟨by simp only[iL,PyData.intsShortAll,h1,h3,Bool.and_self],by simp only[iL,PyData.showableAll,h2,h4,Bool.and_self]⟩
end
structure G9 (d:D):Prop where
 ok:Qr 40 d=true
 sh:jT d=true
 wt:(Qf d).weight<=20000
theorem G9.len{d:D}(h:G9 d):(Qf d).shown.length<=sizeLine:=by
 have h1:=PyData.shown_le 601 x_ (Qf d) (PyData.leavesShort_of_canLay0 601 _ (yq 40 d h.ok).1 (qx d h.sh).1);have h2:=h.wt;have e:sizeLine=16777216:=by decide
 rw[e];omega
def Ng(ta tb:W L):W L:=λZ so=>ta Z λr Z1=>match r with
 |.own _ xs=>tb Z1 λr2 Z2=>oN r2 λj=>(0<=j/\j<=100000)/\xs.length*j.toNat<=sizeLine/\∀p,so (.own p (List.replicate j.toNat xs).flatten) Z2
 |_=>False
theorem bU.rep{K:PySem.W.Frag}{H:Hp}{vs:List V}{ds:List D}(r:bU K H vs ds):∀k:Nat,bU K H (List.replicate k vs).flatten (List.replicate k ds).flatten
 |0=>.nil
 | k+1=>by rw[UK,UK,Vv,Vv];exact r.append (bU.rep r k)
theorem Lo(ha:PL X a ta)(hb:PL X b tb):PL X (.BinOp a .Mult b pos) (Ng ta tb):=by
 intro gV s σ H Pr Z so I E h;refine wpAny_BinOp (O9 (ha gV s σ H Pr Z _ I E h) λu s1 ⟨v,H1,r,Z1,I1,r1,E1,q1⟩=>?_);dsimp only at q1;split at q1
 rotate_left
 . exact q1.elim
 rename_i l xs;refine O9 (hb gV s1 σ H1 _ Z1 _ I1 E1.tail.wide q1) λu2 s2 ⟨y,H2,r2,Z2,I2,ry,E2,q2⟩=>?_;obtain⟨j,rfl,⟨h1,h2⟩,hz,q2⟩:=eN q2;have E3:aD X.K Pr H2 (some y::some v::σ) (.d (.int j)::.own l xs::Z2):=aD.step (τ:=[some v]) (lam:=[.own l xs]) (w:=[some y]) (μ:=[.d (.int j)]) E1 rfl E2 rfl;obtain⟨_,e1,p1⟩:=E3.head_d;cases e1;cases p1;obtain⟨hs,vs,hl,rs⟩:=E3.ownAt (i:=1) rfl;have ev:v=.ref l:=by simpa using hs
 subst ev;have E4:aD X.K Pr H2 σ Z2:=E3.tail.tail;refine O9 (KP gV s2 σ H2 _ _ u u2 (λz H'=>∃p,H2 p=none/\z=.ref p/\H'=OZ H2 p (.lst (List.replicate j.toNat vs).flatten)) I2 r1 ry ⟨l,j,vs,rfl,rfl,hl,xL,xL,by rw[rs.length];exact hz,λp hp=>⟨p,hp,rfl,rfl⟩⟩) λw s3 ⟨z,H3,I3,rz,p,hp,e1,e2⟩=>?_;subst e1 e2;exact⟨.ref p,_,_,Z2,I3,rz,E4.cons_own hp (rs.rep _),q2 p⟩
def Qx(f:Fl)(o:Option L)(j:Nat)(Z1:Ev)(so:Fl->Ev->Prop):Prop:=match f with
 | .nx=>(match o with
  |some (.own _ xs)=>so .nx (Z1.set j (.d (.lst xs)))
  |_=>so .nx Z1)
 |f=>so f Z1
theorem IX(a:Addr)(xs:List D)(j:Nat)(Z1:Ev)(so:Fl->Ev->Prop):Qx .nx (some (.own a xs)) j Z1 so=so .nx (Z1.set j (.d (.lst xs))):=(rfl)
theorem Nh(x:D)(j:Nat)(Z1:Ev)(so:Fl->Ev->Prop):Qx .nx (some (.d x)) j Z1 so=so .nx Z1:=(rfl)
end
theorem aD.closeT{K:PySem.W.Frag}{Pr H:Hp}{σ:St}{Z:Ev}{a:Addr}{vs:List V}{ls:List L}(hl:vs.length=ls.length)(h:Pd K H a vs)(E:aD K Pr H (vs.map some++σ) (ls++Z)):aD K Pr H (some (.ref a)::σ) (.bx none ls::Z):=by
 obtain⟨s1,s2⟩:=Paired.unapp (by simp[hl]) E.sl;have ow:owns (.bx none ls::Z)=owns (ls++Z):=by rw[aN,aH];simp only[bc,Option.toList,Vy,fb]
 refine⟨E.sub,by rw[ow];exact E.nd,λb hb=>E.off b (by rw[<- ow];exact hb),.cons ?_ s2⟩;unfold ba;exact⟨a,vs,rfl,h,dF.mpr s1⟩
structure FX (K:PySem.W.Frag) (mg:Str->Option Value) (g:Str) (st:Stmt) (a:Addr) (fd:FuncData) (P:List Str):Prop where
 f:PX K g g st a fd
 b:oI K fd P []
 m:mg g=some (.ref a)
noncomputable abbrev Qy(g:Str)(st:Stmt)(md:Value)(c:Nat):FuncData:=PySem.W.fnOf g g (jI st) (dz st) (au st) .none .none .none md none (.ref c) .none
theorem FX.mk'{K:PySem.W.Frag}{mg:Str->Option Value}{h:Heap}(X:K.In h)(G:h.Ns mainGlobals mg){g:Str}{st:Stmt}{a:Addr}{c:Nat}{md:Value}{P:List Str}(e1:PySem.W.nsIn K mainGlobals g=some (some (.ref a)))
  (e2:K.lookup a=some ⟨.type "function",none,.func (Qy g st md c),#[]⟩) (e3:PySem.W.codeIn K (.ref c) g=true) (e4:PySem.W.keepIn K (.ref a)=true)
  (e5:∀(kV doc pm:Value)(an:Option Addr)(cdv ct:Value)(us:List Value),us.length=P.length->bindArgs (PySem.W.fnOf g g (jI st) (dz st) (au st) .none kV doc pm an cdv ct) ⟨us,[]⟩=pure (P.zip us)):FX K mg g st a (Qy g st md c) P :=
 ⟨ub e2 e3 e4,(ub e2 e3 e4).binds e5,PySem.W.mg_of X G e1⟩
section
variable{X:Cx}{k k' n:Nat}{f:Addr}{fd:FuncData}{ps:List Str}{fs:FS}{g:Str}{st:Stmt}{e:Expr}{es:List Expr}{bs:List (Option Nat)}{t:W (List L)}{p pos:Pos}
theorem aI(F:FnOk X.prog X.w X.K X.mg X.base CX0 k f fd ps (spF X.K n fs))(T:FX X.K X.mg g st f fd ps)(hr:gG k' X.A)(ha:P0 X (e::es) bs t)(hk:k<=k':=by decide)(hg:Gl X g:=by rfl)(hn:bs.length=n:=by rfl) (hdb:(g == ("__debug__" : Str))=false:=by decide) (he:starEach (e::es) X.env=(false,eval e X.env)::starEach es X.env:=by rfl) (hpl:(backTo pos (starEach es X.env)).any (·.1)=false:=by rfl) :
  PL X (.Call (.Name g p) (e::es) [] pos) (aG fs t):=Ij F (hr.mono hk) hg T.m T.f.kp T.b HS ha hn hdb he hpl
theorem bK(F:FnOk X.prog X.w X.K X.mg X.base CX0 k f fd ps (spF X.K n fs))(T:FX X.K X.mg g st f fd ps)(hr:gG k' X.A)(j i:Nat)(ha:P0 X (e::es) bs t)(hk:k<=k':=by decide)(hg:Gl X g:=by rfl)(hj:bs[j]?=some (some i):=by rfl)(hn:bs.length=n:=by rfl) (hdb:(g == ("__debug__" : Str))=false:=by decide) (he:starEach (e::es) X.env=(false,eval e X.env)::starEach es X.env:=by rfl) (hpl:(backTo pos (starEach es X.env)).any (·.1)=false:=by rfl) :
  PL X (.Call (.Name g p) (e::es) [] pos) (bE fs j i t):=Fc F (hr.mono hk) hg T.m T.f.kp T.b HS j i ha hj hn hdb he hpl
end
section
variable{X:Cx}
theorem Fw:Pk X (binaryOp .Add) (λx y H Q=>∃l b xs zs,x=.ref l/\y=.ref b/\Pd X.K H l xs/\Pd X.K H b zs/\xs≠[]/\zs≠[]/\xs.length+zs.length<=sizeLine/\∀p,H p=none->Q (.ref p) (OZ H p (.tup (xs++zs)))):=by
 intro gV s σ H x y v u Q I rx ry h;obtain⟨l,b,xs,zs,rfl,rfl,hH,hB,n1,n2,hz,q⟩:=h;cases rx;cases ry;obtain⟨its,r,⟨o,e,c,n,f⟩,z⟩:=I.tuple hH;obtain⟨its2,r2,⟨o2,e2,c2,m,f2⟩,z2⟩:=I.tuple hB;obtain⟨cl,dd,dt,sl⟩:=o;obtain⟨cl2,dd2,dt2,sl2⟩:=o2;simp only at c f c2 f2;subst c f c2 f2;have hl:=r.length;have hl2:=r2.length;have k1:its≠[]:=λe=>n1 (VE.mp (by rw[hl,e];rfl));have k2:its2≠[]:=λe=>n2 (VE.mp (by rw[hl2,e];rfl));refine concat_meets ⟨_,e,rfl⟩ ⟨_,e2,rfl⟩ noFill_tuple_add seq_tuple_add PySem.F.slot_tuple_add PySem.F.entry_tuple_add (PySem.F.args_tuple_add_2 _ _) (tuple_addW2 l b its.toArray its2.toArray n m dd dd2 sl sl2 (by simpa using k1) (by simpa using k2) (by rw[Uk,Uk];omega)) ⟨e,e2,?_⟩;have ea:its.toArray++its2.toArray=(its++its2).toArray:=by simp
 rw[ea];exact⟨.ref _,OZ H s.heap.objs.size (.tup (xs++zs)),I.laid (o:=.tup (xs++zs)) (λ_ _ q=>TN _ q) (Ud _) ⟨by rw[Us];omega,its++its2,r.append r2,⟨_,Up _ rfl,rfl,_,rfl⟩⟩,rfl,q _ I.fresh⟩
def zU:P4:=λx y k=>match x,y with
 |.tup xs,.tup ys=>xs≠[]/\ys≠[]/\xs.length+ys.length<=sizeLine/\k (.d (.tup (xs++ys)))
 |_,_=>False
theorem IY:P5 X (binaryOp .Add) zU:=(P5.of Fw (op:=λx y k=>∃xs ys,x=.tup xs/\y=.tup ys/\xs≠[]/\ys≠[]/\xs.length+ys.length<=sizeLine/\k (.d (.tup (xs++ys)))) (λσ H Pr Z x y dx dy so E px py ⟨xs,ys,e1,e2,m1,m2,z,h⟩=>by
  subst e1 e2
  cases px with
  | tup h1 r1 =>
   cases py with
   | tup h2 r2 =>
    refine⟨_,_,_,_,rfl,rfl,h1,h2,λe=>m1 ?_,λe=>m2 ?_,by rw[r1.length,r2.length];exact z,λp hp=>⟨_,E.cons_tup hp (r1.append r2),h⟩⟩
    . exact VE.mp (by rw[<- r1.length,e];rfl)
    .
     exact VE.mp (by rw[<- r2.length,e];rfl))).imp λx y k h=>by
 unfold zU at h;split at h
 . exact⟨_,_,rfl,rfl,h⟩
 . exact h.elim
end
mutual
noncomputable def zV:D->Nat
 |.tup xs=>yu xs+1
 |.lst xs=>yu xs+1
 |_=>0
noncomputable def yu:List D->Nat
 |[]=>0
 |x::xs=>max (zV x) (yu xs)
end
theorem zW{n:Nat}:∀{xs:List D},(∀x∈xs,zV x<=n)->yu xs<=n
 |[],_=>Vr _
 | y::ys,h=>by simp only[yu];have:=h y TQ;have:=zW (xs:=ys) λx hx=>h x (TL _ hx);omega
end L2
namespace L2
open PySem PySem.Spec PyProof.Rows PySem.Builtin.Str
inductive Sk where
 |l|t
noncomputable abbrev Zi:=Sk×Addr×Addr
noncomputable def Zi.ofs(js:List Zi):List Addr:=js.map (·.2.1)
def Lp(z O:Addr)(js:List Zi)(h h':Heap):Prop:=∀c o,c∉z::O::Zi.ofs js->h.get? c=some o->h'.get? c=some o
noncomputable def Sk.nm:Sk->String
 |.l=>"list_iterator"
 |.t=>"tuple_iterator"
section
variable{z O:Addr}{js:List Zi}
theorem Lp.mono{h h':Heap}(k:Lp z O js h h'){c:Addr}{o:Obj}(hc:c∉z::O::Zi.ofs js)(e:h.get? c=some o):h'.get? c=some o:=k c o hc e
end
end L2
namespace L2
open PySem PySem.Spec PyProof.Rows
end L2
namespace L2
open PySem PySem.Spec PyProof.Rows PySem.W
noncomputable def I0(K:Frag)(C fI:Addr):Bool:=(match K.lookup C with
 | some ⟨.type "type",_,.cls cd,sl⟩=>(match cd.mro,sl.toList with
  |.ref C'::bm,[_,_,_,_,some (.builtin n),_]=>C' == C && n == "ValueError.__new__" && !cd.hasDel && bm.contains (.type "ValueError") && !(bm.contains (.type "AttributeError")) && !(bm.contains (.type "NameError"))
  |_,_=>false)
 |_=>false) && findIn K (.ref C) "__init__" == some (some (.ref fI)) && typeIn K (.ref fI) == some (.type "function")
structure Qz (K:Frag) (C fI:Addr):Prop where
 ex:∃ nm q N bs bm hdct sn sub ab col dd k0 k1 k2 k3 k5,K.lookup C=some (excClassObj nm q C N bs bm hdct sn sub ab col dd k0 k1 k2 k3 k5 "ValueError.__new__")/\bm.contains (.type "ValueError")=true/\bm.contains (.type "AttributeError")=false/\bm.contains (.type "NameError")=false
 init:findIn K (.ref C) "__init__"=some (some (.ref fI))
 fn:typeIn K (.ref fI)=some (.type "function")
theorem Lq{K:Frag}{C fI:Addr}(h:I0 K C fI=true):Qz K C fI:=by
 unfold I0 at h;simp only[Uc,VQ]at h;obtain⟨⟨h,h1⟩,h2⟩:=h;refine⟨?_,h1,h2⟩;split at h
 .
  rename_i dd cd sl ho;split at h
  . rename_i C' bm k0 k1 k2 k3 n k5 hm hs;simp only[Uc,VQ,V1]at h;obtain⟨⟨⟨⟨⟨rfl,rfl⟩,hdel⟩,e1⟩,e2⟩,e3⟩:=h;obtain⟨nm,bs,mro,ns,qn,hd,sn,sub,ab,col,QA⟩:=cd;dsimp only at hm hdel;subst hm hdel;obtain⟨l⟩:=sl;simp only at hs;subst hs;exact⟨nm,qn,ns,bs,bm,hd,sn,sub,ab,col,dd,k0,k1,k2,k3,k5,ho,e1,e2,e3⟩
  . cases h
 . cases h
section
variable{prog:Program}{w:World}{A:Around}{E:Value->Shared->Prop}{h:Heap}{g:Array GenState}{d:Drawn}{t:Nat}{os:OsState}
variable{nm q:Str}{C N:Addr}{bs bm:List Value}{hdct:Bool}{sn:List Str}{sub:List Value}{ab:Bool}{col:Option Bool}{dd:Option Addr}{k0 k1 k2 k3 k5:Option Value}
theorem Bc{M:Model}{rest:List Value}{Q:Unit->Shared->Prop} (hC:h.get? C=some (excClassObj nm q C N bs bm hdct sn sub ab col dd k0 k1 k2 k3 k5 "ValueError.__new__")) (hv:bm.contains (.type "ValueError")=true)
  (hq:Q () ⟨h,g,d,t,os⟩):wpAny M A (checkBuiltinCall "ValueError.__new__" ⟨.ref C::rest,[]⟩) Q E ⟨h,g,d,t,os⟩:=by
 have FB:=F.excBase_ValueError;have hb:(Value.ref C::bm).contains (.type "ValueError")=true:=by rw[VC,hv,Bool.or_true]
 have hst:=FB.noStar;simp only[checkBuiltinCall,FB.newKind,FB.newSplit,FB.newRow]
 repeat (first|refine UX hC ?_|(refine wpAny_isSubtype_exc hC ?_;rw[hb])|refine wpAny_staticBase_exc hC ?_|refine wpAny_madeBy_exc hC ?_|simp only[bne_self_eq_false,Vp,V8] | wp_step)
 exact hq
theorem Fx{rest:List Value}{R:Result->Shared->Prop} (hC:h.get? C=some (excClassObj nm q C N bs bm hdct sn sub ab col dd k0 k1 k2 k3 k5 "ValueError.__new__")) (hv:bm.contains (.type "ValueError")=true) (ha:bm.contains (.type "AttributeError")=false) (hn:bm.contains (.type "NameError")=false)
  (hz:rest.length<=sizeLine) (hq:R (.ok (.ret (.ref (h.objs.size+1)))) ⟨(h.push {cls:=.type "tuple",data:=.seq rest.toArray}).push {cls:=.ref C,data:=.fields #[.ref h.objs.size,.none,.none,.none,.bool false,.none] },g,d,t,os⟩) :
  codeAny (model prog w) A (.builtin "ValueError.__new__" ⟨.ref C::rest,[]⟩) R ⟨h,g,d,t,os⟩:=by
 have FB:=F.excBase_ValueError;have hends:=FB.ends;have c1:(Value.ref C::bm).contains (.type "ValueError")=true:=by rw[VC,hv,Bool.or_true]
 have c2:(Value.ref C::bm).contains (.type "AttributeError")=false:=by rw[VC,ha]; rfl
 have c3:(Value.ref C::bm).contains (.type "NameError")=false:=by rw[VC,hn]; rfl
 refine codeAny_builtinAt FB.entry ?_;unfold Builtin.«BaseException.__new__»;refine PySem.wpAt_bind ?_;show PySem.wpAt _ _ _ (stack >>= _) _ _ _;refine PySem.wpAt_bind (PySem.wpAt_stack λp below=>PySem.wpAt_of_wpAny ?_)
 wp_walk
 refine PySem.wpAt_of_wpAny ?_;rw[FB.owner]
 repeat (first|with_reducible refine wpAny_madeHere_exc FB.canon hC ?_|with_reducible refine UX hC ?_|(with_reducible refine wpAny_isSubtype_exc hC ?_;first|rw[c1] | rw[c2] | rw[c3])|wp_step)
 show R _ _;rw[Heap.size_push];exact hq
theorem Ni{K:Frag}{fI:Addr}{rest:List Value}{Q:Value->Shared->Prop}(X:K.In h)(M:Qz K C fI)(hz:rest.length<=sizeLine)
  (hq:∀ h' e,Heap.MadeExcOf h h' e (.ref C) rest->h.objs.size<=e->wpAny (model prog w) (A.under (.builtin "type.__call__" ⟨.ref C::rest,[]⟩)) (call (.ref fI) (.ref e::rest)) (λr s'=>r=.none/\Q (.ref e) s') E ⟨h',g,d,t,os⟩) :
  wpAny (model prog w) A (call (.ref C) rest) Q E ⟨h,g,d,t,os⟩:=by
 obtain⟨nm,q,N,bs,bm,hdct,sn,sub,ab,col,dd,k0,k1,k2,k3,k5,hK,b1,b2,b3⟩:=M.ex;have hC:=X _ _ hK;have FB:=F.excBase_ValueError;have f1:=tc_lookup;have f2:=tc_bind (.ref C);have hT:(⟨h,g,d,t,os⟩:Shared).TypeIs (.ref C) "type":=⟨_,hC,rfl⟩;refine Wi (codeAny_of_tree ?_);show wpAny _ _ (callAny (.ref C) _) _ _ _
 repeat (any_goals (first|assumption|with_reducible refine UX hC ?_|wp_step))
 refine⟨rfl,?_⟩;refine codeAny_call_builtin_at (Code.quiet_builtin _ y_) entry_typeCall (wpAny_check_type_call_sub hC ?_)
 repeat (first|with_reducible refine UX hC ?_|with_reducible refine wpAny_madeBy_exc hC ?_|wp_step)
 refine codeAny_call_builtin_code (Code.quiet_builtin _ FB.quiet) (Bc hC b1 ?_);refine Fx hC b1 b2 b3 hz ?_;have kp:∀ b o,h.get? b=some o->((h.push {cls:=.type "tuple",data:=.seq rest.toArray}).push {cls:=.ref C,data:=.fields #[.ref h.objs.size,.none,.none,.none,.bool false,.none] }).get? b=some o:=λb o e=>TN _ (TN _ e);have hC1:=kp _ _ hC;have X1:K.In _:=X.keeps kp;have hg:((h.push {cls:=.type "tuple",data:=.seq rest.toArray}).push {cls:=.ref C,data:=.fields #[.ref h.objs.size,.none,.none,.none,.bool false,.none] }).get? (h.objs.size+1)=some {cls:=.ref C,data:=.fields #[.ref h.objs.size,.none,.none,.none,.bool false,.none] }:=by heap_get
 have cC:(Value.ref C::bm).contains (.ref C)=true:=by simp
 show wpAny _ _ _ _ _ ⟨(h.push {cls:=.type "tuple",data:=.seq rest.toArray}).push {cls:=.ref C,data:=.fields #[.ref h.objs.size,.none,.none,.none,.bool false,.none] },g,d,t,os⟩;unfold isInstance
 repeat (first|with_reducible refine UX hg ?_|(with_reducible refine wpAny_isSubtype_exc hC1 ?_;rw[cC])|wp_step)
 have L1:=looks_findIn (M:=model prog w) X1 M.init;have L2:=bind_fn (M:=model prog w) X1 (.ref (h.objs.size+1)) M.fn;show wpAny _ _ (typeLookup (.ref C) _) _ _ _;refine L1.at (Vn (tu (L2.at ?_)));refine tu (Vc (hq _ (h.objs.size+1) ⟨kp,Heap.get?_none_of_le (Nat.le_succ _),h.objs.size,hg,Heap.get?_none_of_le (Ud _),TN _ (Heap.get?_push_at rfl rfl)⟩ (Nat.le_succ _)) (λr s' hr=>?_) λ_ _ x=>x);obtain⟨rfl,hQ⟩:=hr
 wp_walk
 exact hQ
end
section
variable{prog:Program}{w:World}{A:Around}{E:Value->Shared->Prop}{s:Shared}{K:Frag}{c:Str}{C L:Addr}{cd:ClassData}{env:Env}
structure QB (h:Heap) (e:Addr) (cls:Value) (dx T:Option Addr):Prop where
 ex:∃vs sl,h.get? e=some ⟨cls,dx,.fields vs,sl⟩/\1<vs.size/\(match T with
  |none=>vs[1]?=some .none
  |some t=>vs[1]?=some (.ref t)/\t≠e/\∃ot ts,h.get? t=some ot/\ot.data=.fields ts/\ts[3]?=some .none)
theorem Lr{x:Sem Value}{Q:Flow->Shared->Prop}(S:sP K c C L cd)(hh:A.handled=none)
  (h:wpAny (model prog w) A x (λv s1=>∃e dx,v=.ref e/\K.In s1.heap/\QB s1.heap e (.ref C) dx none/\E (.ref e) s1) E s):wpAny (model prog w) A (raiseStmt env (some x) none) Q E s:=by
 unfold raiseStmt;refine tu (Vc h (λv s1 h1=>?_) λ_ _ z=>z);obtain⟨e,dx,rfl,X,⟨vs,sl,he,hz,h1⟩,hE⟩:=h1;obtain⟨hp,g,d,tk,os⟩:=s1;have h1:vs[1]?=some .none:=h1;have he:hp.get? e=some ⟨.ref C,dx,.fields vs,sl⟩:=he;obtain⟨oc,odc,slc,hK⟩:=qO S.cls;have hC:hp.get? C=some ⟨oc,odc,.cls cd,slc⟩:=X _ _ hK;have hoc:oc=.type "type":=by have z:(K.lookup C).map (·.cls)=some (.type "type"):=S.ty;rw[hK]at z;exact Uq z
 subst hoc;have Lb:=S.isT (M:=model prog w) X "BaseException";have eb:(["ValueError","Exception","BaseException","object"]:List String).contains "BaseException"=true:=by decide
 rw[eb]at Lb
 repeat (first|with_reducible refine UX he ?_|with_reducible refine UX hC ?_|with_reducible refine Lb.at ?_|with_reducible refine VY he rfl h1 ?_|wp_step)
 exact wpAny_raiseNew_none hh hE
theorem Ls{base:Heap}{outer:List Env}{F e:Addr}{cls:Value}{dx T:Option Addr}{Q:Unit->Shared->Prop}
  (hfr:A.frames=some (env::outer)) (hl:s.heap.FunFrames base (env::outer)) (hf:env.frame=some F) (fl:QB s.heap e cls dx T)
  (hq:∀h' T',QB h' e cls dx (some T')->s.heap.objs.size<=T'->(∀b o,b≠e->some b≠T->b∉O4 (env::outer)->s.heap.get? b=some o->h'.get? b=some o) ->
   (∀b o,b≠e->some b≠T->s.heap.get? b=some o->∃sl,h'.get? b=some {o with slots:=sl})->Q () {s with heap:=h' }) :
  wpAny (model prog w) A (noteFrame (.ref e) env) (λ_ s2=>wpAny (model prog w) A (setFlight (.ref e) none) Q E s2) E s:=by
 obtain⟨vs,sl,he,hz,hT⟩:=fl;have nof:∀b o vs',s.heap.get? b=some o->o.data=.fields vs'->b∉O4 (env::outer):=λb o vs' hb hd hm=>by obtain⟨_,o',ho',hn'⟩:=hl.mem hm;rw[hb]at ho';cases ho';exact hn' _ hd
 have entry:∀(s1:Shared)(vs1:Array Value)(head:Value)(hn:Bool),s1.heap.get? e=some ⟨cls,dx,.fields vs1,sl⟩->1<vs1.size->s1.heap.FunFrames base (env::outer) ->
   (∀b o,b≠e->some b≠T->s.heap.get? b=some o->s1.heap.get? b=some o)->s1.heap.objs.size=s.heap.objs.size->s1={s with heap:=s1.heap} ->
   wpAny (model prog w) A (do let a <- frameOf env;let pl <- entryPlaceOf F hn;let b <- EntryCells.newEntry head a .none (rawInt F) .none pl;setField (.ref e) 1 b) (λ_ s2=>wpAny (model prog w) A (setFlight (.ref e) none) Q E s2) E s1:=by
  intro s1 vs1 head hn he1 hz1 hl1 kp sz es;have nof1:∀b o vs',s1.heap.get? b=some o->o.data=.fields vs'->b∉O4 (env::outer):=λb o vs' hb hd hm=>by obtain⟨_,o',ho',hn'⟩:=hl1.mem hm;rw[hb]at ho';cases ho';exact hn' _ hd
  refine tu (wpAny_frameOf_fun hfr hl1 hf λh1 hs1=>?_);refine tu (wpAny_entryPlaceOf λpl hpl=>?_);unfold EntryCells.newEntry newFields;refine tu (VF ?_ (hpl.sizeOk5 _ _ _ _ _))
  generalize hob:({cls:=.type "traceback",dict:=none,data:=.fields ([head,Value.ref F,.none,rawInt F,.none]++(if pl.isEmpty then List.replicate 6 Value.none else pl)).toArray}:Obj)=ob
  have hod:∃ts,ob.data=.fields ts/\3<ts.size:=by subst hob;exact⟨_,rfl,by simp only[Uk,Us,U9,List.length_nil];omega⟩
  obtain⟨ts,hod,hts⟩:=hod;have he2:h1.get? e=some ⟨cls,dx,.fields vs1,sl⟩:=(hs1.2.1 e (nof1 _ _ _ he1 rfl)).trans he1;have he3:=TN (h:=h1) ob he2;have ne:h1.objs.size≠e:=Nat.ne_of_gt (TZ he2);refine wpAny_setField he3 rfl hz1 ?_;have he4:=Vl (Obj.mapFields (·.setIfInBounds 1 (Value.ref h1.objs.size))) he3 rfl;have hT4:=(UT (h1.push ob) (Obj.mapFields (·.setIfInBounds 1 (Value.ref h1.objs.size))) (U3 ne)).trans (Up h1 (by obtain⟨_,_,dt,_⟩:=ob;cases hod;rfl));unfold setFlight;refine tu (VY he4 rfl (x:=.ref h1.objs.size) (by simp[hz1]) ?_);rw[if_pos (show(Value.ref h1.objs.size != Value.none)=true from by simp)];refine wpAny_setField hT4 hod hts ?_;rw[es];have keep:∀b o,b≠e->h1.get? b=some o->(((h1.push ob).update e (Obj.mapFields (·.setIfInBounds 1 (Value.ref h1.objs.size)))).update h1.objs.size (Obj.mapFields (·.setIfInBounds 3 ((none:Option Addr).elim Value.none λf=>rawInt f)))).get? b=some o:=λb o hb e1=>by rw[UT _ _ (Nat.ne_of_gt (TZ e1)),UT _ _ (U3 hb)];exact TN _ e1
  refine hq _ h1.objs.size ⟨vs1.setIfInBounds 1 (.ref h1.objs.size),sl,?_,by simpa using hz1,by simp[hz1],ne,_,_,Vl _ hT4 (Obj.isFreed_of_fields (Obj.data_mapFields hod _)),Obj.data_mapFields hod _,by simp[hts]⟩ ?_ (λb o hb hbT hbf e1=>?_) λb o hb hbT e1=>?_
  . rw[UT _ _ ne];exact he4
  . rw[hs1.1,sz];exact Ud _
  . exact keep b o hb ((hs1.2.1 b hbf).trans (kp b o hb hbT e1))
  . obtain⟨sl',e2⟩:=hs1.2.2 b o (kp b o hb hbT e1);exact⟨sl',keep b _ hb e2⟩
 unfold noteFrame;simp only[hf]
 cases T with
 | none =>
  refine tu (VY he rfl hT ?_);rw[if_neg (by decide)];exact entry s vs .none _ he hz hl (λ_ _ _ _ e1=>e1) rfl rfl
 | some t =>
  obtain⟨h1,hte,ot,ts,ht,hdt,h3⟩:=hT;refine tu (VY he rfl h1 ?_);rw[if_pos (show(Value.ref t != Value.none)=true from by simp)];refine tu (VY ht hdt h3 ?_);rw[if_neg (show ¬((Value.none == rawInt F)=true)from by simp[rawInt])];refine tu (wpAny_setField ht hdt (Array.getElem?_eq_some_iff.mp h3).1 ?_);have oth:∀b,b≠t->(s.heap.update t (Obj.mapFields (·.setIfInBounds 3 Value.none))).get? b=s.heap.get? b:=λb hb=>UT _ _ (U3 hb);refine entry _ vs (.ref t) _ ((oth e (U3 hte)).trans he) hz (hl.of_keeps λb o hb hnf=>⟨o,(oth b λq=>?_).trans hb,rfl⟩) (λb o hb hbT e1=>(oth b λq=>hbT (by rw[q])).trans e1) v6 rfl;rw[q,ht]at hb;cases hb;exact hnf ts hdt
theorem Nj{e T:Addr}{cls:Value}{dx:Option Addr}{Q:Unit->Shared->Prop}(fl:QB s.heap e cls dx (some T))
  (hq:∀h',QB h' e cls dx (some T)->(∀b o,b≠T->s.heap.get? b=some o->h'.get? b=some o)->Q () {s with heap:=h' }):wpAny (model prog w) A (setFlight (.ref e) none) Q E s:=by
 obtain⟨vs,sl,he,hz,h1,hte,ot,ts,ht,hdt,h3⟩:=fl;have hts:=(Array.getElem?_eq_some_iff.mp h3).1;unfold setFlight;refine tu (VY he rfl h1 ?_);rw[if_pos (show(Value.ref T != Value.none)=true from by simp)];refine wpAny_setField ht hdt hts (hq _ ⟨vs,sl,?_,hz,h1,hte,_,_,Vl _ ht (Obj.isFreed_of_fields (Obj.data_mapFields hdt _)),Obj.data_mapFields hdt _,by simp[hts]⟩ λb o hb e1=>?_)
 . rw[UT _ _ hte];exact he
 . rw[UT _ _ (U3 hb)];exact e1
end
noncomputable def QA(H:Hp)(e:Addr):Hp:=λb=>if b=e then none else H b
theorem d7{H:Hp}{e b:Addr}(h:b≠e):QA H e b=H b:=by unfold QA;rw[if_neg h]
theorem nI{H:Hp}{e:Addr}:QA H e e=none:=by unfold QA;rw[if_pos rfl]
theorem qy{H:Hp}{e b:Addr}(h:H b=none):QA H e b=none:=by unfold QA;split;rfl;exact h
section
variable{X:Cx}{gV:List (Addr×Obj)}{σ:St}{H:Hp}{s:Shared}
theorem O7.forget{e:Addr}{φ:Heap->Prop}(I:O7 X gV σ H s)(h:H e=some (.ext φ)):O7 X gV σ (QA H e) s:=by
 have ne:∀b o,H b=some o->(∀ψ,o≠.ext ψ)->b≠e:=λb o q n z=>by subst z;rw[h]at q;cases q;exact n _ rfl
 refine⟨I.ok,I.os,I.bare,⟨I.base.keep,I.base.slot,λb o e1 n hx=>qy (I.base.free b o e1 n hx),I.base.there,λb xs q=>?_,λb o u q=>?_,λb ps q=>?_⟩,I.loc,I.cell,qy I.free,λx c q=>(I.freeC x c q).imp qy fun⟨hf,o,z⟩=>⟨hf,o,by rw[d7 (ne c _ z λ_ q=>nomatch q)];exact z⟩,λp hp=>?_,λb u q=>?_,I.len⟩
 . have z:=I.base.tups b xs q;rw[d7 (ne b _ z λ_ q=>nomatch q)];exact z
 . have z:=I.base.frzs b o u q;rw[d7 (ne b _ z λ_ q=>nomatch q)];exact z
 . have z:=I.base.tbls b ps q;rw[d7 (ne b _ z λ_ q=>nomatch q)];exact z
 . obtain⟨a1,a2,a3⟩:=I.pin p hp;exact⟨a1,qy a2,a3⟩
 .
  have hb:b≠e:=λz=>by subst z;rw[nI]at q;cases q
  rw[d7 hb]at q;exact(I.hok b u q).stay (λc v _ z=>z) (λc z=>by rw[d7 (ne c _ z λ_ q=>nomatch q)];exact z) (λc xs z=>by rw[d7 (ne c _ z λ_ q=>nomatch q)];exact z) λc ob _ _ z=>by rw[d7 (ne c _ z λ_ q=>nomatch q)];exact z
theorem O7.track{e:Addr}{o:HO}(I:O7 X gV σ H s)(hn:H e=none)(h0:X.s₀.heap.objs.size<=e)(hL:e≠X.env.locals)(hc:∀x c,X.env.cells.lookup x=some c->c≠e)(hp:∀p∈X.pn++gV,p.1≠e)
  (new:eX X.prog X.w (OZ H e o) s.heap e o):O7 X gV σ (OZ H e o) s:=by
 have ne:∀b u,H b=some u->b≠e:=λb u q z=>by subst z;rw[hn]at q;cases q
 refine⟨I.ok,I.os,I.bare,⟨I.base.keep,I.base.slot,λb u e1 n hx=>?_,I.base.there,λb xs q=>?_,λb u z q=>?_,λb ps q=>?_⟩,I.loc,I.cell,?_,λx c q=>?_,λp hq=>?_,λb u q=>?_,I.len⟩
 . rw[aB (λz=>by subst z;exact absurd (TZ e1) (Nat.not_lt.mpr h0))];exact I.base.free b u e1 n hx
 . have z:=I.base.tups b xs q;rw[aB (ne b _ z)];exact z
 . have z:=I.base.frzs b _ _ q;rw[aB (ne b _ z)];exact z
 . have z:=I.base.tbls b ps q;rw[aB (ne b _ z)];exact z
 . rw[aB (U3 hL)];exact I.free
 . rw[aB (hc x c q)];exact I.freeC x c q
 . obtain⟨a1,a2,a3⟩:=I.pin p hq;exact⟨a1,by rw[aB (hp p hq)];exact a2,a3⟩
 .
  by_cases hb:b=e
  . subst hb;rw[a6]at q;cases q;exact new
  . rw[aB hb]at q;exact(I.hok b u q).stay (λc v _ z=>z) (λc z=>by rw[aB (ne c _ z)];exact z) (λc xs z=>by rw[aB (ne c _ z)];exact z) λc ob _ _ z=>by rw[aB (ne c _ z)];exact z
end
def QC(o:HO):Prop:=MG o/\EK o
open Classical in
noncomputable def vQ(H:Hp):Hp:=λb=>match H b with
 |some o=>if QC o then some o else none
 |none=>none
theorem jU{H:Hp}{b:Addr}(h:H b=none):vQ H b=none:=by unfold vQ;rw[h]
theorem b7{H:Hp}{b:Addr}{o:HO}(h:H b=some o)(v:QC o):vQ H b=some o:=by unfold vQ;rw[h];exact if_pos v
theorem Ja{H:Hp}{b:Addr}{o:HO}(h:vQ H b=some o):H b=some o/\QC o:=by
 unfold vQ at h;split at h
 .
  rename_i u e;split at h
  . rename_i v;cases h;exact⟨e,v⟩
  . cases h
 . cases h
theorem Jb{H:Hp}{b:Addr}{o:HO}(h:H b=some o)(v:¬QC o):vQ H b=none:=by unfold vQ;rw[h];exact if_neg v
theorem eX.stayN{P:Program}{w:World}{H H':Hp}{h h':Heap}{a:Addr}:∀{o:HO},EK o->eX P w H h a o->(∀u,h.get? a=some u->h'.get? a=some u)->(∀b xs,H b=some (.tup xs)->H' b=some (.tup xs))->(∀b o q,pM o q->H b=some (.frz o (.own b))->H' b=some (.frz o (.own b)))->eX P w H' h' a o
 |.lst xs,_,x,k,_,_=>by obtain⟨z,its,n,r,e⟩:=x;exact⟨z,its,n,r,k _ e⟩
 |.tup xs,_,x,k,_,_=>by obtain⟨z,its,r,ob,e,c⟩:=x;exact⟨z,its,r,ob,k _ e,c⟩
 |.dK kvs,_,x,k,_,_=>by obtain⟨z,y,vs,r,ob,es,ep,e,c⟩:=x;exact⟨z,y,vs,r,ob,es,ep,k _ e,c⟩
 | .dT kvs,_,x,k,ht,_=>by obtain⟨z,y,xs,r,ob,es,ep,e,c⟩:=x;exact⟨z,y,xs,Paired.mapP r λp q z=>⟨z.1,ht _ _ z.2.1,z.2.2⟩,ob,es,ep,k _ e,c⟩
 |.set S n,_,x,k,_,_=>by obtain⟨ob,es,ep,t,e,c⟩:=x;exact⟨ob,es,ep,t,k _ e,c⟩
 |.ins C dx fs,n,_,_,_,_=>n.elim
 |.own y,_,x,k,_,_=>by obtain⟨ob,e⟩:=x;exact⟨ob,k _ e⟩
 |.xd fs,_,x,k,_,_=>by obtain⟨mA,⟨od,es,ep,e,c⟩,r⟩:=x;exact⟨mA,⟨od,es,ep,k _ e,c⟩,r⟩
 |.rng lo hi,_,x,k,_,_=>by obtain⟨t,u,v,e⟩:=x;exact⟨t,u,v,k _ e⟩
 |.frz ob u,n,x,k,ht,hf=>by obtain⟨e,q⟩:=x;exact⟨k _ e,eX.stayN (o:=u) n q k ht hf⟩
 | .tbl t,_,x,k,_,hf=>by
  obtain⟨ps,e,tr,m⟩:=x
  exact⟨ps,k _ e,tr,λpos cv z=>let ⟨c',oc,a1,a2,a3⟩:=m pos cv z;⟨c',oc,a1,hf _ _ _ a3 a2,a3⟩⟩
 | .met f y,_,x,k,_,_=>by have e:h.get? a=some (PySem.W.methodObj (.ref f) (.ref y)):=x;exact(k _ e:h'.get? a=some (PySem.W.methodObj (.ref f) (.ref y)))
 |.ext φ,_,x,k,_,_=>by obtain⟨p,⟨o,e⟩,st⟩:=x;exact⟨st _ _ p k,⟨o,k _ e⟩,st⟩
theorem yv(xs:List V):QC (.tup xs):=⟨True.intro,True.intro⟩
theorem CK(q:Str):QC (.tbl q):=⟨True.intro,True.intro⟩
theorem qz(o:Obj)(y:Addr):QC (.frz o (.own y)):=⟨True.intro,True.intro⟩
section
variable{X:Cx}{gV:List (Addr×Obj)}{σ:St}{H H':Hp}{s s':Shared}
theorem O7.hide(I:O7 X gV σ H s):AN X.prog X.w X.K X.mg X.base X.A X.stack s (vQ H):=by have e0:=I.env0;refine⟨e0.frames,e0.mod,λb o e=>⟨(e0.bs b o e).1,jU (e0.bs b o e).2⟩,e0.bsz,e0.funs,λb hb=>jU (e0.frf b hb),λb o e=>?_,e0.bare,λx hx c P e=>b7 (e0.tbs x hx c P e) (CK _)⟩;obtain⟨e1,v⟩:=Ja e;exact eX.stayN v.2 (e0.hok b o e1) (λ_ z=>z) (λc xs z=>b7 z (yv xs)) λc ob _ _ z=>b7 z (qz ob c)
open Classical in
noncomputable def QD(H H':Hp):Hp:=λb=>match H' b with
 |some o=>some o
 |none=>H b
theorem fP{b:Addr}{o:HO}(h:H' b=some o):QD H H' b=some o:=by unfold QD;rw[h]
theorem qC{b:Addr}(h:H' b=none):QD H H' b=H b:=by unfold QD;rw[h]
theorem O7.unhide(I:O7 X gV σ H s)(ho:s'.os=s.os)(hg:AllBare s'.gens)(u:Un (O4 X.stack) [] (vQ H) H' s.heap s'.heap)(hok:O0 X.prog X.w H' s'.heap) :
  O7 X gV σ (QD H H') s'/\(∀b o,H b=some o->QD H H' b=some o)/\(∀b o,H' b=some o->vQ H b=none->H b=none):=by
 have gone:∀b o,H b=some o->¬QC o->vQ H b=none/\H' b=none:=λb o e v=>by
  have z:=Jb e v
  obtain⟨ob,hb⟩:∃ob,s.heap.get? b=some ob:=by
   cases q:s.heap.get? b with
   |some ob=>exact⟨ob,rfl⟩
   | none =>
    exfalso
    cases o with
    |lst xs=>obtain⟨_,_,_,_,e⟩:=I.hok b _ e;rw[q]at e;cases e
    |tup xs=>exact v (yv xs)
    |dK kvs=>obtain⟨_,_,_,_,o,_,_,e,_⟩:=I.hok b _ e;rw[q]at e;cases e
    |dT kvs=>obtain⟨_,_,_,_,o,_,_,e,_⟩:=I.hok b _ e;rw[q]at e;cases e
    |set S n=>obtain⟨o,_,_,_,e,_⟩:=I.hok b _ e;rw[q]at e;cases e
    |ins C dx fs=>obtain⟨_,_,_,e,_⟩:=I.hok b _ e;rw[q]at e;cases e
    |own y=>obtain⟨_,e⟩:=I.hok b _ e;rw[q]at e;cases e
    |xd fs=>obtain⟨_,⟨_,_,_,e,_⟩,_⟩:=I.hok b _ e;rw[q]at e;cases e
    |rng lo hi=>obtain⟨_,_,_,e⟩:=I.hok b _ e;rw[q]at e;cases e
    |frz ob u=>obtain⟨e,_⟩:=I.hok b _ e;rw[q]at e;cases e
    |tbl t=>exact v (CK t)
    |met f y=>have e:=(show s.heap.get? b=some _ from I.hok b _ e);rw[q]at e;cases e
    |ext φ=>obtain⟨_,⟨_,e⟩,_⟩:=I.hok b _ e;rw[q]at e;cases e
  exact⟨z,u.free b ob hb z v6⟩
 have ext:∀b o,H b=some o->QD H H' b=some o:=λb o e=>by
  by_cases v:QC o
  .
   have z:=b7 e v
   cases o with
   |tup xs=>exact fP (u.tups b xs z)
   |frz ob w=>exact fP (u.frzs b ob w z)
   |tbl t=>exact fP (u.tbls b t z)
   |_=>exact v.1.elim
  . rw[qC (gone b o e v).2];exact e
 have back:∀b o,H' b=some o->vQ H b=none->H b=none:=λb o e z=>by
  cases q:H b with
  |none=>rfl
  | some o' =>
   by_cases v:QC o'
   . rw[b7 q v]at z;cases z
   . rw[(gone b o' q v).2]at e;cases e
 have hok2:O0 X.prog X.w (QD H H') s'.heap:=λb o e=>by
  unfold QD at e;split at e
  . rename_i o' q;cases e;exact(hok b _ q).stay (λc w _ z=>z) (λc z=>fP z) (λc xs z=>fP z) λc ob _ _ z=>fP z
  .
   rename_i q
   have nv:¬QC o:=λv=>by
    have z:=b7 e v
    cases o with
    |tup xs=>rw[u.tups b xs z]at q;cases q
    |frz ob w=>rw[u.frzs b ob w z]at q;cases q
    |tbl t=>rw[u.tbls b t z]at q;cases q
    |_=>exact v.1.elim
   have keepT:∀c o',H c=some o'->¬QC o'->∀w,s.heap.get? c=some w->s'.heap.get? c=some w:=λc o' e' v' w hw=>by refine u.keep c w hw (gone c o' e' v').1 (λhm=>?_) v6;have:=I.stkFree c hm;rw[e']at this;cases this
   refine(I.hok b o e).stay (λc w hc z=>?_) (λc z=>ext c _ z) (λc xs z=>ext c _ z) λc ob _ _ z=>ext c _ z;rcases hc with rfl|hc
   . exact keepT c o e nv w z
   . exact keepT c _ hc (λv=>v.1) w z
 refine⟨I.call' (ch:=[]) ho ⟨λb o e n hf hx=>u.keep b o e (jU n) hf hx,λb o e n hf hx=>u.slot b o e (jU n) hf hx,λb o e n hx=>?_,u.there,λb xs e=>ext b _ e,λb o w e=>ext b _ e,λb ps e=>ext b _ e⟩ hok2 hg (λb z=>absurd z v6),ext,back⟩;rw[qC (u.free b o e (jU n) hx)];exact n
end
section
variable{K:Frag}{Pr H H':Hp}{σ:St}{Z:Ev}
theorem aD.exten(E:aD K Pr H σ Z)(h:∀b o,H b=some o->H' b=some o):aD K Pr H' σ Z :=
 ⟨λb o e=>h b o (E.sub b o e),E.nd,E.off,Paired.impMem E.sl λl hl s q=>q.pres (λb u _ e=>h b u e) l λa e=>by
  obtain⟨vs,e,_⟩:=E.at_own (iM.mpr ⟨l,hl,e⟩)
  rw[h _ _ e,e]⟩
end
mutual
theorem PZ.hid{K:Frag}{H:Hp}:∀{v:V}{d:D},PZ K H v d->PZ K (vQ H) v d
 |_,_,.non=>.non
 |_,_,.bl b=>.bl b
 |_,_,.int i=>.int i
 |_,_,.str x=>.str x
 | _,_,.tup h r=>.tup (by
   rcases h with(h|⟨o,h⟩)|h
   .
    exact .inl (.inl (b7 h (yv _)))
   .
    exact .inl (.inr ⟨o,b7 h ⟨True.intro,True.intro⟩⟩)
   .
    exact .inr h) (bU.hid r)
 | _,_,.lst h r=>.lst (by
   rcases h with⟨o,h⟩|h
   .
    exact .inl ⟨o,b7 h ⟨True.intro,True.intro⟩⟩
   .
    exact .inr h) (bU.hid r)
 |_,_,.dct h=>.dct (b7 h ⟨True.intro,True.intro⟩)
 | _,_,.exc h hv hc hn hs hq hf r=>.exc (b7 h ⟨True.intro,hv⟩) hv hc hn hs hq (by
   rcases hf with hf|⟨d,od,e,h,l⟩
   .
    exact .inl hf
   .
    exact .inr ⟨d,od,e,b7 h ⟨True.intro,True.intro⟩,l⟩) (bU.hid r)
 |_,_,.fn hl hf hq hc hz hd hv hm r=>.fn hl (b7 hf (qz _ _)) (b7 hq (qz _ _)) hc (b7 hz (qz _ _)) hd hv hm (PZ.hid r)
theorem bU.hid{K:Frag}{H:Hp}:∀{vs:List V}{ds:List D},bU K H vs ds->bU K (vQ H) vs ds
 |_,_,.nil=>.nil
 |_,_,.cons h t=>.cons (PZ.hid h) (bU.hid t)
end
theorem Nk:typeOf (.type "ValueError")=pure (.type "type"):=kitMeta_of y_
theorem Nl:Manifest.isStub "ValueError"=false:=by decide +kernel
theorem Nm:handedIn (.builtin "ValueError.__init__")=true:=by decide +kernel
theorem CL(K:Frag):findCls K (.type "ValueError") (.type "type") "__init__"=some (.val (.builtin "ValueError.__init__")):=by kernel_rfl
theorem QB.at{h h':Heap}{e:Addr}{cls:Value}{dx:Option Addr}(f:QB h e cls dx none)(k:∀o,h.get? e=some o->h'.get? e=some o):QB h' e cls dx none:=by obtain⟨vs,sl,he,hz,h1⟩:=f;exact⟨vs,sl,k _ he,hz,h1⟩
noncomputable def XO(e:Addr)(cls:Value)(dx:Option Addr):HO:=.ext λh=>QB h e cls dx none
noncomputable def XD(d:Addr)(fs:List (Str×V)):HO:=.ext λh=>∃mA,h.Ns1 d mA/\(∀f,GW (fs.lookup f) (mA f))/\PySem.Within mA (fs.map (·.1))
theorem XO.ok{P:Program}{w:World}{H:Hp}{h:Heap}{e:Addr}{cls:Value}{dx:Option Addr}(f:QB h e cls dx none):eX P w H h e (XO e cls dx):=by obtain⟨vs,sl,he,hz,h1⟩:=f;exact⟨⟨vs,sl,he,hz,h1⟩,⟨_,he⟩,λh1 h2 p k=>p.at k⟩
theorem XD.ok{P:Program}{w:World}{H:Hp}{h:Heap}{d:Addr}{fs:List (Str×V)}{mA:Str->Option Value}(n:h.Ns1 d mA)(r:∀f,GW (fs.lookup f) (mA f))(wi:PySem.Within mA (fs.map (·.1))):eX P w H h d (XD d fs) :=
 ⟨⟨mA,n,r,wi⟩,let ⟨o,_,_,e,_⟩:=n;⟨o,e⟩,λh1 h2 ⟨mA,n,r⟩ k=>⟨mA,n.at k,r⟩⟩
theorem Lu{H:Hp}{a:Addr}{o:HO}(h:H a=some o):OZ H a o=H:=by
 funext b;unfold OZ;split
 . rename_i e;rw[e,h]
 . rfl
section
variable{X:Cx}{gV:List (Addr×Obj)}{σ:St}{H:Hp}{s:Shared}
theorem O7.xo{e:Addr}{cls:Value}{dx:Option Addr}(I:O7 X gV σ H s)(h:H e=some (XO e cls dx)):QB s.heap e cls dx none:=(I.hok e _ h).1
theorem O7.xd{d:Addr}{fs:List (Str×V)}(I:O7 X gV σ H s)(h:H d=some (XD d fs)):∃mA,s.heap.Ns1 d mA/\(∀f,GW (fs.lookup f) (mA f))/\PySem.Within mA (fs.map (·.1)):=(I.hok d _ h).1
theorem QB.inst{h:Heap}{e C:Addr}{dx T:Option Addr}(f:QB h e (.ref C) dx T)(hd:∀d,dx=some d->∃o,h.get? d=some o):∃vs sl od,InstAt h e ⟨.ref C,dx,.fields vs,sl⟩ C od/\1<vs.size:=by
 obtain⟨vs,sl,he,hz,_⟩:=f
 cases dx with
 |none=>exact⟨vs,sl,none,⟨he,rfl,rfl,trivial⟩,hz⟩
 | some d =>
  obtain⟨o,ho⟩:=hd d rfl;exact⟨vs,sl,some o,⟨he,rfl,rfl,ho⟩,hz⟩
end
section
variable{X:Cx}{a b:Expr}{p1 p2 pos:Pos}{t:TA}
def zX(K:Frag)(t:TA):TE:=λσ H Q=>t σ H λvs H1=>∃e tx c C L cd,vs=[.ref e,tx]/\H1 e=some (XO e (.ref C) none)/\sP K c C L cd/\Q .non H1
theorem Fy{pl:Sem Bool} (hg:Gl X "ValueError") (hm:X.mg "ValueError"=none) (ha:PA X [a,b] t) (hs:starEach [a,b] X.env=(false,eval a X.env)::starEach [b] X.env:=by rfl) (hpl:(backTo pos (starEach [b] X.env)).any (·.1)=false:=by rfl)
  (ht:eval (.Call (.Attribute (.Name "ValueError" p1) "__init__" p2) [a,b] [] pos) X.env=(do
   let ov <- eval (.Name "ValueError" p1) X.env
   standAt p2.atName
   let (f,first) <- holding [ov] (getMethod ov "__init__" pl)
   callWith pos f first (backTo pos (starEach [a,b] X.env)) (backToKw pos (keywordEach [] X.env))):=by rfl) :
  PE X (.Call (.Attribute (.Name "ValueError" p1) "__init__" p2) [a,b] [] pos) (zX X.K t):=by
 intro gV s σ H Q I h;refine methodCall_KW (ly I hg hm (show bootBuiltins "ValueError"=some (.type "ValueError") by decide +kernel) ?_) ht;obtain⟨m,F⟩:=I.fr;have k4:=CL X.K;refine @method_type _ _ _ _ _ X.K _ _ _ _ _ _ _ _ F I.ok.mod.kin Nk Nl k4 Nm ?_;have I1:=I.tok (s.toks+1);have hA:=ha pos gV _ σ H _ I1 h;rw[hs]at hA ⊢;refine Calls.callWith_builtin (by show(false ||(backTo pos (starEach [b] X.env)).any (·.1))=false;rw[hpl]<;>rfl) (Calls.evalArgs_plain (O9 hA λus s2 ⟨vs,H2,I2,r,e,tx,c,C,L,cd,ev,he,S,q⟩=>?_));subst ev;obtain⟨u1,u2,rfl,r1,r2⟩:=EC r;cases r1;obtain⟨vs,sl,od,Ia,hz⟩:=(I2.xo he).inst (λd z=>nomatch z);refine M1 S I2.kIn Ia rfl xL λt'=>⟨.non,H2,?_,rfl,q⟩;have hx1:=TN (h:=s2.heap) {cls:=.type "tuple",data:=.seq #[u2] } Ia.at_;have z:=I2.write (x:=e) (e:=e) (o:=XO e (.ref C) none) (h':=(s2.heap.push {cls:=.type "tuple",data:=.seq #[u2] }).update e (Obj.mapFields (·.setIfInBounds 0 (.ref s2.heap.objs.size)))) (t':=t') (by rw[he]; exact True.intro) (.inl rfl) (λb u hb e1=>(UT _ _ (U3 hb)).trans (TN _ e1)) ⟨_,Vl _ hx1 rfl⟩ (XO.ok ?_)
 . rw[Lu he]at z;exact z
 . obtain⟨vs',sl',he',hz',h1'⟩:=I2.xo he;have e2:=Ia.at_.symm.trans he';cases e2;refine⟨vs.setIfInBounds 0 (.ref s2.heap.objs.size),sl,Vl _ hx1 rfl,by simpa using hz',?_⟩;show(vs.setIfInBounds 0 _)[1]?=some .none;rw[Array.getElem?_setIfInBounds_ne x_];exact h1'
noncomputable def ML(K:Frag):Sp:=λvs H Q _=>∃e tx c C L cd,vs=[.ref e,tx]/\H e=some (XO e (.ref C) none)/\sP K c C L cd/\Q .non H
structure CM (K:Frag) (mg:Str->Option Value) (L fL:Addr) (fd:FuncData) (st:Stmt):Prop where
 m:mg "LoadError"=some (.ref L)
 rd:readsIn K L (.type "type")=true
 sg:specialIn K (.ref L) "__getattribute__"=some (some (.builtin "type.__getattribute__"))
 fc:findCls K (.ref L) (.type "type") "__init__"=some (.val (.ref fL))
 f:PX K "__init__" "LoadError.__init__" st fL fd
 b:oI K fd ["self","text"] []
theorem Fz{pl:Sem Bool}{k L fL:Addr}{fd:FuncData}{st:Stmt}(T:CM X.K X.mg L fL fd st) (F:FnOk X.prog X.w X.K X.mg X.base CX0 k fL fd ["self","text"] (ML X.K)) (hr:gG k X.A) (hg:Gl X "LoadError") (ha:PA X [a,b] t)
  (hs:starEach [a,b] X.env=(false,eval a X.env)::starEach [b] X.env:=by rfl) (hpl:(backTo pos (starEach [b] X.env)).any (·.1)=false:=by rfl)
  (ht:eval (.Call (.Attribute (.Name "LoadError" p1) "__init__" p2) [a,b] [] pos) X.env=(do
   let ov <- eval (.Name "LoadError" p1) X.env
   standAt p2.atName
   let (f,first) <- holding [ov] (getMethod ov "__init__" pl)
   callWith pos f first (backTo pos (starEach [a,b] X.env)) (backToKw pos (keywordEach [] X.env))):=by rfl) :
  PE X (.Call (.Attribute (.Name "LoadError" p1) "__init__" p2) [a,b] [] pos) (zX X.K t):=by
 intro gV s σ H Q I h;refine methodCall_KW (jF I hg T.m ?_) ht;refine method_cls I.kIn T.sg (cls_read I.kIn T.rd T.fc (Ub ?_));have k3:handedIn (.ref fL)=true:=rfl;show wpAny _ _ (handedOut (.ref fL)) _ _ _;rw[handedOut_of k3];refine Ub ?_;have I1:=I.tok (s.toks+1);refine callWith_K (h₀:=X.base) I.ok.mod.kin T.f.kp (O9 (ha pos gV _ σ H _ I1 h) λus s1 ⟨vs,H1,I2,r,q⟩=>⟨I2.kIn,?_⟩) hs hpl;refine BX F hr T.b .nil HS I2 r ?_;rw[US];exact q
def Lv(K:Frag)(ta tv:TE)(f:Str):TS:=λD σ H=>tv σ H λy H1=>ta σ H1 λx H2=>∃e c C L cd,x=.ref e/\sP K c C L cd/\findIn K (.ref C) f=some none /\
 ((H2 e=some (XO e (.ref C) none)/\∀d,H2 d=none->d≠e->D.nx σ (OZ (OZ H2 d (XD d [(f,y)])) e (XO e (.ref C) (some d)))) ∨
  ∃d fs,H2 e=some (XO e (.ref C) (some d))/\H2 d=some (XD d fs)/\fs.lookup f=none/\fs.length<=900/\D.nx σ (OZ H2 d (XD d (fs++[(f,y)]))))
theorem uf{α:Type}{f g:Str}{y:α}:∀{fs:List (Str×α)},fs.lookup f=none->(fs++[(f,y)]).lookup g=if g=f then some y else fs.lookup g
 | [],_=>by
  by_cases h:g=f
  . subst h;simp
  . have:(g == f)=false:=UU.mpr h;simp[List.lookup,this,h]
 | (k,v)::fs,h=>by
  have h':(f == k)=false/\fs.lookup f=none:=by
   cases e:(f == k)with
   |true=>simp[List.lookup,e]at h
   |false=>exact⟨rfl,by simpa[List.lookup,e]using h⟩
  have ih:=uf (g:=g) (y:=y) h'.2
  cases e:(g == k)with
  | true =>
   have:g≠f:=λz=>by subst z;rw[h'.1]at e;cases e
   simp[List.lookup,e,this]
  | false =>
   simp only[VM,List.lookup,e];exact ih
theorem Jc{o value:Expr}{f:Str}{pos':Pos}{ta tv:TE}(ha:PE X o ta)(hv:PE X value tv)(hs:swapsWith value (some (.Attribute o f pos')) pos.line X.env=pure false:=by rfl):PS X (.Assign [.Attribute o f pos'] value pos) (Lv X.K ta tv f):=by
 intro gV s σ H D I h;refine plainObj_wpAny_Assign_Attribute (O9 (hv gV s σ H _ I h) λu s1 ⟨y,H1,I1,ry,q⟩=>O9 (ha gV s1 σ H1 _ I1 q) λov s2 ⟨x,H2,I2,rx,e,c,C,L,cd,ex,S,hf,q2⟩=>?_) hs;subst ex;obtain rfl:ov=Value.ref e:=rx;rcases q2 with⟨he,q2⟩|⟨d,fs,he,hd,hl,hz,q2⟩
 .
  obtain⟨vs,sl,od,Ia,hz⟩:=(I2.xo he).inst (λd z=>nomatch z);have dn:H2 s2.heap.objs.size=none:=I2.hok.fresh (Ud _);have dne:s2.heap.objs.size≠e:=Nat.ne_of_gt (TZ Ia.at_);refine ER S I2.kIn Ia rfl hf λh' tk e1 n1 k1=>⟨σ,_,?_,q2 s2.heap.objs.size dn dne⟩
  have hd1:eX X.prog X.w (OZ (OZ H2 s2.heap.objs.size (XD s2.heap.objs.size [(f,y)])) e (XO e (.ref C) (some s2.heap.objs.size))) h' s2.heap.objs.size (XD s2.heap.objs.size [(f,y)]):=by
   refine XD.ok n1 (λg=>?_) λg hg=>?_
   .
    by_cases z:g=f
    . subst z;simp[GW,ry]
    . have:(g == f)=false:=UU.mpr z;simp[List.lookup,this,z,GW]
   .
    by_cases z:g=f
    . simp[z]
    . simp[z]at hg
  obtain⟨vs0,sl0,he0,hz0,h10⟩:=I2.xo he;have e2:=Ia.at_.symm.trans he0;cases e2;have ho1:eX X.prog X.w (OZ (OZ H2 s2.heap.objs.size (XD s2.heap.objs.size [(f,y)])) e (XO e (.ref C) (some s2.heap.objs.size))) h' e (XO e (.ref C) (some s2.heap.objs.size)):=XO.ok ⟨vs,sl,e1,hz0,h10⟩;have tr:∀b o,H2 b=some o->b≠e->OZ (OZ H2 s2.heap.objs.size (XD s2.heap.objs.size [(f,y)])) e (XO e (.ref C) (some s2.heap.objs.size)) b=some o:=λb o q hb=>by rw[aB hb,aB (bh q dn)];exact q
  have nx:∀b o,H2 b=some o->(∀ψ,o≠.ext ψ)->b≠e:=λb o q n z=>by subst z;rw[he]at q;cases q;exact n _ rfl
  refine I2.un ⟨λb o hb n _ _=>k1 b o (λz=>by subst z;rw[he]at n;cases n) hb,λb o hb n _ _=>⟨o.slots,k1 b o (λz=>by subst z;rw[he]at n;cases n) hb⟩,λb o hb n _=>?_,λb o hb _=>?_,λb xs q=>tr b _ q (nx b _ q λ_ z=>nomatch z),λb o' u' q=>tr b _ q (nx b _ q λ_ z=>nomatch z),λb ps q=>tr b _ q (nx b _ q λ_ z=>nomatch z)⟩ λb o q=>?_
  . rw[aB (λz=>by subst z;rw[he]at n;cases n),aB (Ut (TZ hb))];exact n
  .
   by_cases z:b=e
   . subst z;exact⟨_,e1⟩
   . exact⟨o,k1 b o z hb⟩
  .
   by_cases hb:b=e
   . subst hb;rw[a6]at q;cases q;exact ho1
   .
    by_cases hb2:b=s2.heap.objs.size
    . subst hb2;rw[aB hb,a6]at q;cases q;exact hd1
    .
     rw[aB hb,aB hb2]at q;refine(I2.hok b o q).stay (λc v hc z=>k1 c v ?_ z) (λc z=>tr c _ z (nx c _ z λ_ z=>nomatch z)) (λc xs z=>tr c _ z (nx c _ z λ_ z=>nomatch z)) λc ob _ _ z=>tr c _ z (nx c _ z λ_ z=>nomatch z);rcases hc with rfl|hc
     . exact hb
     . exact nx c _ hc λ_ z=>nomatch z
 .
  obtain⟨mA,nA,rA,wA⟩:=I2.xd hd;obtain⟨od,_,_,hod,_⟩:=id nA;obtain⟨vs,sl,od',Ia,hz'⟩:=(I2.xo he).inst (λd' z=>by cases z;exact⟨od,hod⟩);refine ES S I2.kIn Ia rfl nA wA (by rw[TY];omega) hf λh' tk n1 sb=>⟨σ,_,?_,q2⟩
  refine I2.write (x:=d) (e:=d) (by rw[hd];exact True.intro) (.inl rfl) (λb u hb e1=>(sb.2 b hb).trans e1) (let ⟨o,_,_,e1,_⟩:=n1;⟨o,e1⟩) (XD.ok n1 (λg=>?_) λg hg=>?_)
  .
   rw[uf hl];by_cases z:g=f
   . subst z;simp[GW,ry]
   . rw[if_neg z,if_neg z];exact rA g
  .
   by_cases z:g=f
   . subst z;simp
   . rw[if_neg z]at hg;have:=wA g hg;simp at this ⊢;exact .inl this
end
noncomputable def Lw(K:Frag)(ns:List Str):Sp:=λvs H Q _=>∃e vals c C L cd,vs=.ref e::vals/\H e=some (XO e (.ref C) none)/\sP K c C L cd/\(∀f∈ns,findIn K (.ref C) f=some none)/\vals.length=ns.length /\
 ∀d,H d=none->d≠e->Q .non (OZ (OZ H d (XD d (ns.zip vals))) e (XO e (.ref C) (some d)))
def QE(K:Frag):TS:=HF (zX K (BW (Hz 0) (BW (Hz 1) MX)))
def QF(K:Frag)(x:V)(f:Str):TS:=NZ (HF (zX K (BW (Hz 0) (BW (tC x) MX)))) (Lv K (Hz 0) (Hz 1) f)
theorem Jd{K:Frag}{vs:List V}{H:Hp}{Q:VK}{E:XK}{a b:Str}(h:ML K vs H Q E):QE K {nx:=λ_ H'=>Q .non H',rt:=Q} (oJ [a,b] vs) H:=by obtain⟨e,tx,c,C,L,cd,rfl,he,S,q⟩:=h;exact⟨_,rfl,_,rfl,e,tx,c,C,L,cd,rfl,he,S,q⟩
theorem Je{K:Frag}{vs:List V}{H:Hp}{Q:VK}{E:XK}{a b f:Str}{x:V}(h:Lw K [f] vs H Q E):QF K x f {nx:=λ_ H'=>Q .non H',rt:=Q} (oJ [a,b] vs) H:=by
 obtain⟨e,vals,c,C,L,cd,rfl,he,S,hf,hl,q⟩:=h
 match vals,hl with
 |[v],_=>exact⟨_,rfl,e,x,c,C,L,cd,rfl,he,S,_,rfl,_,rfl,e,c,C,L,cd,rfl,S,hf f v6,.inl ⟨he,λd hd hde=>q d hd hde⟩⟩
structure Xc where
 c:Str
 ns:List Str
 ds:List D
def Ep(K:Frag)(H:Hp)(cls:Value)(dx:Option Addr)(x:Xc):Prop:=∃C vs,cls=.ref C/\jJ K x.c C=true/\(∀f∈x.ns,findIn K (.ref C) f=some none)/\XF H dx x.ns vs/\bU K H vs x.ds
theorem Ep.ext{K:Frag}{H H':Hp}{cls:Value}{dx:Option Addr}{x:Xc}(f:Ep K H cls dx x)(h:∀b o,H b=some o->H' b=some o):Ep K H' cls dx x:=by obtain⟨C,vs,e,s,fq,a,r⟩:=f;exact⟨C,vs,e,s,fq,a.pres λb o _ q=>h b o q,r.pres λb o _ q=>h b o q⟩
noncomputable def QG(P:Program)(w:World):Pu:=λouter H s E e s'=>∃a cls dx T H',e=.ref a/\s'.os=s.os/\AllBare s'.gens/\Un (O4 outer) [] H H' s.heap s'.heap/\O0 P w H' s'.heap/\QB s'.heap a cls dx (some T)/\H' a=none/\H' T=none /\
 s.heap.objs.size<=a/\s.heap.objs.size<=T/\E cls dx H'
section
variable{X:Cx}{gV:List (Addr×Obj)}{σ:St}{H:Hp}{s:Shared}
theorem O0.there{P:Program}{w:World}{H:Hp}{h:Heap}(x:O0 P w H h){b:Addr}{o:HO}(e:H b=some o):∃u,h.get? b=some u:=by
 have lt:=x.lt e
 cases o with
 |lst xs=>obtain⟨_,_,_,_,e⟩:=x b _ e;exact⟨_,e⟩
 |tup xs=>obtain⟨_,_,_,o,e,_⟩:=x b _ e;exact⟨_,e⟩
 |dK kvs=>obtain⟨_,_,_,_,o,_,_,e,_⟩:=x b _ e;exact⟨_,e⟩
 |dT kvs=>obtain⟨_,_,_,_,o,_,_,e,_⟩:=x b _ e;exact⟨_,e⟩
 |set S n=>obtain⟨o,_,_,_,e,_⟩:=x b _ e;exact⟨_,e⟩
 |ins C dx fs=>obtain⟨_,_,_,e,_⟩:=x b _ e;exact⟨_,e⟩
 |own y=>obtain⟨_,e⟩:=x b _ e;exact⟨_,e⟩
 |xd fs=>obtain⟨_,⟨_,_,_,e,_⟩,_⟩:=x b _ e;exact⟨_,e⟩
 |rng lo hi=>obtain⟨_,_,_,e⟩:=x b _ e;exact⟨_,e⟩
 |frz ob u=>obtain⟨e,_⟩:=x b _ e;exact⟨_,e⟩
 |tbl t=>obtain⟨_,e,_⟩:=x b _ e;exact⟨_,e⟩
 |met f y=>exact⟨_,(show h.get? b=some _ from x b _ e)⟩
 |ext φ=>obtain⟨_,⟨_,e⟩,_⟩:=x b _ e;exact⟨_,e⟩
structure QH (X:Cx) (gV:List (Addr×Obj)) (b:Addr):Prop where
 s0:X.s₀.heap.objs.size<=b
 loc:b≠X.env.locals
 cel:∀x c,X.env.cells.lookup x=some c->c≠b
 pin:∀p∈X.pn++gV,p.1≠b
theorem O7.newer(I:O7 X gV σ H s){b:Addr}(h:s.heap.objs.size<=b):QH X gV b:=by
 refine⟨T9 I.sz h,λz=>?_,λx c e z=>?_,λp hp z=>?_⟩
 . have:=I.lt;rw[<- z]at this;exact absurd this (Nat.not_lt.mpr h)
 . obtain⟨v,o,ho,_⟩:=I.cell x c e;have:=TZ ho;rw[z]at this;exact absurd this (Nat.not_lt.mpr h)
 . have:=TZ (I.pin p hp).1;rw[z]at this;exact absurd this (Nat.not_lt.mpr h)
structure zY (X:Cx) (gV:List (Addr×Obj)) (H:Hp) (s:Shared) (a:Addr) (cls:Value) (dx T:Option Addr):Prop where
 fly:QB s.heap a cls dx T
 na:H a=none
 nt:∀t,T=some t->H t=none
 wa:QH X gV a
 wt:∀t,T=some t->QH X gV t
def QI(X:Cx)(xp:Xc->Prop):Prop:=∀(gV:List (Addr×Obj))(σ:St)(H:Hp)(s:Shared)(a:Addr)(cls:Value)(dx T:Option Addr)(x:Xc),O7 X gV σ H s->zY X gV H s a cls dx T->Ep X.K H cls dx x->xp x->X.xe (.ref a) s
end
theorem CN{P:Program}{w:World}{K:Frag}{mg:Str->Option Value}{base:Heap}{N:List Str}{qual:Str}{scope:Scope}{f:Addr}{cd:Value}{A:Around}{outer:List Env}{s:Shared}{H:Hp}{E:XK}{xp:Xc->Prop}
  (h:∀cls dx H' x,Ep K H' cls dx x->xp x->E cls dx H'):QI (Em (QG P w) P w K mg base N qual scope f cd A outer s H E) xp:=by
 intro gV σ H1 s1 a cls dx T x I R F q;show wpAny (model P w) _ (leaving _ (.ref a)) _ _ s1;unfold leaving;have hl:=I.stack;refine tu (Ls (F:=s.heap.objs.size) I.ok.frames hl rfl R.fly λh' T' fl hT k1 k2=>?_);have neL:∀b o,s.heap.get? b=some o->b≠s.heap.objs.size:=λb o e=>Ut (TZ e);have neA:∀b o,s.heap.get? b=some o->b≠a:=λb o e=>Ut (TU (TZ e) R.wa.s0);have neT:∀b o,s.heap.get? b=some o->some b≠T:=λb o e z=>absurd (TZ e) (Nat.not_lt.mpr (R.wt b z.symm).s0);have tra:∀b o,H1 b=some o->b≠a/\some b≠T/\b∉O4 (envOfC qual scope s.heap.objs.size f cd::outer):=λb o e=>by refine⟨λz=>(by subst z;rw[R.na]at e;cases e),λz=>(by rw[R.nt b z.symm]at e;cases e),λz=>?_⟩;have:=I.stkFree b z;rw[e]at this;cases this
 refine⟨a,cls,dx,T',H1,rfl,I.os,I.bare,⟨λb o e n hf hx=>?_,λb o e n hf hx=>?_,λb o e n hx=>I.base.free b o e n hx,λb o e hx=>?_,I.base.tups,I.base.frzs,I.base.tbls⟩,λb o e=>?_,fl,R.na,?_,R.wa.s0,T9 I.sz hT,h cls dx H1 x F q⟩
 .
  refine k1 b o (neA b o e) (neT b o e) (λhm=>?_) (I.base.keep b o e n hf hx);rcases Ue.mp (show b∈s.heap.objs.size::O4 outer from hm)with z|z
  . exact neL b o e z
  . exact hf z
 . obtain⟨sl,e1⟩:=I.base.slot b o e n hf hx;obtain⟨sl',e2⟩:=k2 b _ (neA b o e) (neT b o e) e1;exact⟨sl',e2⟩
 . obtain⟨o',e1⟩:=I.base.there b o e hx;obtain⟨sl',e2⟩:=k2 b _ (neA b o e) (neT b o e) e1;exact⟨_,e2⟩
 .
  refine(I.hok b o e).stay (λc v hc z=>?_) (λ_ z=>z) (λ_ _ z=>z) λ_ _ _ _ z=>z
  have ht:∃o',H1 c=some o':=by
   rcases hc with rfl|hc
   . exact⟨o,e⟩
   . exact⟨_,hc⟩
  obtain⟨o',ho'⟩:=ht;obtain⟨t1,t2,t3⟩:=tra c o' ho';exact k1 c v t1 t2 t3 z
 . exact I.hok.fresh hT
abbrev QJ:=List D->(L->Prop)->(Xc->Prop)->Prop
noncomputable def QK(K:Frag)(n:Nat)(fs:QJ):Sp:=λvs H Q E=>vs.length=n/\∃ds so xp,bU K H vs ds/\fs ds so xp/\(∀v H' r,aD K H H' [some v] [r]->so r->Q v H')/\∀cls dx H' x,Ep K H' cls dx x->xp x->E cls dx H'
def ug(fs:QJ)(xp:Xc->Prop)(t:W (List L)):W L:=λZ so=>t Z λls Z1=>Fb ls λds=>fs ds (λr=>so r Z1) xp
theorem aD.ds{K:Frag}{H:Hp}:∀{vs:List V}{ds:List D},bU K H vs ds->Paired (ba K H) (vs.map some) (ds.map .d)
 |_,_,.nil=>.nil
 |_,_,.cons h t=>.cons ⟨_,rfl,h⟩ (aD.ds t)
section
variable{X:Cx}{k n:Nat}{f:Addr}{fd:FuncData}{ps:List Str}{fs:QJ}{x:Str}{p pos:Pos}{e:Expr}{es:List Expr}{bs:List (Option Nat)}{t:W (List L)}{xp:Xc->Prop}
theorem Lx{gV:List (Addr×Obj)}{σ:St}{H Pr:Hp}{s:Shared}{Z:Ev}{us:List Value}{vs:List V}{ds:List D}{so:L->Ev->Prop}{Ex:Value->Shared->Prop}(F:FnOk X.prog X.w X.K X.mg X.base (QG X.prog X.w) k f fd ps (QK X.K n fs))(hr:gG k X.A)(hb:oI X.K fd ps [])(hl:vs.length=n)
  (I:O7 X gV σ H s) (E:aD X.K Pr H σ Z) (r:cn vs us) (rs:bU X.K H vs ds) (h:fs ds (λr=>so r Z) xp)
  (hx:∀(s':Shared)(H':Hp)(a:Addr)(cls:Value)(dx T:Option Addr)(y:Xc),O7 X gV σ H' s'->aD X.K Pr H' σ Z->zY X gV H' s' a cls dx T->Ep X.K H' cls dx y->xp y->Ex (.ref a) s') :
  wpAny (model X.prog X.w) X.A (call (.ref f) us) (EL X gV σ Pr so) Ex s:=by
 have hsp:QK X.K n fs vs (vQ H) (λv H'=>∃r,aD X.K (vQ H) H' [some v] [r]/\so r Z) (λcls dx H'=>∃y,Ep X.K H' cls dx y/\xp y) :=
  ⟨hl,ds,_,xp,rs.hid,h,λv H' r E1 p=>⟨r,E1,p⟩,λcls dx H' y q1 q2=>⟨y,q1,q2⟩⟩
 have hl':us.length=ps.length:=by rw[<- r.length];exact F.len _ _ _ _ hsp
 have bt:=hb s us I.kIn (by rw[US];exact hl');rw[US]at bt;refine Wi (codeAny_mono (F.run X.A X.stack s (vQ H) ⟨us,[]⟩ us vs _ _ hr I.hide bt r hsp) λres s' hq=>?_)
 cases res with
 | error e =>
  obtain⟨a,cls,dx,T,H',rfl,os,bare,un,hok,fl,na,nt,za,zt,y,q1,q2⟩:=hq;obtain⟨I2,ext,back⟩:=I.unhide os bare un hok;refine hx s' _ a cls dx (some T) y I2 (E.exten ext) ⟨fl,?_,λt et=>?_,I.newer za,λt et=>by cases et;exact I.newer zt⟩ (q1.ext λb o q=>fP q) q2
  . rw[qC na];exact I.hok.fresh za
  . cases et;rw[qC nt];exact I.hok.fresh zt
 | ok fl =>
  cases fl with
  | ret u =>
   obtain⟨v,H',os,bare,un,hok,rv,r,E2,p⟩:=hq;obtain⟨I2,ext,back⟩:=I.unhide os bare un hok;have E3:=E.exten ext
   have fr:∀a∈bc r,H a=none/\∃vs,H' a=some vs/\HV vs:=λa ha=>by
    have ha':a∈owns [r]:=by rw[aN];exact Uj _ ha
    obtain⟨vs',e1,m1⟩:=E2.at_own ha';exact⟨back a _ e1 (E2.off a ha'),vs',e1,m1⟩
   refine⟨v,_,r,Z,I2,rv,⟨E3.sub,?_,λa ha=>?_,.cons ?_ E3.sl⟩,p⟩
   . rw[aN];have n1:=E2.nd;rw[aN]at n1;refine UC.mpr ⟨(UC.mp n1).1,E3.nd,λa ha b hb z=>?_⟩;subst z;obtain⟨vs',e1,_⟩:=E.at_own hb;rw[(fr a ha).1]at e1;cases e1
   .
    rw[aN]at ha;rcases Uw.mp ha with z|z
    .
     cases q:Pr a with
     |none=>rfl
     |some o=>have:=E.sub a o q;rw[(fr a z).1]at this;cases this
    . exact E3.off a z
   .
    have sl:=E2.sl
    cases sl with
    | cons q t =>
     exact q.pres (λb o _ e=>fP e) r λa ha=>by obtain⟨_,vs',e1,_⟩:=fr a ha;rw[fP e1,e1]
  |next=>exact False.elim hq
  |brk=>exact False.elim hq
  |cont=>exact False.elim hq
theorem FC(F:FnOk X.prog X.w X.K X.mg X.base (QG X.prog X.w) k f fd ps (QK X.K n fs))(hr:gG k X.A)(hg:Gl X x)(hm:X.mg x=some (.ref f))(hk:PySem.W.keepIn X.K (.ref f)=true)(hb:oI X.K fd ps [])(hx:QI X xp)
  (ha:P0 X (e::es) bs t) (hn:bs.length=n) (hdb:(x == ("__debug__" : Str))=false:=by decide) (he:starEach (e::es) X.env=(false,eval e X.env)::starEach es X.env:=by rfl) (hpl:(backTo pos (starEach es X.env)).any (·.1)=false:=by rfl) :
  PL X (.Call (.Name x p) (e::es) [] pos) (ug fs xp t):=by
 intro gV s σ H Pr Z so I E0 h;refine Ve (jF I hg hm ?_ hdb);refine PySem.W.callWith_K (h₀:=X.base) I.ok.mod.kin hk (O9 (ha pos gV s σ H Pr Z _ I E0 h) λus s1 ⟨vs,H1,ls,Z1,I1,r,hl,hbl,E1,hv,q⟩=>⟨I1.kIn,?_⟩) he hpl;obtain⟨ds,rfl,q1⟩:=jN q;have p4:vs.length=ds.length:=by simpa using hl
 exact Lx (so:=so) F hr hb (hbl.trans hn) I1 (E1.drop (by simp[p4])) r (jO p4 E1) q1 λs' H' a cls dx T y I2 _ R q1 q2=>hx gV σ H' s' a cls dx T y I2 R q1 q2
noncomputable def Bd(ns:List Str)(ds:List D):List D:=if ns=[]then[]else ds
def wL(c:Str)(ns:List Str)(xp:Xc->Prop)(t:W (List L)):W Fl:=λZ _=>t Z λls _=>Fb ls λds=>(ns=[]∨ds.length=ns.length)/\ds.length<=8/\xp ⟨c,ns,Bd ns ds⟩
structure XT (K:Frag) (mg:Str->Option Value) (c:Str) (C fI:Addr) (fd:FuncData) (ps:List Str) (ns:List Str):Prop where
 m:mg c=some (.ref C)
 s:jJ K c C=true
 mkx:Qz K C fI
 b:oI K fd ps []
 kp:PySem.W.keepIn K (.ref C)=true
 fn:∀f∈ns,findIn K (.ref C) f=some none
def CO(K:Frag)(sp:Sp)(C:Addr)(ns:List Str)(vs:List V):Prop:=∀(e:Addr)(H:Hp)(Q:VK),H e=some (XO e (.ref C) none) ->
 (∀H2 dx,(∀b,b≠e->∀o,H b=some o->H2 b=some o)->H2 e=some (XO e (.ref C) dx)->((ns=[]/\dx=none)∨∃d,dx=some d/\d≠e/\H2 d=some (XD d (ns.zip vs))/\H d=none/\ns.length=vs.length)->Q .non H2)->sp (.ref e::vs) H Q E0
theorem Jf{K:Frag}{c:Str}{C:Addr}{ns:List Str}{vs:List V}(h:jJ K c C=true)(hf:∀f∈ns,findIn K (.ref C) f=some none)(hl:vs.length=ns.length):CO K (Lw K ns) C ns vs:=λe H Q he q=>by
 obtain⟨L,cd,S⟩:=jK h;refine⟨e,vs,c,C,L,cd,rfl,he,S,hf,hl,λd hd hde=>q _ (some d) (λb hb o z=>?_) a6 (.inr ⟨d,rfl,hde,?_,hd,hl.symm⟩)⟩
 . rw[aB hb,aB (bh z hd)];exact z
 . rw[aB hde,a6]
theorem CP{c:Str}{C fI:Addr}{ns:List Str}{sp:Sp}{gV:List (Addr×Obj)}{σ:St}{H:Hp}{s:Shared}{us:List Value}{vs:List V}{Q:Value->Shared->Prop}(T:XT X.K X.mg c C fI fd ps ns)(F:FnOk X.prog X.w X.K X.mg X.base CX0 k fI fd ps sp)(hi:CO X.K sp C ns vs)(hr:gG (k+1) X.A)(hz:us.length<=sizeLine)
  (I:O7 X gV σ H s) (r:cn vs us)
  (hq:∀(s':Shared)(H':Hp)(e:Addr)(dx:Option Addr),O7 X gV σ H' s'->(∀b o,H b=some o->H' b=some o)->H' e=none->s.heap.objs.size<=e->QB s'.heap e (.ref C) dx none->((ns=[]/\dx=none)∨∃d od,dx=some d/\H' d=some (.frz od (.xd (ns.zip vs)))/\ns.length=vs.length)->Q (.ref e) s') :
  wpAny (model X.prog X.w) X.A (call (.ref C) us) Q X.xe s:=by
 obtain⟨hh,g,d0,tk,os⟩:=s;refine Ni I.kIn T.mkx hz λh' e hm hsz=>?_;obtain⟨tt,he,_,_⟩:=hm.there;have hn:H e=none:=I.hok.fresh hsz;have I1:O7 X gV σ (OZ H e (XO e (.ref C) none)) ⟨h',g,d0,tk,os⟩:=I.laid (t':=tk) hm.keeps hsz (XO.ok ⟨_,_,he,v6,rfl⟩);have hsp:=hi e (OZ H e (XO e (.ref C) none)) (λv H2=>v=.non/\∃dx,(∀b,b≠e->∀o,OZ H e (XO e (.ref C) none) b=some o->H2 b=some o)/\H2 e=some (XO e (.ref C) dx)/\((ns=[]/\dx=none)∨∃d,dx=some d/\d≠e/\H2 d=some (XD d (ns.zip vs))/\OZ H e (XO e (.ref C) none) d=none/\ns.length=vs.length)) a6 λH2 dx a b c=>⟨rfl,dx,a,b,c⟩;have r2:cn (V.ref e::vs) (Value.ref e::us):=.cons rfl r;have hl:(Value.ref e::us).length=ps.length:=by rw[<- r2.length];exact F.len _ _ _ _ hsp
 have bt:=T.b _ (Value.ref e::us) I1.kIn (by rw[US];exact hl);rw[US]at bt;refine Wi (codeAny_mono (F.run _ X.stack _ _ ⟨Value.ref e::us,[]⟩ (Value.ref e::us) _ _ E0 (hr.make C us []) (I1.env0.make C us []) bt r2 hsp) λres s' hq'=>?_)
 cases res with
 |error x=>exact hq'.elim
 | ok fl =>
  cases fl with
  | ret u =>
   obtain⟨v,H2,I2,rv,ev,dx,kp,e2,alt⟩:=I1.after hq';subst ev;refine⟨rv,?_⟩;have fl:=I2.xo e2;have I3:=I2.forget e2
   have up:∀b o,H b=some o->QA H2 e b=some o:=λb o q=>by
    have hb:b≠e:=λz=>by subst z;rw[hn]at q;cases q
    rw[d7 hb];exact kp b hb o (by rw[aB hb];exact q)
   rcases alt with⟨z1,z2⟩|⟨d,z1,z2,z3,z4,z5⟩
   . exact hq s' _ e dx I3 up nI hsz fl (.inl ⟨z1,z2⟩)
   .
    have hd:QA H2 e d=some (XD d (ns.zip vs)):=by rw[d7 z2];exact z3
    obtain⟨mA,nA,rA,_⟩:=I2.xd z3;obtain⟨od,es,ep,hod,r1⟩:=id nA;have I4:=I3.reword (w:=.frz od (.xd (ns.zip vs))) hd (λq=>q) (λ_ q=>nomatch q) ⟨hod,mA,nA,rA⟩ (λ_ _ _ q=>nomatch q);have dn:H d=none:=by rw[aB z2]at z4;exact z4
    refine hq s' _ e dx I4 (λb o q=>?_) (by rw[aB (U3 z2)];exact nI) hsz fl (.inr ⟨d,od,z1,a6,z5⟩);rw[aB (bh q dn)];exact up b o q
  |next=>exact False.elim hq'
  |brk=>exact False.elim hq'
  |cont=>exact False.elim hq'
theorem FD{c:Str}{C fI:Addr}{ns:List Str}{sp:Sp}{cpos:Pos}(T:XT X.K X.mg c C fI fd ps ns)(F:FnOk X.prog X.w X.K X.mg X.base CX0 k fI fd ps sp)(hi:∀vs:List V,vs.length=n->CO X.K sp C ns vs)(hr:gG (k+1) X.A)(hg:Gl X c)(hx:QI X xp)(ha:P0 X (e::es) bs t)(hn:bs.length=n)
  (hdb:(c == ("__debug__" : Str))=false:=by decide) (he:starEach (e::es) X.env=(false,eval e X.env)::starEach es X.env:=by rfl) (hpl:(backTo cpos (starEach es X.env)).any (·.1)=false:=by rfl) :
  PM X (.Raise (some (.Call (.Name c p) (e::es) [] cpos)) none pos) (wL c ns xp t):=by
 intro gV s σ H Pr Z so I E0 h;obtain⟨LL,cd,S⟩:=jK T.s;rw[arm_exec_Raise];refine tu (V3 ?_);refine Lr S hr.hd (tu (Vc (Ve (jF I hg T.m ?_ hdb)) (λv s3 h3=>tu (V3 (Ub h3))) λ_ _ z=>z));refine PySem.W.callWith_K (h₀:=X.base) I.ok.mod.kin T.kp (O9 (ha cpos gV s σ H Pr Z _ I E0 h) λus s1 ⟨vs,H1,ls,Z1,I1,r,hl,hbl,E1,hv,q⟩=>⟨I1.kIn,?_⟩) he hpl;obtain⟨ds,rfl,q0,q1,q⟩:=jN q;have p4:vs.length=ds.length:=by simpa using hl
 have rs:=jO p4 E1;refine CP T F (hi vs (hbl.trans hn)) hr (by show us.length<=sizeLine;rw[<- r.length,p4];exact T9 q1 x_) I1 r λs' H' e dx I2 up na hsz fl alt=>⟨e,dx,rfl,I2.kIn,fl,?_⟩;refine hx gV σ H' s' e _ dx none ⟨c,ns,Bd ns ds⟩ I2 ⟨fl,na,(λ_ z=>nomatch z),I1.newer hsz,(λ_ z=>nomatch z)⟩ ?_ q;rcases alt with⟨z1,z2⟩|⟨d,od,z1,z2,z3⟩
 . exact⟨C,[],rfl,T.s,T.fn,.inl ⟨z1,rfl,z2⟩,by unfold Bd;rw[if_pos z1];exact .nil⟩
 .
  by_cases zn:ns=[]
  .
   subst zn;have e0:vs=[]:=by cases vs with|nil=>rfl|cons _ _=>simp at z3
   subst e0;exact⟨C,[],rfl,T.s,T.fn,.inr ⟨d,od,z1,z2,z3⟩,by unfold Bd;rw[if_pos rfl];exact .nil⟩
  . exact⟨C,vs,rfl,T.s,T.fn,.inr ⟨d,od,z1,z2,z3⟩,by unfold Bd;rw[if_neg zn];exact rs.pres λb o _ q=>up b o q⟩
end
def QL(so:L->Prop):Fl->Ev->Prop:=λf _=>match f with
 |.rt r=>so r
 |.nx=>so (.d .non)
 |_=>False
theorem Ly{P:Program}{w:World}{K:Frag}{mg:Str->Option Value}{base:Heap}{x qual:Str}{st:Stmt}{f:Addr}{fd:FuncData}{N ps:List Str}{k:Nat}{fs:QJ}(F:PX K x qual st f fd)(S:aC N ps (au st))(t:(Xc->Prop)->W Fl)
  (hbody:∀(cdv:Value)(A:Around)(outer:List Env)(s:Shared)(H:Hp)(E:XK)(xp:Xc->Prop),gG k (A.deeper (envOfC qual (au st) s.heap.objs.size f cdv))->(∀cls dx H' y,Ep K H' cls dx y->xp y->E cls dx H') ->
   P1 (Em (QG P w) P w K mg base N qual (au st) f cdv A outer s H E) (dz st) (t xp))
  (h:∀ds so xp,ds.length=ps.length->fs ds so xp->t xp (ds.map .d++List.replicate (N.length-ps.length) .un) (QL so)):FnOk P w K mg base (QG P w) (k+1) f fd ps (QK K ps.length fs):=by
 obtain⟨oc,od,kV,doc,pm,an,cdv,ct,osl,rfl,lk,hcd⟩:=F.ex;refine HK lk hcd S (λvs H Q E q=>q.1) λA outer s H vs Q E hr q=>?_;obtain⟨hl,ds,so,xp,rs,hf,q1,q2⟩:=q;have E0:aD K H H (vs.map some) (ds.map .d):=⟨λ_ _ e=>e,by rw[Ca];exact Wb,λa ha=>(by rw[Ca]at ha;simp at ha),aD.ds rs⟩;refine⟨_,(hbody cdv A outer s H E xp hr q2).pss,H,ds.map .d++List.replicate (N.length-ps.length) .un,QL so,?_,h ds so xp (by rw[<- rs.length];exact hl) hf,λσ' H' Z' E' p=>?_,λ_ _ _ _ p=>p.elim,λ_ _ _ _ p=>p.elim,λv τ H' r Z' E' p=>?_⟩
 . unfold oJ;rw[hl];exact E0.uns _
 . exact q1 .non H' (.d .non) ((⟨E'.sub,Wb,λa ha=>(by simp[owns]at ha),.nil⟩:aD K H H' [] []).cons_d .non) p
 . exact q1 v H' r (aD.left (τ:=[some v]) (lam:=[r]) E' rfl) p
noncomputable def QM(c y:Str):Bool:=c == y ||c == ("LoadError" : Str)
structure XH (K:Frag) (mg:Str->Option Value) (c:Str) (C:Addr):Prop where
 m:mg c=some (.ref C)
 ns:nsIn K mainGlobals c=some (some (.ref C))
 cls:∃cd,clsIn K C=some cd/\cd.name=c
 ty:typeIn K (.ref C)=some (.type "type")
 base:mroIn K C (.type "BaseException")=some true
section
variable{K:Frag}{mg:Str->Option Value}{c y:Str}{C D:Addr}
theorem XH.sub(T:XH K mg c C)(hs:jJ K y D=true):mroIn K D (.ref C)=some (QM c y):=by
 obtain⟨L,cd,S⟩:=jK hs;obtain⟨cdC,hC,hn⟩:=T.cls;obtain⟨kL,hL,hnL⟩:=S.lname;rw[S.mroIn,EN]
 congr 1
 unfold QM
 have e1:(C == D)=(c == y):=by
  by_cases h:c=y
  . subst h;have z:=T.ns.symm.trans S.own;cases z;simp
  . rw[UU.mpr h,UU];intro z;subst z;rw[S.cls]at hC;cases hC;exact h (hn.symm.trans S.name)
 have e2:(C == L)=(c == ("LoadError" : Str)):=by
  by_cases h:c=("LoadError" : Str)
  . subst h;have z:=T.ns.symm.trans S.load;cases z;simp
  . rw[UU.mpr h,UU];intro z;subst z;rw[hL]at hC;cases hC;exact h (hn.symm.trans hnL)
 rw[e1,e2]
theorem Lz{M:Model}{A:Around}{E:Value->Shared->Prop}{s:Shared}{a:Addr}{ox:Obj}{Q:Bool->Shared->Prop}(T:XH K mg c C)(hs:jJ K y D=true)(hA:QM c y=true)(X:K.In s.heap)(he:s.heap.get? a=some ox)(hc:ox.cls=.ref D)(hq:Q true s) :
  wpAny M A (excMatches (.ref a) (.ref C)) Q E s:=by
 obtain⟨hp,g,d,tk,os⟩:=s;have he:hp.get? a=some ox:=he;obtain⟨cd,hcd,_⟩:=T.cls;obtain⟨oc,odc,slc,hK⟩:=qO hcd;have hC:hp.get? C=some ⟨oc,odc,.cls cd,slc⟩:=X _ _ hK;have L1:Looks M hp (typeOf (.ref C)) (.type "type"):=looks_typeIn X T.ty;have L2:Looks M hp (isSubtype (.ref C) (.type "BaseException")) true:=looks_mroIn X T.base;have L3:Looks M hp (isSubtype (.ref D) (.ref C)) true:=looks_mroIn X (by rw[T.sub hs,hA]);have f:=tc_notTuple;have L4:Looks M hp (isInstance (.ref C) (.type "tuple")) false:=L1.andThen (Looks.of_pure f);have L5:Looks M hp (typeOf (.ref a)) (.ref D):=hc ▸ (Looks.ld he).andThen .now;unfold excMatches;refine tu (L4.at ?_);dsimp only;rw[if_neg (by decide)]
 repeat (first|with_reducible refine L2.at ?_|with_reducible refine L3.at ?_|with_reducible refine L5.at ?_|with_reducible refine UX hC ?_|wp_step)
 exact hq
end
noncomputable abbrev Cx.tr(X:Cx)(gV:List (Addr×Obj))(E:Value->Shared->Prop):Cx:={X with pn:=X.pn++gV,xe:=E}
noncomputable abbrev Cx.han(X:Cx)(a:Addr):Cx:={X with A:=X.A.mark (some (.ref a)),calm:=false,xe:=λ_ _=>False}
section
variable{X:Cx}{gV pins0:List (Addr×Obj)}{σ:St}{H:Hp}{s:Shared}{E:Value->Shared->Prop}{a:Addr}
theorem Cx.Ok.tr(ok:X.Ok):(X.tr gV E).Ok:=⟨ok.mod,ok.kind,ok.glob,ok.blt,ok.above,ok.inj,ok.has,ok.cab,ok.hd,ok.frames,ok.stk,ok.exf,ok.bs,ok.bsz,ok.noex,ok.exfs,ok.funs,ok.frf,ok.tbs⟩
theorem Cx.Ok.untr(ok:(X.tr gV E).Ok):X.Ok:=⟨ok.mod,ok.kind,ok.glob,ok.blt,ok.above,ok.inj,ok.has,ok.cab,ok.hd,ok.frames,ok.stk,ok.exf,ok.bs,ok.bsz,ok.noex,ok.exfs,ok.funs,ok.frf,ok.tbs⟩
theorem O7.tr(I:O7 X gV σ H s):O7 (X.tr gV E) [] σ H s:=⟨I.ok.tr,I.os,I.bare,I.base,I.loc,I.cell,I.free,I.freeC,λp hp=>I.pin p (by simpa using hp),I.hok,I.len⟩
theorem O7.untr(I:O7 (X.tr pins0 E) gV σ H s):O7 X pins0 σ H s:=⟨I.ok.untr,I.os,I.bare,I.base,I.loc,I.cell,I.free,I.freeC,λp hp=>I.pin p (Uj _ hp),I.hok,I.len⟩
theorem O7.han(I:O7 X gV σ H s)(a:Addr):O7 (X.han a) gV σ H s :=
 ⟨⟨I.ok.mod,I.ok.kind,I.ok.glob,I.ok.blt,I.ok.above,I.ok.inj,I.ok.has,I.ok.cab,(λz=>nomatch z),I.ok.frames,I.ok.stk,I.ok.exf,I.ok.bs,I.ok.bsz,I.ok.noex,I.ok.exfs,I.ok.funs,I.ok.frf,I.ok.tbs⟩,I.os,I.bare,I.base,I.loc,I.cell,I.free,I.freeC,I.pin,I.hok,I.len⟩
theorem O7.unhan(I:O7 (X.han a) gV σ H s)(ok:X.Ok):O7 X gV σ H s:=⟨ok,I.os,I.bare,I.base,I.loc,I.cell,I.free,I.freeC,I.pin,I.hok,I.len⟩
theorem SM.unhan{Pr:Hp}{so:Fl->Ev->Prop}{f:Flow}{s':Shared}(ok:X.Ok)(h:SM (X.han a) gV Pr so f s'):SM X gV Pr so f s':=by
 cases f with
 |next=>obtain⟨σ',H',Z',I,r⟩:=h;exact⟨σ',H',Z',I.unhan ok,r⟩
 |brk=>obtain⟨σ',H',Z',I,r⟩:=h;exact⟨σ',H',Z',I.unhan ok,r⟩
 |cont=>obtain⟨σ',H',Z',I,r⟩:=h;exact⟨σ',H',Z',I.unhan ok,r⟩
 |ret u=>obtain⟨v,σ',H',r',Z',τ,I,r⟩:=h;exact⟨v,σ',H',r',Z',τ,I.unhan ok,r⟩
theorem SM.untr{Pr:Hp}{so:Fl->Ev->Prop}{f:Flow}{s':Shared}(h:SM (X.tr pins0 E) gV Pr so f s'):SM X pins0 Pr so f s':=by
 cases f with
 |next=>obtain⟨σ',H',Z',I,r⟩:=h;exact⟨σ',H',Z',I.untr,r⟩
 |brk=>obtain⟨σ',H',Z',I,r⟩:=h;exact⟨σ',H',Z',I.untr,r⟩
 |cont=>obtain⟨σ',H',Z',I,r⟩:=h;exact⟨σ',H',Z',I.untr,r⟩
 |ret u=>obtain⟨v,σ',H',r',Z',τ,I,r⟩:=h;exact⟨v,σ',H',r',Z',τ,I.untr,r⟩
end
def QN(X:Cx)(gV:List (Addr×Obj))(Pr:Hp)(xp:Xc->Ev->Prop):Value->Shared->Prop:=λe s'=>∃σ' H' Z' a cls dx T x,e=.ref a/\O7 X gV σ' H' s'/\aD X.K Pr H' σ' Z'/\zY X gV H' s' a cls dx T/\Ep X.K H' cls dx x/\xp x Z'
noncomputable abbrev Cx.tb(X:Cx)(gV:List (Addr×Obj))(Pr:Hp)(xp:Xc->Ev->Prop):Cx:=X.tr gV (QN X gV Pr xp)
def Le(P Q:Hp):Prop:=∀b o,P b=some o->Q b=some o
theorem aD.le{K:Frag}{P Q H:Hp}{σ:St}{Z:Ev}(E:aD K Q H σ Z)(h:Le P Q):aD K P H σ Z:=⟨λb o e=>E.sub b o (h b o e),E.nd,λa ha=>(by
  have z:=E.off a ha
  cases q:P a with
  |none=>rfl
  |some o=>rw[h a o q]at z;cases z),E.sl⟩
def QO(X:Cx)(pins0:List (Addr×Obj))(Pr0:Hp)(xp:Xc->Ev->Prop)(e:Expr)(t:W L):Prop :=
 ∀(gV:List (Addr×Obj))(s:Shared)(σ:St)(H Pr:Hp)(Z:Ev)(so:L->Ev->Prop),Le Pr0 Pr->O7 (X.tb pins0 Pr0 xp) gV σ H s->aD X.K Pr H σ Z->t Z so->wpAny (model X.prog X.w) X.A (eval e X.env) (EL (X.tb pins0 Pr0 xp) gV σ Pr so) (QN X pins0 Pr0 xp) s
def QP(X:Cx)(pins0:List (Addr×Obj))(Pr0:Hp)(xp:Xc->Ev->Prop)(st:Stmt)(t:W Fl):Prop :=
 ∀(gV:List (Addr×Obj))(s:Shared)(σ:St)(H Pr:Hp)(Z:Ev)(so:Fl->Ev->Prop),Le Pr0 Pr->O7 (X.tb pins0 Pr0 xp) gV σ H s->aD X.K Pr H σ Z->t Z so->wpAny (model X.prog X.w) X.A (exec st X.env) (SM (X.tb pins0 Pr0 xp) gV Pr so) (QN X pins0 Pr0 xp) s
def N7(X:Cx)(pins0:List (Addr×Obj))(Pr0:Hp)(xp:Xc->Ev->Prop)(sts:List Stmt)(t:W Fl):Prop :=
 ∀(gV:List (Addr×Obj))(s:Shared)(σ:St)(H Pr:Hp)(Z:Ev)(so:Fl->Ev->Prop),Le Pr0 Pr->O7 (X.tb pins0 Pr0 xp) gV σ H s->aD X.K Pr H σ Z->t Z so->wpAny (model X.prog X.w) X.A (execs sts X.env) (SM (X.tb pins0 Pr0 xp) gV Pr so) (QN X pins0 Pr0 xp) s
def rm(fs:QJ)(xp:Xc->Ev->Prop)(t:W (List L)):W L:=λZ so=>t Z λls Z1=>Fb ls λds=>fs ds (λr=>so r Z1) (λy=>xp y Z1)
section
variable{X:Cx}{pins0:List (Addr×Obj)}{Pr0:Hp}{xp:Xc->Ev->Prop}{k n:Nat}{f:Addr}{fd:FuncData}{ps:List Str}{fs:QJ}{x:Str}{p pos:Pos}{e:Expr}{es:List Expr}{bs:List (Option Nat)}{t:W (List L)}{te:W L}{tm:W Fl}{st:Stmt}
theorem FE(F:FnOk X.prog X.w X.K X.mg X.base (QG X.prog X.w) k f fd ps (QK X.K n fs))(hr:gG k X.A)(hg:Gl X x)(hm:X.mg x=some (.ref f))(hk:PySem.W.keepIn X.K (.ref f)=true)(hb:oI X.K fd ps [])
  (ha:P0 (X.tb pins0 Pr0 xp) (e::es) bs t) (hn:bs.length=n) (hdb:(x == ("__debug__" : Str))=false:=by decide) (he:starEach (e::es) X.env=(false,eval e X.env)::starEach es X.env:=by rfl) (hpl:(backTo pos (starEach es X.env)).any (·.1)=false:=by rfl) :
  QO X pins0 Pr0 xp (.Call (.Name x p) (e::es) [] pos) (rm fs xp t):=by
 intro gV s σ H Pr Z so le I E0 h;refine Ve (jF (X:=X.tb pins0 Pr0 xp) I hg hm ?_ hdb);refine PySem.W.callWith_K (h₀:=X.base) I.ok.mod.kin hk (O9 (ha pos gV s σ H Pr Z _ I E0 h) λus s1 ⟨vs,H1,ls,Z1,I1,r,hl,hbl,E1,hv,q⟩=>⟨I1.kIn,?_⟩) he hpl;obtain⟨ds,rfl,q1⟩:=jN q;have p4:vs.length=ds.length:=by simpa using hl
 refine Lx (X:=X.tb pins0 Pr0 xp) (so:=so) F hr hb (hbl.trans hn) I1 (E1.drop (by simp[p4])) r (jO p4 E1) q1 λs' H' a cls dx T y I2 E2 R z1 z2=>?_;exact⟨σ,H',Z1,a,cls,dx,T,y,rfl,I2.untr,E2.le le,⟨R.fly,R.na,R.nt,⟨R.wa.s0,R.wa.loc,R.wa.cel,λp hp=>R.wa.pin p (Uj _ hp)⟩,λt et=>⟨(R.wt t et).s0,(R.wt t et).loc,(R.wt t et).cel,λp hp=>(R.wt t et).pin p (Uj _ hp)⟩⟩,z1,z2⟩
theorem Jg(h:QO X pins0 Pr0 xp e te):QO X pins0 Pr0 xp e (bp te):=λgV s σ H Pr Z so le I E ht =>
 O9 (h gV s σ H Pr Z _ le I E ht) λu s1 q=>by obtain⟨v,H',x,Z',I',rv,E',p⟩:=EL.frz (X:=X.tb pins0 Pr0 xp) (so:=λx Z=>so (.d x) Z) q;exact⟨v,H',.d x,Z',I',rv,E',p⟩
theorem CQ{i:Nat}{x:Str}{pos':Pos}(hN:X.N.Nodup)(hi:X.N[i]?=some x)(hx:O6 X.env.scope x)(he:QO X pins0 Pr0 xp e te)(hs:swapsWith e (some (.Name x pos')) pos.line X.env=pure false:=by rfl)(hf:X.fn x=true∨X.env.scope.names.lookup x=some .local:=by first|exact .inl rfl|exact .inr rfl|assumption) :
  QP X pins0 Pr0 xp (.Assign [.Name x pos'] e pos) (bq i te):=by
 intro gV s σ H Pr Z so le I E h;refine wpAny_Assign_Name (O9 (he gV s σ H Pr Z _ le I E h) λv s1 ⟨y,H1,r,Z1,I1,r1,E1,q1⟩=>?_) hs;exact m9 (X:=X.tb pins0 Pr0 xp) I1 hN hi hx r1 (λs2 I2=>⟨_,H1,_,I2,E1.store (by rw[I1.len];exact(TR.mp hi).1),q1⟩) hf
theorem zZ(h1:QP X pins0 Pr0 xp st tm):N7 X pins0 Pr0 xp [st] tm:=by
 intro gV s σ H Pr Z so le I E h;refine wpAny_execs_cons (O9 (h1 gV s σ H Pr Z so le I E h) λf s1 q=>?_)
 cases f with
 |next=>exact VV q
 |brk=>exact q
 |cont=>exact q
 |ret u=>exact q
end
def Ko(tb:(Xc->Ev->Prop)->W Fl)(c:Str)(ts:W Fl):W Fl:=λZ so=>tb (λx Z1=>QM c x.c=true/\ts Z1 so) Z so
section
variable{X:Cx}{gV:List (Addr×Obj)}{σ:St}{H:Hp}{s:Shared}
theorem O7.landed{Pr:Hp}{Z:Ev}{a:Addr}{cls:Value}{dx T:Option Addr}{h1:Heap}(I:O7 X gV σ H s)(R:zY X gV H s a cls dx T)(hstk:X.stack=X.env::X.outer)
  (k1:∀b o,b≠a->some b≠T->b∉O4 (X.env::X.outer)->s.heap.get? b=some o->h1.get? b=some o) (k2:∀b o,b≠a->some b≠T->s.heap.get? b=some o->∃sl,h1.get? b=some {o with slots:=sl}):O7 X gV σ H {s with heap:=h1}:=by
 have nch:∀b,b∉a::T.toList->b≠a/\some b≠T:=λb hb=>⟨λz=>hb (by simp[z]),λz=>hb (by simp[<- z])⟩;have tra:∀b o,H b=some o->b≠a/\some b≠T/\b∉O4 (X.env::X.outer):=λb o e=>by refine⟨λz=>(by subst z;rw[R.na]at e;cases e),λz=>(by rw[R.nt b z.symm]at e;cases e),λz=>?_⟩;have:=I.stkFree b (by rw[hstk];exact z);rw[e]at this;cases this
 refine I.call (g':=s.gens) (t':=s.toks) (d':=s.drawn) (ch:=a::T.toList) ⟨λb o e n hf hx=>?_,λb o e n hf hx=>?_,λb o e n hx=>n,λb o e hx=>?_,λ_ _ e=>e,λ_ _ _ e=>e,λ_ _ e=>e⟩ (λb o e=>?_) I.bare λb hb=>?_
 . exact k1 b o (nch b hx).1 (nch b hx).2 (by rw[<- hstk];exact hf) e
 . exact k2 b o (nch b hx).1 (nch b hx).2 e
 . obtain⟨sl,q⟩:=k2 b o (nch b hx).1 (nch b hx).2 e;exact⟨_,q⟩
 .
  refine(I.hok b o e).stay (λc v hc z=>?_) (λ_ z=>z) (λ_ _ z=>z) λ_ _ _ _ z=>z
  have ht:∃o',H c=some o':=by
   rcases hc with rfl|hc
   . exact⟨o,e⟩
   . exact⟨_,hc⟩
  obtain⟨o',ho'⟩:=ht;obtain⟨t1,t2,t3⟩:=tra c o' ho';exact k1 c v t1 t2 t3 z
 .
  have w:QH X gV b:=by
   rcases Ue.mp hb with rfl|hb
   . exact R.wa
   . exact R.wt b (by cases T with|none=>simp at hb|some t=>simp at hb;rw[hb])
  exact⟨.inr w.s0,w.loc,w.cel,w.pin⟩
end
section
variable{X:Cx}{body suite:List Stmt}{b0:Stmt}{c:Str}{C:Addr}{p hp pos:Pos}{tb:(Xc->Ev->Prop)->W Fl}{ts:W Fl}
theorem CS(hstk:X.stack=X.env::X.outer)(hf:X.env.frame=some X.env.locals)(TC:XH X.K X.mg c C)(hg:Gl X c)(hb:∀ gV Pr xp,N7 X gV Pr xp body (tb xp))(hs:∀ a,P1 (X.han a) (b0::suite) ts) (hdb:(c == ("__debug__" : Str))=false:=by decide) :
  PM X (.Try body [.ExceptHandler (some (.Name c p)) none (b0::suite) hp] [] [] pos) (Ko tb c ts):=by
 intro gV s σ H Pr Z so I E h;refine wpAny_Try_except (Vc (hb gV Pr (λx Z1=>QM c x.c=true/\ts Z1 so) [] s σ H Pr Z so (λ_ _ z=>z) I.tr E h) (λf s1 q=>?_) λe s1 q=>?_)
 .
  have q':=SM.untr q
  cases f with
  |next=>exact VV q'
  |brk=>exact q'
  |cont=>exact q'
  |ret u=>exact q'
 . obtain⟨σ',H',Z',a,cls,dx,T,x,rfl,I1,E1,R,F,hA,hts⟩:=q;refine Ls (hstk ▸ I1.ok.frames) (hstk ▸ I1.stack) hf R.fly λh1 T1 fl hT1 k1 k2=>?_;have I2:=I1.landed (Pr:=Pr) (Z:=Z') R hstk k1 k2;have w1:=I1.newer hT1;obtain⟨D0,vs,rfl,hstd,hfq,hxf,rs⟩:=F;refine wpAny_handleBy_cons (codeAny_handlers_test (jF (I2.han a) hg TC.m ?_ hdb)) (by intro q;cases q);obtain⟨vv,sl,he,_⟩:=id fl;refine Lz TC hstd hA I2.kIn he rfl ?_;refine codeAny_handlers_suite (Nj fl λh2 fl2 k3=>?_);have I3:=I2.turned (it:=T1) (t':=s1.toks) (λb o hb e=>k3 b o hb e) (I1.hok.fresh hT1) w1.loc (.inr w1.s0) w1.cel w1.pin;exact Vc (hs a gV _ σ' H' Pr Z' so (I3.han a) E1 hts) (λf s4 q=>SM.unhan I.ok q) λ_ _ z=>z.elim
end
theorem CT{X:Cx}:QI X (λ_=>False):=λ_ _ _ _ _ _ _ _ _ _ _ _ h=>h.elim
section
variable{X:Cx}{k k' n:Nat}{f:Addr}{fd:FuncData}{ps:List Str}{fs:QJ}{g:Str}{st:Stmt}{e:Expr}{es:List Expr}{bs:List (Option Nat)}{t:W (List L)}{p pos cpos:Pos}{xp:Xc->Prop}{c:Str}{C fI:Addr}{ns:List Str}
theorem CU(F:FnOk X.prog X.w X.K X.mg X.base (QG X.prog X.w) k f fd ps (QK X.K n fs))(T:FX X.K X.mg g st f fd ps)(hr:gG k' X.A)(hx:QI X xp)(ha:P0 X (e::es) bs t)(hk:k<=k':=by decide)(hg:Gl X g:=by rfl)(hn:bs.length=n:=by rfl) (hdb:(g == ("__debug__" : Str))=false:=by decide) (he:starEach (e::es) X.env=(false,eval e X.env)::starEach es X.env:=by rfl) (hpl:(backTo pos (starEach es X.env)).any (·.1)=false:=by rfl) :
  PL X (.Call (.Name g p) (e::es) [] pos) (ug fs xp t):=FC F (hr.mono hk) hg T.m T.f.kp T.b hx ha hn hdb he hpl
theorem Ha{pins0:List (Addr×Obj)}{Pr0:Hp}{xt:Xc->Ev->Prop}(F:FnOk X.prog X.w X.K X.mg X.base (QG X.prog X.w) k f fd ps (QK X.K n fs))(T:FX X.K X.mg g st f fd ps)(hr:gG k' X.A)(ha:P0 (X.tb pins0 Pr0 xt) (e::es) bs t)(hk:k<=k':=by decide)(hg:Gl X g:=by rfl)(hn:bs.length=n:=by rfl) (hdb:(g == ("__debug__" : Str))=false:=by decide) (he:starEach (e::es) X.env=(false,eval e X.env)::starEach es X.env:=by rfl) (hpl:(backTo pos (starEach es X.env)).any (·.1)=false:=by rfl) :
  QO X pins0 Pr0 xt (.Call (.Name g p) (e::es) [] pos) (rm fs xt t):=FE F (hr.mono hk) hg T.m T.f.kp T.b ha hn hdb he hpl
theorem wM(T:XT X.K X.mg c C fI fd ps ns)(F:FnOk X.prog X.w X.K X.mg X.base CX0 2 fI fd ps (Lw X.K ns))(hr:gG k' X.A)(hx:QI X xp)(ha:P0 X (e::es) bs t)(hk:3<=k':=by decide)(hg:Gl X c:=by rfl)(hn:bs.length=ns.length:=by rfl)
  (hdb:(c == ("__debug__" : Str))=false:=by decide) (he:starEach (e::es) X.env=(false,eval e X.env)::starEach es X.env:=by rfl) (hpl:(backTo cpos (starEach es X.env)).any (·.1)=false:=by rfl) :
  PM X (.Raise (some (.Call (.Name c p) (e::es) [] cpos)) none pos) (wL c ns xp t) :=
 FD T F (λvs hv=>Jf T.s T.fn hv) (hr.mono hk) hg hx ha hn hdb he hpl
noncomputable abbrev QQ(g q:Str)(st:Stmt)(md:Value)(c:Nat):FuncData:=PySem.W.fnOf g q (jI st) (dz st) (au st) .none .none .none md none (.ref c) .none
theorem CM.mk'{K:Frag}{mg:Str->Option Value}{h:Heap}(X:K.In h)(G:h.Ns mainGlobals mg){L fL:Addr}{st:Stmt}{md:Value}{c:Nat} (e1:nsIn K mainGlobals "LoadError"=some (some (.ref L))) (e2:readsIn K L (.type "type")=true) (e3:specialIn K (.ref L) "__getattribute__"=some (some (.builtin "type.__getattribute__")))
  (e4:findCls K (.ref L) (.type "type") "__init__"=some (.val (.ref fL))) (e5:K.lookup fL=some ⟨.type "function",none,.func (QQ "__init__" "LoadError.__init__" st md c),#[]⟩) (e6:codeIn K (.ref c) "LoadError.__init__"=true) (e7:keepIn K (.ref fL)=true)
  (e8:∀(kV doc pm:Value)(an:Option Addr)(cdv ct:Value)(us:List Value),us.length=2->bindArgs (PySem.W.fnOf "__init__" "LoadError.__init__" (jI st) (dz st) (au st) .none kV doc pm an cdv ct) ⟨us,[]⟩=pure ((["self","text"]:List Str).zip us)):CM K mg L fL (QQ "__init__" "LoadError.__init__" st md c) st :=
 ⟨mg_of X G e1,e2,e3,e4,ub e5 e6 e7,(ub e5 e6 e7).binds e8⟩
theorem XT.mk'{K:Frag}{mg:Str->Option Value}{h:Heap}(X:K.In h)(G:h.Ns mainGlobals mg){c:Str}{C fI:Addr}{fd:FuncData}{ps ns:List Str}(e1:nsIn K mainGlobals c=some (some (.ref C)))(e2:jJ K c C=true)(e3:I0 K C fI=true)(b:oI K fd ps [])(e4:keepIn K (.ref C)=true)(e5:(ns.all λf=>findIn K (.ref C) f == some none)=true):XT K mg c C fI fd ps ns :=
 ⟨mg_of X G e1,e2,Lq e3,b,e4,λf hf=>VQ.mp (UW.mp e5 f hf)⟩
theorem XH.mk'{K:Frag}{mg:Str->Option Value}{h:Heap}(X:K.In h)(G:h.Ns mainGlobals mg){c:Str}{C:Addr}(e1:nsIn K mainGlobals c=some (some (.ref C)))(e2:((clsIn K C).any λcd=>cd.name == c)=true) (e3:typeIn K (.ref C)=some (.type "type")) (e4:mroIn K C (.type "BaseException")=some true):XH K mg c C :=
 ⟨mg_of X G e1,e1,(let ⟨cd,h1,h2⟩:=any_some e2;⟨cd,h1,VQ.mp h2⟩),e3,e4⟩
theorem FF{K:Frag}:∀vs H Q E,ML K vs H Q E->vs.length=2:=λ_ _ _ _ ⟨_,_,_,_,_,_,e,_⟩=>by rw[e];rfl
theorem FG{K:Frag}{ns:List Str}:∀vs H Q E,Lw K ns vs H Q E->vs.length=ns.length+1:=λ_ _ _ _ ⟨_,_,_,_,_,_,e,_,_,_,l,_⟩=>by rw[e,U9,l]
end
end L2
namespace L2
open PySem PySem.Spec PyProof.Rows
section
variable{κ:Type}[DecidableEq κ]
theorem KV.any{kvs:List (κ×V)}{vs:List (κ×Value)}(r:KV kvs vs)(k:κ):(kvs.any λkv=>decide (kv.1=k))=vs.any λkv=>decide (kv.1=k):=by
 unfold KV at r
 induction r with
 |nil=>rfl
 |cons h t ih=>rw[VJ,VJ,ih,h.1]
theorem KV.length{kvs:List (κ×V)}{vs:List (κ×Value)}(r:KV kvs vs):kvs.length=vs.length:=Paired.length r
end
theorem LA{P:Program}{w:World}{k:OY}{u:Value}(r:cB (kV k) u):(oH P w).is k u=true:=by
 cases k with
 |inl i=>obtain⟨t,e⟩:=(show ∃t,u=Value.int i t from r);subst e;exact xX P w i t
 |inr x=>obtain⟨t,e⟩:=(show ∃t,u=Value.str x t from r);subst e;exact xY P w x t
abbrev DR(K:PySem.W.Frag)(H:Hp):List (OY×V)->List (OY×D)->Prop:=Paired λ(p:OY×V) (q:OY×D)=>p.1=q.1/\PZ K H p.2 q.2
theorem DR.any{K:PySem.W.Frag}{H:Hp}{k:OY}:∀{vs:List (OY×V)}{kvs:List (OY×D)},DR K H vs kvs->(vs.any λp=>decide (p.1=k))=kvs.any λp=>decide (p.1=k)
 |_,_,.nil=>rfl
 |p::vs,q::kvs,.cons h t=>by rw[VJ,VJ,DR.any t,h.1]
section
variable{X:Cx}{pos:Pos}
noncomputable def flatC:D->Bool
 |.int _=>true
 |.str _=>true
 |.bl _=>true
 |.non=>true
 |_=>false
theorem PZ.flatC{K:PySem.W.Frag}{H H':Hp}{v:V}{d:D}(h:L2.flatC d=true)(r:PZ K H v d):PZ K H' v d:=by
 cases r with
 |int i=>exact .int i
 |str i=>exact .str i
 |bl i=>exact .bl i
 |non=>exact .non
 |_=>cases h
inductive QR (X:Cx):List (Option Expr)->List Expr->List (OY×D)->Prop where
 |nil:QR X [] [] []
 |int {k v:Expr} {ks:List (Option Expr)} {vs:List Expr} {i:Int} {d:D} {kvs:List (OY×D)} (hk:PL X k (wC (.int i))) (hv:PL X v (wC d)) (hf:flatC d=true) (t:QR X ks vs kvs):QR X (some k::ks) (v::vs) ((.inl i,d)::kvs)
 |str {k v:Expr} {ks:List (Option Expr)} {vs:List Expr} {y:Str} {d:D} {kvs:List (OY×D)} (hk:PL X k (wC (.str y))) (hv:PL X v (wC d)) (hf:flatC d=true) (t:QR X ks vs kvs):QR X (some k::ks) (v::vs) ((.inr y,d)::kvs)
theorem QR.run{pos:Pos}{gV:List (Addr×Obj)}{σ:St}{Pr:Hp}{Z:Ev}:∀{ks:List (Option Expr)}{vs:List Expr}{kvs:List (OY×D)},QR X ks vs kvs->∀{H:Hp}{s:Shared}{Q:List (Value×Value)->Shared->Prop},O7 X gV σ H s->aD X.K Pr H σ Z ->
  (∀(H':Hp)(s':Shared)(us:List (Value×Value))(ps:List (OY×V))(qs:List (OY×Value)),O7 X gV σ H' s'->aD X.K Pr H' σ Z->Carries (oH X.prog X.w) us qs->KV ps qs->DR X.K H' ps kvs->Q us s') ->
  wpAny (model X.prog X.w) X.A (evalPairs (pairTrees ks vs X.env pos)) Q X.xe s
 |_,_,_,.nil,H,s,Q,I,E,h=>pairTrees_nil_walk (h H s [] [] [] I E True.intro .nil .nil)
 | _,_,_,.int (d:=d) hk hv hf t,H,s,Q,I,E,h=>by refine pairTrees_cons_walk (O9 (hk gV s σ H Pr Z (λr Z'=>r=.d _/\Z'=Z) I E ⟨rfl,rfl⟩) λu s1 ⟨v,H1,r,Z',I1,rv,E1,e1,e2⟩=>?_);subst e1 e2;refine O9 (hv gV s1 σ H1 Pr _ (λr Z'=>r=.d d/\Z'=_) I1 E1.tail ⟨rfl,rfl⟩) λu2 s2 ⟨v2,H2,r2,Z2,I2,rv2,E2,e1,e2⟩=>?_;subst e1 e2;obtain⟨_,z1,p1⟩:=E1.head_d;cases z1;cases p1;obtain⟨_,z2,p2⟩:=E2.head_d;cases z2;exact QR.run t I2 E2.tail λH' s' us ps qs I3 E3 hc hk3 hd=>h H' s' ((u,u2)::us) ((.inl _,v2)::ps) ((.inl _,u2)::qs) I3 E3 ⟨LA rv,rfl,hc⟩ (.cons ⟨rfl,rv2⟩ hk3) (.cons ⟨rfl,p2.flatC hf⟩ hd)
 | _,_,_,.str (d:=d) hk hv hf t,H,s,Q,I,E,h=>by refine pairTrees_cons_walk (O9 (hk gV s σ H Pr Z (λr Z'=>r=.d _/\Z'=Z) I E ⟨rfl,rfl⟩) λu s1 ⟨v,H1,r,Z',I1,rv,E1,e1,e2⟩=>?_);subst e1 e2;refine O9 (hv gV s1 σ H1 Pr _ (λr Z'=>r=.d d/\Z'=_) I1 E1.tail ⟨rfl,rfl⟩) λu2 s2 ⟨v2,H2,r2,Z2,I2,rv2,E2,e1,e2⟩=>?_;subst e1 e2;obtain⟨_,z1,p1⟩:=E1.head_d;cases z1;cases p1;obtain⟨_,z2,p2⟩:=E2.head_d;cases z2;exact QR.run t I2 E2.tail λH' s' us ps qs I3 E3 hc hk3 hd=>h H' s' ((u,u2)::us) ((.inr _,v2)::ps) ((.inr _,u2)::qs) I3 E3 ⟨LA rv,rfl,hc⟩ (.cons ⟨rfl,rv2⟩ hk3) (.cons ⟨rfl,p2.flatC hf⟩ hd)
theorem QR.len:∀{ks:List (Option Expr)}{vs:List Expr}{kvs:List (OY×D)},QR X ks vs kvs->ks.all (·.isSome)=true/\ks.length=vs.length/\ks.length=kvs.length
 |_,_,_,.nil=>⟨rfl,rfl,rfl⟩
 | _,_,_,.int _ _ _ t=>by obtain⟨h1,h2,h3⟩:=t.len;simp[h1,h2,<- h3]
 | _,_,_,.str _ _ _ t=>by obtain⟨h1,h2,h3⟩:=t.len;simp[h1,h2,<- h3]
end
end L2
namespace L2
open PySem PySem.Spec PyProof.Rows PySem.SeqAt
mutual
noncomputable def z6:Nat->D->Bool
 |_,.non=>true
 |_,.bl _=>true
 |_,.int _=>true
 |_,.str _=>true
 |n+1,.tup xs=>yw n xs
 |n+1,.lst xs=>yw n xs
 |n+1,.dct m=>m == 0
 |_,_=>false
noncomputable def yw:Nat->List D->Bool
 |_,[]=>true
 |n,x::xs=>z6 n x && yw n xs
end
mutual
noncomputable def Er:D->Nat
 |.int _=>602
 |.str x=>10*x.length+2
 |.tup xs=>Be xs+3
 |.lst xs=>Be xs+3
 |_=>6
noncomputable def Be:List D->Nat
 |[]=>0
 |x::xs=>Er x+2+Be xs
end
mutual
theorem CV:∀d:D,(Qf d).leavesShort 601=true->(Qf d).shown.length<=Er d
 |.non,_=>by decide
 |.bl b,_=>by cases b<;>decide
 | .int i,h=>by
  have e:(PyData.shown (.int i)).length<=601:=by simpa only[Qf,PyData.leavesShort,Ua]using h
  exact Nat.le_succ_of_le e
 | .str x,h=>by
  have hx:∀c∈x.cps.toList,c<16^8:=by simpa only[Qf,PyData.leavesShort,UW,Ua]using h
  have e:=PySem.StrLaws.reprText_len x hx
  simp only[Qf,PyData.shown,Er]
  omega
 | .tup xs,h=>by
  have h1:=yx xs (by simpa only[Qf,PyData.leavesShort]using h)
  have h2:=tupleText_len_le (PyData.shownAll (iL xs))
  have h3:=PyData.shownAll_length (iL xs)
  simp only[Qf,PyData.shown,Er]
  omega
 | .lst xs,h=>by
  have h1:=yx xs (by simpa only[Qf,PyData.leavesShort]using h)
  have h2:=listText_len_le (PyData.shownAll (iL xs))
  have h3:=PyData.shownAll_length (iL xs)
  simp only[Qf,PyData.shown,Er]
  omega
 |.dct _,_=>by simp only[Qf,Er];decide
 |.exc _ _ _,_=>by simp only[Qf,Er];decide
 |.fn _ _,_=>by simp only[Qf,Er];decide
theorem yx:∀ds:List D,PyData.leavesShortAll 601 (iL ds)=true->((PyData.shownAll (iL ds)).map (·.length)).sum+2*(iL ds).length<=Be ds
 |[],_=>by simp only[iL,PyData.shownAll,List.map_nil,List.sum_nil,List.length_nil,Be];omega
 | d::ds,h=>by
  have h':(Qf d).leavesShort 601=true/\PyData.leavesShortAll 601 (iL ds)=true:=by simpa only[iL,PyData.leavesShortAll,Uc]using h
  have h1:=CV d h'.1
  have h2:=yx ds h'.2
  simp only[iL,PyData.shownAll,Ur,List.sum_cons,U9,Be]
  omega
end
end L2
namespace L2
open PySem PySem.Spec PyProof.Rows
end L2
namespace L2
open PySem PySem.Spec PyProof.Rows PySem.W
end L2
namespace L2
open PySem PySem.Spec PyProof.Rows
end L2
namespace L2
open PySem PySem.Spec PyProof.Rows PySem.SeqAt
mutual
noncomputable def QS:D->Bool
 |.dct n=>n == 0
 |.exc _ _ _=>false
 |.fn _ _=>false
 |.tup xs=>LC xs
 |.lst xs=>LC xs
 |.str x=>PyData.strOk x
 |_=>true
noncomputable def LC:List D->Bool
 |[]=>true
 |x::xs=>QS x && LC xs
end
mutual
theorem rn:∀d:D,QS d=true->jT d=true->(Qf d).leavesShort 601=true
 |.non,_,_=>rfl
 |.bl _,_,_=>rfl
 |.dct _,_,_=>rfl
 |.exc _ _ _,h,_=>by simp[QS]at h
 |.fn _ _,h,_=>by simp[QS]at h
 | .int i,_,h=>by
  have:=(qx (.int i) h).1
  simpa only[Qf,PyData.leavesShort,PyData.intsShort]using this
 |.str x,h,hs=>PyData.leavesShort_of_canLay0 601 (.str x) (by simpa only[QS,PyData.canLay0]using h) (qx (.str x) hs).1
 | .tup xs,h,hs=>by
  have:=oT xs (by simpa only[QS]using h) (by simpa only[jT]using hs)
  simpa only[Qf,PyData.leavesShort]using this
 | .lst xs,h,hs=>by
  have:=oT xs (by simpa only[QS]using h) (by simpa only[jT]using hs)
  simpa only[Qf,PyData.leavesShort]using this
theorem oT:∀ds:List D,LC ds=true->ml ds=true->PyData.leavesShortAll 601 (iL ds)=true
 |[],_,_=>rfl
 | d::ds,h,hs=>by
  simp only[LC,Uc]at h
  simp only[ml,Uc]at hs
  simp only[iL,PyData.leavesShortAll,rn d h.1 hs.1,oT ds h.2 hs.2,Bool.and_self]
end
structure N8 (d:D):Prop where
 ok:QS d=true
 sh:jT d=true
 dp:(Qf d).depth<=40
 sg:Er d<=16777216
 ni:∀i,d≠.int i
theorem N8.len{d:D}(h:N8 d):(Qf d).shown.length<=sizeLine:=by
 have e:sizeLine=16777216:=by decide
 rw[e];exact T9 (CV d (rn d h.ok h.sh)) h.sg
end L2
namespace L2
open PySem PySem.Spec PyProof.Rows
section
def LD(o:Option L)(i k:Nat)(Z:Ev)(so:L->Ev->Prop):Prop:=match o with
 |some (.bx none ls)=>∃l,ls[k]?=some l/\so l (Z.set i (.bx none (ls.set k .un)))
 |some (.d (.tup ds))=>∃d,ds[k]?=some d/\so (.d d) Z
 |_=>False
theorem FH(ls:List L)(i k:Nat)(Z:Ev)(so:L->Ev->Prop):LD (some (.bx none ls)) i k Z so=∃l,ls[k]?=some l/\so l (Z.set i (.bx none (ls.set k .un))):=(rfl)
theorem Jh(ds:List D)(i k:Nat)(Z:Ev)(so:L->Ev->Prop):LD (some (.d (.tup ds))) i k Z so=∃d,ds[k]?=some d/\so (.d d) Z:=(rfl)
end
section
def Nn(r:L)(Z:Ev)(so:L->Ev->Prop):Prop:=match r with
 |.bx (some _) ls=>so (.bx none ls) Z
 |_=>False
theorem FI(a:Addr)(ls:List L)(Z:Ev)(so:L->Ev->Prop):Nn (.bx (some a) ls) Z so=so (.bx none ls) Z:=(rfl)
end
end L2
namespace L2
open PySem PySem.Spec PyProof.Rows PySem.W
theorem uP{p:Pos}{a b:Int}{c cv:Value}(l:List Value)(h:TriplesOk l)(e:codeAmong p (l++[rawInt a,rawInt b,c])=some cv):codeAmong p l=some cv∨cv=c:=by
 fun_induction TriplesOk l with
 | case1 =>
  simp only[Vy,codeAmong,rawInt]at e;split at e
  . cases e;exact .inr rfl
  . cases e
 | case2 a' t b' u x rest ih =>
  simp only[VM,codeAmong]at e ⊢;split at e
  . rename_i hc;rw[if_pos hc];exact .inl e
  . rename_i hc;rw[if_neg hc];exact ih h e
 |case3 l h1 h2=>exact h.elim
theorem wN{cells:List (Str×Addr)}:∀(names:List (Str×NameKind))(acc:List (Str×Addr)),(names.filter λp=>p.2 == .free)=[]->wx cells names acc=acc
 |[],_,_=>rfl
 | (n,k)::r,acc,h=>by
  rw[Vg]at h;unfold wx;by_cases hk:(k == NameKind.free)=true
  . rw[if_pos hk]at h;cases h
  . rw[if_neg hk]at h;rw[if_neg hk];exact wN r acc h
theorem z7{cells:List (Str×Addr)}{y:Str}{c:Addr}(hc:cells.lookup y=some c):∀(names:List (Str×NameKind))(acc:List (Str×Addr)),(names.filter λp=>p.2 == .free)=[(y,.free)]->wx cells names acc=(y,c)::acc
 |[],_,h=>by cases h
 | (n,k)::r,acc,h=>by
  rw[Vg]at h;unfold wx;by_cases hk:(k == NameKind.free)=true
  . rw[if_pos hk]at h;simp only[List.cons.injEq,Prod.mk.injEq]at h;obtain⟨⟨h1,h2⟩,h3⟩:=h;subst h1;rw[if_pos hk,hc];exact wN r _ h3
  . rw[if_neg hk]at h;rw[if_neg hk];exact z7 hc r acc h
section
variable{X:Cx}{gV:List (Addr×Obj)}{σ:St}{H:Hp}{s:Shared}
theorem FJ{x:Str}{c0 P c:Addr}{y:Str}{pr:Arguments}{bd:Expr}{sc:Scope}{pos:Pos}{Q:Value->Shared->Prop}{E:Value->Shared->Prop}{A:Around}
  (I:O7 X gV σ H s) (hx:x∈lamNames) (ht:tabIn X.K x=some (c0,P)) (hcode:X.env.code=.ref c0) (hq:X.env.qual++"<lambda>"=t8 x) (hcl:closureFor sc X.env=pure [(y,c)]) (hdef:defaultsOf pr X.env=([],[]))
  (h:∀(f c':Addr)(oq:Obj)(H':Hp)(s':Shared)(ctv pm:Value),O7 X gV σ H' s'->(∀ b o,H b=some o->H' b=some o)->s'.heap.get? f=some (kla_obj "<lambda>" (t8 x) pr bd sc [(y,c)] pm c' ctv)->H' f=none->s.heap.objs.size<=f ->
   H' c'=some (.frz oq (.own c'))->pM oq (t8 x)->Q (.ref f) s'):wpAny (model X.prog X.w) A (eval (.Lambda pr bd sc pos) X.env) Q E s:=by
 have hP:=I.tbs x hx c0 P ht;obtain⟨ps,eP,tr,among⟩:=id (I.hok P _ hP);have C:CodeHd s.heap c0 P:=(I.ok.mod.cds x hx c0 P ht).keeps I.bk;have hg:s.heap.Ns mainGlobals X.mg:=I.ok.mod.glob.keeps I.bk;obtain⟨bm,ob,b1,b2,b3,b4,b5,b6⟩:=I.ok.mod.bmn;have hbk:=I.bk bm ob b3;have hgP:mainGlobals≠P:=λz=>by obtain⟨o,es,ep,e,hd,_⟩:=hg;rw[z,eP]at e;cases e;cases hd
 have hbP:bm≠P:=λz=>by rw[z,eP]at hbk;cases hbk;cases b4
 have hbG:bm≠mainGlobals:=λz=>by obtain⟨o,es,ep,e,hd,_⟩:=hg;rw[z,e]at hbk;cases hbk;rw[hd]at b6;cases b6
 refine kla_eval hdef ?_;rw[hq]
 cases q:codeAmong pos ps.toList with
 | none =>
  refine kla_makeFunction (mg:=X.mg) hcl I.ok.glob hg hcode C eP tr q hgP ⟨bm,ob,b1,b2,hbG,hbP,hbk,b4,b5,b6⟩ λc' ctv h' tk hx' hge hlt hrec htb=>?_;obtain⟨c2,oq,vs,t,e2,hoc,hd,hv⟩:=hrec;cases e2;have hn:H c'=none:=I.hok.fresh hge;have nP:∀b,H b=none->b≠P:=λb n z=>by rw[z,hP]at n;cases n
  have old:∀ b o,b≠P->s.heap.get? b=some o->(h'.push (kla_obj "<lambda>" (t8 x) pr bd sc [(y,c)] ((X.mg "__name__").getD .none) c' ctv)).get? b=some o:=λb o nb e=>TN _ (hx' b o nb e);have up:∀b u,H b=some u->OZ H c' (.frz oq (.own c')) b=some u:=λb u e=>by rw[aB (bh e hn)];exact e
  have co:pM oq (t8 x):=⟨vs,t,hd,hv⟩
  have J:O7 X gV σ (OZ H c' (.frz oq (.own c'))) {s with heap:=h'.push (kla_obj "<lambda>" (t8 x) pr bd sc [(y,c)] ((X.mg "__name__").getD .none) c' ctv),toks:=tk}:=by
   refine I.un ⟨λb o e n _ _=>old b o (nP b n) e,λb o e n _ _=>⟨o.slots,old b o (nP b n) e⟩,λb o e n _=>?_,λb o e _=>?_,λb xs e=>up b _ e,λb o u e=>up b _ e,λb t e=>up b _ e⟩ λb u e=>?_
   . rw[aB (Ut (TU (TZ e) hge))];exact n
   .
    by_cases z:b=P
    . subst z;exact⟨_,TN _ htb⟩
    . exact⟨o,old b o z e⟩
   .
    by_cases z:b=c'
    . subst z;rw[a6]at e;cases e;exact⟨TN _ hoc,⟨_,TN _ hoc⟩⟩
    .
     rw[aB z]at e;by_cases zP:b=P
     .
      subst zP;rw[hP]at e;cases e;refine⟨_,TN _ htb,?_,λpos' cv hc'=>?_⟩
      . rw[Array.toList_append];exact TriplesOk_snoc _ _ _ _ tr
      .
       rw[Array.toList_append]at hc';rcases uP _ tr hc' with z1|z1
       . obtain⟨c3,o3,a1,a2,a3⟩:=among pos' cv z1;exact⟨c3,o3,a1,up _ _ a2,a3⟩
       . exact⟨c',oq,z1,a6,co⟩
     .
      refine(I.hok b u e).stay (λd v hd z2=>old d v ?_ z2) (λd z2=>up d _ z2) (λd xs z2=>up d _ z2) λd od _ _ z2=>up d _ z2;rcases hd with rfl|hd
      . exact zP
      . intro z3;rw[z3,hP]at hd;cases hd
  exact h _ c' oq _ _ ctv _ J up (Up _ rfl) (by rw[aB (Nat.ne_of_gt hlt)];exact I.hok.fresh (T9 hge (We hlt))) (T9 hge (We hlt)) a6 co
 | some cv =>
  obtain⟨c',oq,rfl,hz,co⟩:=among pos cv q;refine kla_makeFunctionHit (mg:=X.mg) hcl I.ok.glob hg hcode C eP tr q ⟨bm,ob,b1,b2,hbG,hbP,hbk,b4,b5,b6⟩ λctv h' tk hk hsz=>?_;exact h _ c' oq H _ ctv _ (I.kept λb o e=>TN _ (hk b o e)) (λ_ _ e=>e) (Up _ rfl) (I.hok.fresh hsz) hsz hz co
end
def LF(K:Frag)(H:Hp)(h:Heap)(f:Addr)(x:Str)(d:D):Prop:=∃(c c':Addr)(oc oq:Obj)(y:Str)(pr:Arguments)(bd:Expr)(sc:Scope)(pos:Pos)(pm ctv u:Value)(v:V),
 AV K x=some (pr,bd,sc,pos)/\h.get? f=some (kla_obj "<lambda>" (t8 x) pr bd sc [(y,c)] pm c' ctv)/\h.get? c'=some oq/\pM oq (t8 x)/\h.get? c=some oc/\(H c=none∨∃ o,H c=some (.frz o (.own c)))/\oc.data=.cell (some u)/\cB v u/\(y,NameKind.free)∈sc.names/\PZ K H v d
noncomputable def Ji(P:Program)(w:World)(K:Frag)(mg:Str->Option Value)(base:Heap)(p y:Str)(qual:Str)(sc:Scope)(f c':Addr)(cl:List (Str×Addr))(A:Around)(outer:List Env)(s:Shared)(H:Hp):Cx where
 prog:=P
 w:=w
 K:=K
 mg:=mg
 base:=base
 A:=A.deeper (envX qual sc s.heap.objs.size f (.ref c') cl)
 N:=[p,y]
 s₀:=s
 H₀:=H
 env:=envX qual sc s.heap.objs.size f (.ref c') cl
 outer:=outer
 stack:=envX qual sc s.heap.objs.size f (.ref c') cl::outer
 ex:=[]
 calm:=true
 fn:=λ_=>false
 pn:=[]
 xe:=λ_ _=>False
structure Jj (p y:Str) (pr:Arguments) (bd:Expr) (sc:Scope):Prop where
 par:sc.names.lookup p=some .local
 fre:sc.names.lookup y=some .free
 nc:∀z∈sc.names,z.2≠.cell
 one:∀z,(z,NameKind.free)∈sc.names->z=y
 co:sc.isCoroutine=false
 gen:sc.isGenerator=false
 kind:sc.kind=.function
 bind:∀(q:Str)(cl:List (Str×Addr))(pm cdv ct u:Value),bindArgs (kla_fn "<lambda>" q pr bd sc cl pm cdv ct) ⟨[u],[]⟩=pure [(p,u)]
def LG(r:L)(k:D->Prop):Prop:=match r with
 |.d z=>k z
 |_=>False
theorem Jk{r:L}{k:D->Prop}(h:LG r k):∃z,r=.d z/\k z:=by
 cases r with
 |d z=>exact⟨z,rfl,h⟩
 |_=>exact h.elim
structure Jl (P:Program) (w:World) (K:Frag) (mg:Str->Option Value) (base:Heap) (k:Nat) (x:Str) (fs:FS):Prop where
 run:∀(A:Around)(outer:List Env)(s:Shared)(H:Hp)(f:Addr)(u:Value)(v:V)(a d:D)(so:D->Prop),gG k A->AN P w K mg base A outer s H->cB v u->PZ K H v a->LF K H s.heap f x d->fs [.d a,.d d] (λr _=>LG r so) ->
  codeAny (model P w) A (.call (.ref f) ⟨[u],[]⟩) (CR CX0 outer P w H s (λv H'=>(∀b o,H b=some o->H' b=some o)/\∃z,PZ K H' v z/\so z) E0) s
theorem Jm{P:Program}{w:World}{K:Frag}{mg:Str->Option Value}{base:Heap}{p y:Str}{qual:Str}{pr:Arguments}{bd:Expr}{sc:Scope}{f c c':Addr}{A:Around}{outer:List Env}{s:Shared}{H:Hp}{h1:Heap}{tk:Nat}{u u':Value}{v v':V}{oc:Obj}
  (S:Jj p y pr bd sc) (hd:A.handled=none) (e0:AN P w K mg base A outer s H) (r:cB v u) (r':cB v' u') (gc:s.heap.get? c=some oc) (dc:oc.data=.cell (some u')) (hc:H c=none∨∃o,H c=some (.frz o (.own c)))
  (hns:h1.Ns s.heap.objs.size λz=>[(p,u)].reverse.lookup z) (k:∀b o,s.heap.get? b=some o->h1.get? b=some o) :
  O7 (Ji P w K mg base p y qual sc f c' [(y,c)] A outer s H) [] [some v,some v'] H {s with heap:=h1,toks:=tk}:=by
 have hpy:p≠y:=λz=>by have:=S.par;rw[z,S.fre]at this;cases this
 have one:∀z d,([(y,c)]:List (Str×Addr)).lookup z=some d->z=y/\d=c:=λz d e=>by
  rw[UR]at e
  cases q:z == y with
  |true=>rw[q]at e;cases e;exact⟨eq_of_beq q,rfl⟩
  |false=>rw[q]at e;cases e
 have at_y:([(y,c)]:List (Str×Addr)).lookup y=some c:=by rw[UR,beq_self_eq_true]
 have noA:∀b:Addr,b∉(Ji P w K mg base p y qual sc f c' [(y,c)] A outer s H).ex:=λb z=>absurd (show b∈([]:List Addr)from z) v6
 refine⟨⟨e0.mod,S.kind,rfl,rfl,Ud _,λa b d h1 h2=>?_,λz hz=>?_,λz d hf _=>absurd (show false=true from hf) x_,λ_=>hd,Around.frames_deeper e0.frames,.inr ⟨rfl,rfl⟩,λb z=>absurd z (noA b),e0.bs,e0.bsz,λb _ _=>noA b,λb z=>absurd z (noA b),e0.funs,e0.frf,e0.tbs⟩,
  rfl,e0.bare,Un.kept k,⟨_,hns,λi z v2 h1 h2 h3=>?_⟩,λz d h=>?_,e0.hok.fresh (Ud _),λz d h=>?_,λq hq=>absurd (show q∈([]:List (Addr×Obj))from hq) v6,e0.hok.kept k,rfl⟩
 . exact(one a d h1).1.trans (one b d h2).1.symm
 .
  have hz:sc.names.lookup z=some .cell∨sc.names.lookup z=some .free:=hz;rcases hz with hz|hz
  . exact absurd rfl (S.nc _ (Vk hz))
  . rw[S.one z (Vk hz)];exact⟨c,at_y⟩
 .
  match i,h1,h2 with
  | 0,h1,h2 =>
   have e1:p=z:=Uq h1;have e2:v=v2:=by simpa using h2
   subst e1 e2;exact⟨u,r,.inl ⟨S.par,v6⟩⟩
  | 1,h1,h2 =>
   have e1:y=z:=Uq h1;have e2:v'=v2:=by simpa using h2
   subst e1 e2;exact⟨u',r',.inr ⟨.inr S.fre,c,at_y,oc,k c oc gc,dc⟩⟩
  |n+2,h1,h2=>simp at h2
 . obtain⟨_,rfl⟩:=one z d h;exact⟨_,oc,k d oc gc,dc⟩
 . obtain⟨_,rfl⟩:=one z d h;exact hc.imp id λz=>⟨rfl,z⟩
theorem LH{P:Program}{w:World}{K:Frag}{mg:Str->Option Value}{base:Heap}{k:Nat}{x p y:Str}{pr:Arguments}{bd:Expr}{sc:Scope}{pos:Pos}{fs:FS}(hl:AV K x=some (pr,bd,sc,pos))(S:Jj p y pr bd sc)(t:W L)
  (hbody:∀(A:Around)(outer:List Env)(s:Shared)(H:Hp)(f c c':Addr),gG k (A.deeper (envX (t8 x) sc s.heap.objs.size f (.ref c') [(y,c)]))->PL (Ji P w K mg base p y (t8 x) sc f c' [(y,c)] A outer s H) bd t)
  (h:∀a d so,fs [.d a,.d d] so->t [.d a,.d d] λr _=>so r []):Jl P w K mg base (k+1) x fs:=by
 refine⟨λA outer s H f u v a d so hr e0 rv ra la hf=>?_⟩;obtain⟨c,c',oc,oq,y',pr',bd',sc',pos',pm,ctv,u',v',hl',gf,gq,hq,gc,hc,dc,rv',hm,rd⟩:=la;rw[hl]at hl';cases hl';obtain rfl:=S.one y' hm;obtain⟨vs,tq,hd1,hd2⟩:=hq;have lim:s.heap.NoLimit:=e0.mod.nolimit.keeps λb o e=>(e0.bs b o e).1;refine kla_callFunE hr.depth gf rfl S.co S.gen rfl ⟨c',oq,vs,tq,rfl,gq,hd1,hd2⟩ ?_;rw[S.bind]
 refine Ub (wpAny_newFunctionEnv S.nc (λz hz=>by
  have:z=(p,u):=by simpa using hz
  subst this;exact S.par) (λh₁ hns hsb=>⟨lim.fresh _ hsb,?_⟩) S.kind)
 have hk₁:∀b o,s.heap.get? b=some o->h₁.get? b=some o:=λb o e=>hsb.extBut b o (Ut (TZ e)) (TN _ e);show codeAny _ _ (.expr bd (envX (t8 x) sc s.heap.objs.size f (.ref c') [(y',c)])) _ _;have I:=Jm (P:=P) (w:=w) (K:=K) (mg:=mg) (base:=base) (qual:=t8 x) (f:=f) (c':=c') (tk:=s.toks+[(p,u)].length) S hr.hd e0 rv rv' gc dc hc hns hk₁;have E:aD K H H [some v,some v'] [.d a,.d d]:=⟨λ_ _ e=>e,Wb,λa ha=>absurd (show a∈([]:List Addr)from ha) v6,.cons ⟨v,rfl,ra⟩ (.cons ⟨v',rfl,rd⟩ .nil)⟩;refine kla_codeExpr (Vc (hbody A outer s H f c c' (hr.deeper _) [] _ _ H H _ (λr _=>LG r so) I E (h a d _ hf)) (λv2 s' hs=>?_) λe s' hs=>(show False from hs).elim);obtain⟨v3,H',r,Z',J,rv3,E',q⟩:=hs;obtain⟨z,rfl,hp⟩:=Jk q;obtain⟨w3,e3,rz⟩:=E'.head_d;cases e3;exact⟨v3,H',J.os,J.bare,J.base,J.hok,rv3,E'.sub,z,rz,hp⟩
def MM(i:Nat)(Z:Ev)(k:D->Prop):Prop:=match Z[i]? with
 |some (.d x)=>k x
 |_=>False
theorem Jn{i:Nat}{Z:Ev}{k:D->Prop}(h:MM i Z k):∃x,Z[i]?=some (.d x)/\k x:=by
 unfold MM at h;split at h
 . rename_i x q;exact⟨x,q,h⟩
 . exact h.elim
theorem Un.one{P:Program}{w:World}{fs:List Addr}{H H':Hp}{h h':Heap}{c:Addr}{oc:Obj}(hc:H c=none)(gc:h.get? c=some oc)(cc:∀q,¬pM oc q)(u:Un fs [] (OZ H c (.frz oc (.own c))) H' h h')(ok:O0 P w H' h') :
  Un fs [] H (QA H' c) h h'/\O0 P w (QA H' c) h':=by
 have zc:H' c=some (.frz oc (.own c)):=u.frzs c oc _ a6;have gc':h'.get? c=some oc:=(ok c _ zc).1;have nz:∀b o,H' b=some o->o≠.frz oc (.own c)->b≠c:=λb o e n z=>by subst z;rw[zc]at e;cases e;exact n rfl
 refine⟨⟨λb o e n hb hx=>?_,λb o e n hb hx=>?_,λb o e n hx=>?_,λb o e hx=>u.there b o e hx,λb xs e=>?_,λb o v e=>?_,λb t e=>?_⟩,λb o e=>?_⟩
 .
  by_cases z:b=c
  . subst z;rw[gc]at e;cases e;exact gc'
  . exact u.keep b o e (by rw[aB z];exact n) hb hx
 .
  by_cases z:b=c
  . subst z;rw[gc]at e;cases e;exact⟨oc.slots,gc'⟩
  . exact u.slot b o e (by rw[aB z];exact n) hb hx
 .
  by_cases z:b=c
  . subst z;exact nI
  . rw[d7 z];exact u.free b o e (by rw[aB z];exact n) hx
 . have z:=bh e hc;rw[d7 z];exact u.tups b xs (by rw[aB z];exact e)
 . have z:=bh e hc;rw[d7 z];exact u.frzs b o v (by rw[aB z];exact e)
 . have z:=bh e hc;rw[d7 z];exact u.tbls b t (by rw[aB z];exact e)
 .
  have hb:b≠c:=λz=>by subst z;rw[nI]at e;cases e
  rw[d7 hb]at e;refine(ok b o e).stay (λ_ _ _ z=>z) (λd z=>?_) (λd xs z=>?_) λd od q co z=>?_
  . rw[d7 (nz d _ z λy=>nomatch y)];exact z
  . rw[d7 (nz d _ z λy=>nomatch y)];exact z
  . rw[d7 (nz d _ z λy=>by cases y;exact cc q co)];exact z
structure LJ (X:Cx) (x y:Str) (i:Nat) (pr:Arguments) (bd:Expr) (sc:Scope) (pos:Pos):Prop where
 mem:x∈lamNames
 tab:∃c0 P,tabIn X.K x=some (c0,P)/\X.env.code=.ref c0
 lam:AV X.K x=some (pr,bd,sc,pos)
 qual:X.env.qual++"<lambda>"=t8 x
 deft:defaultsOf pr X.env=([],[])
 fre:(sc.names.filter λp=>p.2 == .free)=[(y,.free)]
 at_i:X.N[i]?=some y
 cel:X.env.scope.names.lookup y=some .cell
 fn:X.fn y=true
structure LK (K:Frag) (x:Str) (fd:FuncData) (st:Stmt):Prop where
 tab:∃c0 P,tabIn K x=some (c0,P)/\fd.code=.ref c0
 lam:AV K x=B6 (dz st)
theorem LK.mk'{K:Frag}{x:Str}{fd:FuncData}{st:Stmt}{c0:Addr}(h1:(tabIn K x).map (·.1)=some c0)(h2:fd.code=.ref c0)(h3:AV K x=B6 (dz st)):LK K x fd st:=by
 refine⟨?_,h3⟩
 cases z:tabIn K x with
 |none=>rw[z]at h1;cases h1
 |some p=>rw[z]at h1;cases h1;exact⟨p.1,p.2,rfl,h2⟩
theorem LM{X:Cx}{x y:Str}{i:Nat}{pr:Arguments}{bd:Expr}{sc:Scope}{pos:Pos}{fd:FuncData}{st:Stmt}(T:LK X.K x fd st)(hc:fd.code=X.env.code)(h1:B6 (dz st)=some (pr,bd,sc,pos))(mem:x∈lamNames) (qual:X.env.qual++"<lambda>"=t8 x) (deft:defaultsOf pr X.env=([],[]))
  (fre:(sc.names.filter λp=>p.2 == .free)=[(y,.free)]) (at_i:X.N[i]?=some y) (cel:X.env.scope.names.lookup y=some .cell) (fn:X.fn y=true):LJ X x y i pr bd sc pos :=
 ⟨mem,let ⟨c0,P,a,b⟩:=T.tab;⟨c0,P,a,by rw[<- hc];exact b⟩,T.lam.trans h1,qual,deft,fre,at_i,cel,fn⟩
theorem Np{p y:Str}{pr:Arguments}{bd:Expr}{sc:Scope}(par:sc.names.lookup p=some .local)(fre:(sc.names.filter λp=>p.2 == .free)=[(y,.free)])(fr1:sc.names.lookup y=some .free)(nc:(sc.names.all λz=>z.2 != .cell)=true)(co:sc.isCoroutine=false)(gk:(sc.isGenerator,sc.kind)=(false,.function))
  (bind:∀(q:Str)(cl:List (Str×Addr))(pm cdv ct u:Value),bindArgs (kla_fn "<lambda>" q pr bd sc cl pm cdv ct) ⟨[u],[]⟩=pure [(p,u)]):Jj p y pr bd sc where
 par:=par
 fre:=fr1
 nc:=λz hz q=>by have:=UW.mp nc z hz;rw[q]at this;exact absurd this x_
 one:=λz hz=>by have:(z,NameKind.free)∈sc.names.filter λp=>p.2 == .free:=Vf.mpr ⟨hz,rfl⟩;rw[fre]at this;simpa using this
 co:=co
 gen:=(Prod.mk.inj gk).1
 kind:=(Prod.mk.inj gk).2
 bind:=bind
section
variable{X:Cx}{gV:List (Addr×Obj)}{σ:St}{H:Hp}{s:Shared}
theorem QH.nofs{b:Addr}(I:O7 X gV σ H s)(n:QH X gV b):b∉O4 X.stack:=λhb=>by
 rcases Ue.mp (I.stkSub b hb)with z|z
 . exact n.loc z
 . obtain⟨_,o,ho,_⟩:=I.ok.funs.mem z;exact absurd (TU (TZ ho) n.s0) (Vu _)
theorem O7.two{h':Heap}{t':Nat}{c d:Addr}(I:O7 X gV σ H s)(nc:QH X gV c)(nd:QH X gV d)(hc:H c=none)(hd:H d=none)(k:∀b o,b≠X.env.locals->b≠c->b≠d->s.heap.get? b=some o->h'.get? b=some o)
  (ns:∀m,s.heap.Ns X.env.locals m->h'.Ns X.env.locals m):O7 X gV σ H {s with heap:=h',toks:=t' }:=by
 have nit:∀b u,H b=some u->b≠X.env.locals/\b≠c/\b≠d:=λb u e=>⟨λz=>(by rw[z,I.free]at e;cases e),λz=>(by rw[z,hc]at e;cases e),λz=>(by rw[z,hd]at e;cases e)⟩
 refine I.step (g':=s.gens) (d':=s.drawn) (ch:=[c,d]) (λb hb=>?_) (λb o hL _ hb e _=>k b o hL (λz=>hb (by simp[z])) (λz=>hb (by simp[z])) e) (λb o hL _ hb e _=>⟨o.slots,k b o hL (λz=>hb (by simp[z])) (λz=>hb (by simp[z])) e⟩) (λ_ _ _ _ n=>n)
  (λb o hb e=>?_) (λ_ _ e=>e) (λ_ _ _ e=>e) (λ_ _ e=>e) ns (λb u e=>?_) I.bare
 .
  have:b=c∨b=d:=by simpa using hb
  rcases this with rfl|rfl
  . exact⟨.inr nc.s0,nc.loc,nc.cel,nc.pin⟩
  . exact⟨.inr nd.s0,nd.loc,nd.cel,nd.pin⟩
 .
  by_cases hL:b=X.env.locals
  . obtain⟨m,hn,_⟩:=I.loc;obtain⟨o2,_,_,e2,_⟩:=ns m hn;rw[hL];exact⟨o2,e2⟩
  . exact⟨o,k b o hL (λz=>hb (by simp[z])) (λz=>hb (by simp[z])) e⟩
 .
  refine(I.hok b u e).stay (λx v hx q=>?_) (λ_ q=>q) (λ_ _ q=>q) λ_ _ _ _ q=>q
  have:∃u,H x=some u:=by
   rcases hx with rfl|hx
   . exact⟨u,e⟩
   . exact⟨_,hx⟩
  obtain⟨u2,e2⟩:=this;obtain⟨n1,n2,n3⟩:=nit x u2 e2;exact k x v n1 n2 n3 q
def QT(X:Cx)(gV:List (Addr×Obj))(σ:St)(H:Hp)(kS a:Addr)(s:Shared):Prop:=∃H',O7 X gV σ H' s/\(∀b o,H b=some o->H' b=some o)/\H' kS=none/\H' a=none/\(∃o,s.heap.get? kS=some o)/\∃o,s.heap.get? a=some o
def QU(X:Cx)(gV:List (Addr×Obj))(σ:St)(H:Hp)(a:Addr)(s:Shared):Prop:=∃H',O7 X gV σ H' s/\(∀b o,H b=some o->H' b=some o)/\H' a=none
variable{kS a:Addr}{vs:List Value}{kz:List Int}{e1:Nat}{f:Value}{A':Around}{P:PySem.Fin->Shared->Prop}{E:Value->Shared->Prop}
theorem FK(J0:QT X gV σ H kS a s)(nk:QH X gV kS)(na:QH X gV a)(hka:kS≠a) (gk:s.heap.get? kS=some (seqObj "list" #[] 0)) (ga:s.heap.get? a=some (seqObj "list" #[] e1)) (p4:kz.length=vs.length) (h64:vs.length < 64)
  (turn:∀(i:Nat)(v:Value)(k:Int),vs[i]?=some v->kz[i]?=some k->∀s',QT X gV σ H kS a s' ->
   wpAny (model X.prog X.w) A' (call f [v]) (λr s''=>∃t,r=.int k t/\QT X gV σ H kS a s''/\(∀o,s'.heap.get? kS=some o->s''.heap.get? kS=some o)/\∀o,s'.heap.get? a=some o->s''.heap.get? a=some o) (λ_ _=>False) s')
  (h:∀ s' out c,QU X gV σ H a s'->s'.heap.get? a=some (seqObj "list" out c)->KskOut false kz vs out.toList->P (.done (.ret .none)) s') :
  wpAny (model X.prog X.w) A' (ksk_rest a f false vs.toArray e1 (.ref kS)) P E s:=by
 unfold ksk_rest;refine tu (wpAny_rule ?_)
 first
  |rw[List.forIn_toArray]
  |(rw[<- Array.forIn_toList];simp only[List.toList_toArray])
  |rw[<- Array.forIn_toList]
 refine tu (ksk_fold (λi s'=>∃ kA e,QT X gV σ H kS a s'/\s'.heap.get? kS=some (seqObj "list" kA e)/\s'.heap.get? a=some (seqObj "list" #[] e1)/\IntsAre kA.toList (kz.take i)) vs 0 s
  ⟨#[],0,J0,gk,ga,by simpa using IntsAre.nil⟩ ?step ?done)
 case step =>
  rintro j x s' hx ⟨kA,e,J,g1,g2,hk⟩;simp only[Nat.zero_add]at hk ⊢;have hj:j<vs.length:=(TR.mp hx).1;obtain⟨k,hkj⟩:∃k,kz[j]?=some k:=⟨_,TM xL⟩;have hz:kA.size<=vs.length:=by have h1:=hk.length;rw[Array.length_toList,Va]at h1;omega
  refine tu (wpAny_attempt (Vc (turn j x k hx hkj s' J) (λv s'' he=>?_) λ_ _ hF=>hF.elim));obtain⟨t2,rfl,⟨H',I,up,hn1,hn2,_,_⟩,k1,k2⟩:=he
  try dsimp only
  have q1:=k1 _ g1;have q2:=k2 _ g2;have s1:=Heap.SameBut.update s''.heap kS (Obj.mapSeq (·.push (.int k t2)));obtain⟨c2,hc2⟩:∃ c2,(s''.heap.update kS (Obj.mapSeq (·.push (.int k t2)))).get? kS=some (seqObj "list" (kA.push (.int k t2)) c2):=⟨_,get?_update_seq q1 (·.push (.int k t2))⟩;have ek:kz.take (j+1)=kz.take j++[k]:=by rw[List.take_add_one,hkj];simp
  have ea:(kA.push (Value.int k t2)).toList=kA.toList++[Value.int k t2]:=by simp
  refine tu (listUpdate_at q1 rfl ?_ (by rw[Wc];omega) (T9 (Nat.le_of_eq (Array.size_push ..)) (by rw[Wc];omega)));refine Ub ⟨rfl,kA.push (.int k t2),c2,⟨H',?_,up,hn1,hn2,⟨_,hc2⟩,⟨_,(s1.2 a hka.symm).trans q2⟩⟩,hc2,(s1.2 a hka.symm).trans q2,by rw[ea,ek];exact ksk_snoc hk⟩;exact I.two (t':=s''.toks) nk na hn1 hn2 (λb o _ n1 _ q=>(s1.2 b n1).trans q) λm hm=>hm.sameBut s1 (U3 nk.loc)
 case done =>
  rintro s' ⟨kA,e,⟨H',I,up,hn1,hn2,_,_⟩,g1,g2,hk⟩;have hk':IntsAre kA.toList kz:=by have e3:kz.take (0+vs.length)=kz:=UM xL;rw[e3]at hk;exact hk
  try dsimp only
  refine tu (listItems_at g1 rfl ?_);obtain⟨m,hn,_⟩:=id I.loc;have F:Fr (Att.noObjs s'.heap) X.env.locals s'.heap m:=⟨hn,λb o z=>(by rw[Att.noObjs_get]at z;cases z),Vr _⟩;refine ksk_end_ (b:=false) (e:=e) (h₀:=Att.noObjs s'.heap) (L:=X.env.locals) (m:=m) (news:=(qJ (Att.noObjs s'.heap) s'.heap X.env.locals).filter λp=>decide (p.1≠kS) && decide (p.1≠a)) F (λp hp=>?_) hka (λp hp=>?_) (λp hp=>?_) hk' p4 h64 λh3 tk3 out c F3 N3 k3=>?_
  .
   rcases Uw.mp hp with hp|hp
   . exact Eu p (Vf.mp hp).1
   .
    rcases Ue.mp hp with rfl|hp
    . exact⟨g1,nk.loc,Att.noObjs_get _ _⟩
    . rw[U0.mp hp];exact⟨g2,na.loc,Att.noObjs_get _ _⟩
  . have:=(Vf.mp hp).2;simp only[Uc,Ua]at this;exact this.1
  . have:=(Vf.mp hp).2;simp only[Uc,Ua]at this;exact this.2
  .
   refine h _ out c ⟨H',?_,up,hn2⟩ (N3 _ (.head _)).1 k3;refine I.two (h':=h3) (t':=tk3) nk na hn1 hn2 (λb o n0 n1 n2 q=>?_) λm2 hm2=>?_
   . exact(N3 (b,o) (.tail _ (Vf.mpr ⟨xZ n0 (Att.noObjs_get _ _) q,by simp[n1,n2]⟩))).1
   . have e1:=hm2.eq_nsMap;have e2:=hn.eq_nsMap;rw[e1,<- e2];exact F3.ns
theorem Bf{l q:Addr}{Q:Value->Shared->Prop}(I:O7 X gV σ H s)(hl:s.heap.IsList l vs.toArray)(p4:kz.length=vs.length)(h64:vs.length<64)
  (turn:∀kS a,QH X gV kS->QH X gV a->∀(i:Nat)(v:Value)(k:Int),vs[i]?=some v->kz[i]?=some k->∀s',QT X gV σ H kS a s' ->
   wpAny (model X.prog X.w) X.A.in1.in1 (call (.ref q) [v]) (λr s''=>∃t,r=.int k t/\QT X gV σ H kS a s''/\(∀o,s'.heap.get? kS=some o->s''.heap.get? kS=some o)/\∀o,s'.heap.get? a=some o->s''.heap.get? a=some o) (λ_ _=>False) s')
  (h:∀ a s' out c,QH X gV a->QU X gV σ H a s'->s'.heap.get? a=some (seqObj "list" out c)->KskOut false kz vs out.toList->Q (.ref a) s') :
  wpAny (model X.prog X.w) X.A (call (.builtin "sorted") [.ref l] [(Str.ofString "key",.ref q)]) Q E s:=by
 refine call_function_entry_kw kind_sorted plain_sorted entry_sorted (ksk_s1 _ _) ?_;unfold Builtin.«sorted»;refine tu (m:=checkCount "sorted" 1 1 _) (Ub ?_);refine tu (collect_list hl ?_ (by rw[Wc];omega));refine tu (wpAny_newList ?_ (by rw[Wc];omega));have hsz:((s.heap.push (seqObj "list" #[] 0)).update s.heap.objs.size (Obj.mapSeq (·++vs.toArray))).objs.size=s.heap.objs.size+1:=by rw[Heap.size_update,size_push']
 have hoL:(((s.heap.push (seqObj "list" #[] 0)).update s.heap.objs.size (Obj.mapSeq (·++vs.toArray))).push (seqObj "list" vs.toArray 0)).get? (s.heap.objs.size+1)=some (seqObj "list" vs.toArray 0):=by rw[<- hsz];exact Up _ rfl
 have keep:∀ b o,s.heap.get? b=some o->(((s.heap.push (seqObj "list" #[] 0)).update s.heap.objs.size (Obj.mapSeq (·++vs.toArray))).push (seqObj "list" vs.toArray 0)).get? b=some o:=λb o q=>by have hlt:b<s.heap.objs.size:=TZ q;rw[Heap.get?_push_ne _ _ _ (by rw[hsz];exact Ut (Nat.lt_succ_of_lt hlt)),Heap.get?_update_ne _ _ _ _ (Ut hlt),Heap.get?_push_ne _ _ _ (Ut hlt)];exact q
 show wpAny _ _ _ _ _ {s with heap:=((s.heap.push (seqObj "list" #[] 0)).update s.heap.objs.size (Obj.mapSeq (·++vs.toArray))).push (seqObj "list" vs.toArray 0) };rw[hsz];generalize hhp:((s.heap.push (seqObj "list" #[] 0)).update s.heap.objs.size (Obj.mapSeq (·++vs.toArray))).push (seqObj "list" vs.toArray 0)=hp at hoL keep;generalize ha:s.heap.objs.size+1=a at hoL;have sa:s.heap.objs.size<=a:=by omega
 refine tu (Vn (wpAny_call_entry_kw slot_list_sort ⟨_,hoL,rfl⟩ entry_list_sort ?body (ksk_l1 _ _)))
 case body =>
  show wpAny (model X.prog X.w) X.A.in1.in1 (Builtin.«list.sort» ⟨[.ref a],[(Str.ofString "key",.ref q)]⟩) _ _ _;rw[ksk_t1];have s1:=Heap.SameBut.update hp a (Obj.mapSeq λ_=>(#[]:Array Value));obtain⟨e1,ho1⟩:∃ e1,(hp.update a (Obj.mapSeq λ_=>(#[]:Array Value))).get? a=some (seqObj "list" #[] e1):=⟨_,get?_update_seq hoL λ_=>#[]⟩;have la:a<hp.objs.size:=TZ hoL;have hkS:((hp.update a (Obj.mapSeq λ_=>(#[]:Array Value))).push (seqObj "tuple" vs.toArray 0)).objs.size=hp.objs.size+1:=by rw[size_push',Heap.size_update]
  unfold ksk_tree;refine tu (listItems_at hoL rfl ?_);refine tu (listUpdate_at hoL rfl ?_ (by rw[Uk,Wc];omega) (Vr _));refine tu (seqEpoch_at ho1 rfl ?_);refine tu (wpAny_newTuple ?_ (by show vs.length<=_;rw[Wc];omega));refine tu (wpAny_newList ?_ (Vr _));refine Vn ?_;have sk:s.heap.objs.size<=((hp.update a (Obj.mapSeq λ_=>(#[]:Array Value))).push (seqObj "tuple" vs.toArray 0)).objs.size:=by rw[hkS]; omega
  have nka:((hp.update a (Obj.mapSeq λ_=>(#[]:Array Value))).push (seqObj "tuple" vs.toArray 0)).objs.size≠a:=by rw[hkS]; omega
  have nk:QH X gV ((hp.update a (Obj.mapSeq λ_=>(#[]:Array Value))).push (seqObj "tuple" vs.toArray 0)).objs.size:=I.newer sk;have na:QH X gV a:=I.newer sa
  refine FK (s:={s with heap:=((hp.update a (Obj.mapSeq λ_=>(#[]:Array Value))).push (seqObj "tuple" vs.toArray 0)).push (seqObj "list" #[] 0) }) (kS:=((hp.update a (Obj.mapSeq λ_=>(#[]:Array Value))).push (seqObj "tuple" vs.toArray 0)).objs.size) (a:=a) (H:=H)
   ⟨H,I.kept (t':=s.toks) (λb o z=>TN _ (TN _ ((s1.2 b (Ut (TU (TZ z) sa))).trans (keep b o z)))),λ_ _ z=>z,I.hok.fresh sk,I.hok.fresh sa,⟨_,Up _ rfl⟩,⟨_,TN _ (TN _ ho1)⟩⟩ nk na nka
   (Up _ rfl) (TN _ (TN _ ho1)) p4 h64 (turn _ a nk na) λs' out c J g k=>⟨_,rfl,?_⟩
  exact Ub ⟨_,rfl,h a s' out c na J g k⟩
end
noncomputable def uh:Value->Int
 |.int n _=>n
 |_=>0
theorem uQ:∀{us:List Value}{ns:List Int},IntsAre us ns->us.map uh=ns/\∀u∈us,∃t,u=.int (uh u) t
 |_,_,.nil=>⟨rfl,λu h=>by simp at h⟩
 | _,_,.cons n t h=>by
  obtain⟨h1,h2⟩:=uQ h;refine⟨by rw[Ur,h1];rfl,λu hu=>?_⟩;rcases Ue.mp hu with rfl|hu
  . exact⟨t,rfl⟩
  . exact h2 u hu
theorem FL{us:List Value}{ns:List Int}{g:Int->Int}{out:List Value}(hi:IntsAre us ns)(h:KskOut false (ns.map g) us out):(out.map uh).Perm ns/\(out.map uh).Pairwise (λa b=>g a<=g b)/\cn ((out.map uh).map V.int) out:=by
 obtain⟨e1,e2⟩:=uQ hi;obtain⟨ps,hp,rfl,hs⟩:=h
 have hz:∀p∈(ns.map g).zip us,p.1=g (uh p.2)/\p.2∈us:=λp hp=>by
  obtain⟨j,hj,rfl⟩:=UJ hp;rw[VB];rw[U7]at hj;refine⟨?_,TV _⟩;simp only[List.getElem_map]
  congr 1
  have:(us.map uh)[j]?=ns[j]?:=by rw[e1]
  rw[Ui,TM xL,TM (by simpa using(show j<(ns.map g).length by omega))]at this;simpa using this.symm
 have hz':∀p∈ps,p.1=g (uh p.2)/\p.2∈us:=λp h=>hz p (hp.mem_iff.mp h);have hm:(ps.map Prod.snd).map uh=ps.map λp=>uh p.2:=by rw[UP];rfl
 refine⟨?_,?_,?_⟩
 .
  rw[hm];refine(hp.map _).trans ?_;have:((ns.map g).zip us).map (λp=>uh p.2)=ns:=by rw[show(λp:Int×Value=>uh p.2)=uh ∘ Prod.snd from rfl,<- UP,List.map_snd_zip,e1];have:=hi.length;rw[TY];omega
  rw[this]
 . rw[hm,List.pairwise_map];refine List.Pairwise.imp_of_mem (λ{a b} ha hb q=>?_) hs;rw[<- (hz' a ha).1,<- (hz' b hb).1];simpa using q
 .
  have all:∀l:List Value,(∀u∈l,∃t,u=.int (uh u) t)->cn ((l.map uh).map V.int) l:=by
   intro l
   induction l with
   |nil=>exact λ_=>.nil
   |cons u l ih=>exact λh=>.cons (h u TQ) (ih λv hv=>h v (TL _ hv))
  refine all _ λu hu=>?_;obtain⟨p,hpm,rfl⟩:=UY.mp hu;exact e2 _ (hz' p hpm).2
def CW(fs:FS)(i:Nat)(t:W L):W L:=λZ so=>t Z λr Z1=>P2 r λd=>∃(ns:List Int)(g:Int->Int),d=.lst (ns.map .int)/\ns.length<64/\MM i Z1 λv=>(∀n∈ns,fs [.d (.int n),.d v] λr _=>LG r λz=>z=.int (g n)) /\
 ∀(a:Addr)(out:List Int),out.Perm ns->out.Pairwise (λa b=>g a<=g b)->so (.own a (out.map .int)) Z1
section
variable{X:Cx}{k k':Nat}{x y:Str}{p cpos pos kpos:Pos}{e:Expr}{t:W L}{fs:FS}{pr:Arguments}{bd:Expr}{sc:Scope}
theorem FM(LO:Jl X.prog X.w X.K X.mg X.base k x fs)(hr:gG k' X.A)(i:Nat)(LI:LJ X x y i pr bd sc pos)(ha:PL X e t) (hm:X.mg "sorted"=none) (hk:k+2<=k':=by decide) (hg:Gl X "sorted":=by rfl)
  (he:starEach [e] X.env=(false,eval e X.env)::starEach [] X.env:=by rfl) :
  PL X (.Call (.Name "sorted" p) [e] [⟨some "key",.Lambda pr bd sc pos,kpos⟩] cpos) (CW fs i t):=by
 intro gV s σ H Pr Z so I E0 h;obtain⟨c0,P,tab,code⟩:=LI.tab;refine Ve (ly I hg hm (u:=.builtin "sorted") y_ ?_);refine callWith_kw (e:=e) (rest:=[]) (kws:=[⟨some "key",.Lambda pr bd sc pos,kpos⟩]) ?_ (by rw[he]; rfl) (by rw[he]; rfl) rfl rfl;rw[he];show wpAny _ _ (spliced ((false,eval e X.env)::backTo cpos (starEach [] X.env))) _ _ s;refine Calls.spliced_cons (O9 (ha gV s σ H Pr Z _ I E0 h) λu1 s1 hq=>?_);obtain⟨v1,H1,d,Z1,I1,rv1,E1,ns,g,rfl,h64,q1⟩:=EL.frz hq;refine Calls.spliced_nil ?_;obtain⟨dv,qi,hkey,q1⟩:=Jn q1
 show wpAny _ _ (evalAll [(do let v <- eval (.Lambda pr bd sc pos) X.env;standAt cpos;pure v)]) _ _ s1
 obtain⟨c,hcl⟩:=I1.ok.has y (.inl LI.cel);have fr:∀z,(z,NameKind.free)∈sc.names->z=y:=λz hz=>by have:(z,NameKind.free)∈sc.names.filter λp=>p.2 == .free:=Vf.mpr ⟨hz,rfl⟩;rw[LI.fre]at this;simpa using this
 have hm':(y,NameKind.free)∈sc.names:=by
  have:(y,NameKind.free)∈sc.names.filter λp=>p.2 == .free:=by rw[LI.fre];simp
  exact(Vf.mp this).1
 have hclo:closureFor sc X.env=pure [(y,c)]:=by
  rw[nF λz hz hf=>by
   obtain⟨z1,z2⟩:=z;cases hf
   rw[fr z1 hz];exact⟨c,hcl⟩,z7 hcl _ _ LI.fre]
 refine wpAny_evalAll_cons (tu (FJ I1 LI.mem tab code LI.qual hclo LI.deft λfa c' oq H2 s2 ctv pm I2 ext gf nf zf zq co=>tu (V3 (Ub ?_))));refine wpAny_evalAll_nil ?_;show wpAny (model X.prog X.w) X.A (call (.builtin "sorted") [u1] [(Str.ofString "key",.ref fa)]) _ _ s2;have nfa:QH X gV fa:=I1.newer zf;generalize hfo:kla_obj "<lambda>" (t8 x) pr bd sc [(y,c)] pm c' ctv=fo at gf;have I3:O7 X gV σ (OZ H2 fa (.frz fo (.own fa))) s2:=I2.track nf nfa.s0 nfa.loc nfa.cel nfa.pin ⟨gf,_,gf⟩;have up3:∀b o,H2 b=some o->OZ H2 fa (.frz fo (.own fa)) b=some o:=λb o z=>by rw[aB (bh z nf)];exact z
 have E3:=(E1.exten ext).exten up3;obtain⟨_,e5,ra⟩:=E3.head_d;cases e5;have E4:=E3.tail;obtain⟨sv,hsl,v',rfl,rd⟩:=E4.slot qi
 cases ra with
 | lst hz rs =>
  have evs:=pR rs;subst evs;cases rv1;obtain⟨its,r',pl,hzz⟩:=I3.list hz.l;have hi:=zT r';have p4:=hi.length;refine Bf (kz:=ns.map g) I3 pl.isList (by rw[TY];exact p4.symm) xL (λkS a nk na j v kv hv hkv s' J=>?_) λa s' out cc na J ga ko=>?_
  .
   obtain⟨H',I',up,n1,n2,⟨ok1,gk1⟩,⟨ok2,gk2⟩⟩:=J;have hj:j<ns.length:=by have:=(TR.mp hkv).1;simpa using this
   have ekv:kv=g ns[j]:=by rw[Ui,TM hj]at hkv;exact(Uq hkv).symm
   obtain⟨en,ev⟩:=uQ hi;obtain⟨tv,hv2⟩:=ev v (List.mem_of_getElem? hv)
   have ejn:uh v=ns[j]:=by
    have:(its.map uh)[j]?=ns[j]?:=by rw[en]
    rw[Ui,hv,TM hj]at this;simpa using this
   obtain⟨m,_,hloc⟩:=I'.loc;obtain⟨u',rv',lk⟩:=hloc i y v' LI.at_i hsl (.inr (.inl LI.cel))
   obtain⟨oc,gc,dc⟩:s'.heap.IsCell c (some u'):=by
    rcases lk with⟨z,_⟩|⟨_,c2,e2,z⟩
    . rw[show X.env.kindOf y=some .cell from LI.cel]at z;cases z
    . rw[hcl]at e2;cases e2;exact z
   have nc:H' c=none:=(I'.freeC y c hcl).resolve_right λz=>by rw[LI.fn]at z;exact absurd z.1 x_
   have la:LF X.K H' s'.heap fa x dv:=by refine⟨c,c',oc,oq,y,pr,bd,sc,pos,pm,ctv,u',v',LI.lam,?_,(I'.hok c' _ (up _ _ (up3 _ _ zq))).1,co,gc,.inl nc,dc,rv',hm',rd.pres λb o _ z=>up b o z⟩;rw[hfo];exact(I'.hok fa _ (up _ _ a6)).1
   have rr:gG k X.A.in1.in1:=gG.in1 (gG.in1 (hr.mono (j:=k+2) hk));have hfs:=hkey ns[j] (TV hj);refine Wi (codeAny_mono (LO.run X.A.in1.in1 X.stack s' H' fa v (.int ns[j]) (.int ns[j]) dv (λz=>z=.int (g ns[j])) rr I'.env0.in1.in1 ⟨tv,by rw[hv2,ejn]⟩ (.int _) la hfs) λres s'' hres=>?_)
   cases res with
   |error ee=>exact(show False from hres).elim
   | ok fl =>
    cases fl with
    | ret u2 =>
     obtain⟨v3,H3,os,bare,un,hok,rv3,ext3,z,rz,pz⟩:=hres;subst pz;cases rz;obtain⟨t3,rfl⟩:=rv3;have I4:O7 X gV σ H3 s'':=I'.call' (ch:=[]) os un hok bare (λb z=>absurd z v6);have kk1:∀o,s'.heap.get? kS=some o->s''.heap.get? kS=some o:=λo z=>un.keep kS o z n1 (nk.nofs I') v6;have kk2:∀o,s'.heap.get? a=some o->s''.heap.get? a=some o:=λo z=>un.keep a o z n2 (na.nofs I') v6;exact⟨t3,by rw[ekv],⟨H3,I4,λb o z=>ext3 b o (up b o z),un.free kS ok1 gk1 n1 v6,un.free a ok2 gk2 n2 v6,⟨ok1,kk1 _ gk1⟩,⟨ok2,kk2 _ gk2⟩⟩,kk1,kk2⟩
    |next=>exact False.elim hres
    |brk=>exact False.elim hres
    |cont=>exact False.elim hres
  .
   obtain⟨H',I',up,n2⟩:=J;obtain⟨op,os,ov⟩:=FL hi ko;have lo:(out.toList.map uh).length=ns.length:=op.length_eq;have I5:O7 X gV σ (OZ H' a (.lst ((out.toList.map uh).map V.int))) s':=by refine I'.track n2 na.s0 na.loc na.cel na.pin ⟨?_,out.toList,cc,ov,by simpa using ga⟩;rw[TY,lo];exact T9 (We h64) x_
   exact⟨.ref a,_,.own a ((out.toList.map uh).map .int),Z1,I5,rfl,(E4.exten up).cons_own n2 (qW _),q1 a _ op os⟩
end
theorem LN{P:Program}{w:World}{K:Frag}{mg:Str->Option Value}{base:Heap}{x qual:Str}{st:Stmt}{f:Addr}{fd:FuncData}{N ps:List Str}{k:Nat}{fs:FS}(F:PX K x qual st f fd)(S:aC N ps (au st))(t:W Fl)
  (hbody:∀(cdv:Value)(A:Around)(outer:List Env)(s:Shared)(H:Hp)(E:XK),fd.code=cdv->gG k (A.deeper (envOfC qual (au st) s.heap.objs.size f cdv))->P1 (Em CX0 P w K mg base N qual (au st) f cdv A outer s H E).nox (dz st) t)
  (h:∀ls so,ls.length=ps.length->fs ls so->t (ls++List.replicate (N.length-ps.length) .un) (aS ls so)):FnOk P w K mg base CX0 (k+1) f fd ps (spF K ps.length fs):=by
 obtain⟨oc,od,kV,doc,pm,an,cdv,ct,osl,rfl,lk,hcd⟩:=F.ex;refine HK lk hcd S (λvs H Q E q=>q.1) λA outer s H vs Q E hr q=>?_;obtain⟨hl,Pr,ls,so,E0,hf,q⟩:=q;refine⟨_,(hbody cdv A outer s H E rfl hr).pss.nox,bG H ls,ls++List.replicate (N.length-ps.length) .un,aS ls so,?_,h ls so (by rw[<- hl];have:=E0.len;simpa using this.symm) hf,λσ' H' Z' E' p=>?_,λ_ _ _ _ p=>p.elim,λ_ _ _ _ p=>p.elim,λv τ H' r Z' E' p=>?_⟩
 . unfold oJ;rw[hl];exact E0.wide.uns _
 . obtain⟨ls',B,p⟩:=p;exact q .non H' (.d .non) ls' (qv E0 (E'.cons_d .non) B) p
 . obtain⟨ls',B,p⟩:=p;exact q v H' r ls' (qv E0 E' B) p
end L2
namespace L2
open PySem PySem.W
section
variable{X:Cx}{es:List Expr}{pos:Pos}
def Jo(i:Nat)(t:W (List L)):W L:=λZ so=>t Z λls Z1=>ls.length<=sizeLine/\ls[0]?=some .un/\Km Z1[i]? i Z1 λl Z2=>(∃a ys,l=.own a ys)/\so (.bx none (l::ls.tail)) Z2
theorem Jp {x1} (i:Nat) {bs:List (Option Nat)} {t:W (List L)} (h:P0 X es (some i::bs) t):PL X (.Tuple es x1 pos) (Jo i t):=by
 intro gV s σ H Pr Z so I E hq;refine wpAny_Tuple_spliced (O9 (h pos gV s σ H Pr Z _ I E hq) λus s1 ⟨vs,H1,ls,Z1,I1,r,hl,hb,E1,hv,z,z0,q⟩=>?_);refine⟨by rw[<- r.length,hl];exact z,?_⟩
 cases qi:Z1[i]? with
 |none=>rw[qi]at q;exact q.elim
 |some l =>
 rw[qi]at q
 cases l with
 |un=>exact q.elim
 |dic _ _=>exact q.elim
 |d y=>obtain⟨⟨_,_,z⟩,_⟩:=q;cases z
 |bx _ _=>obtain⟨⟨_,_,z⟩,_⟩:=q;cases z
 |own a ys =>
 obtain⟨_,q⟩:=q;obtain⟨_,v,hv1,hv2⟩:=hv 0 i rfl
 cases ls with
 |nil=>cases z0
 |cons l ls =>
 cases vs with
 |nil=>simp at hl
 |cons w vs =>
 have hl':vs.length=ls.length:=by simpa using hl
 have E2:aD X.K Pr H1 (vs.map some++σ) (ls++Z1):=aD.tail (v:=some w) (l:=l) E1;have qi2:(ls++Z1)[ls.length+i]?=some (.own a ys):=by rw[Uv (VO _ _),UD];exact qi
 have wv:w=v:=by simpa using hv1
 subst wv;have hs2:(vs.map some++σ)[ls.length+i]?=some (some w):=by rw[Uv (by rw[TY,hl'];exact VO _ _),TY,hl',UD];exact hv2
 have E3:=E2.outL qi2 hs2;rw[VU _ _ (VO _ _),UD]at E3;have hf:H1 s1.heap.objs.size=none:=I1.hok.fresh (Ud _);have E4:aD X.K Pr (OZ H1 s1.heap.objs.size (.tup (w::vs))) ((w::vs).map some++σ) ((.own a ys::ls)++Z1.set i .un):=aD.new E3 hf;have hl2:(w::vs).length=(L.own a ys::ls).length:=by simpa using hl'
 refine⟨.ref s1.heap.objs.size,OZ H1 s1.heap.objs.size (.tup (w::vs)),_,Z1.set i .un,I1.laid (t':=s1.toks) (λb u e=>TN _ e) (Ud _) ?_,rfl,E4.closeT hl2 (Pd.of a6),q⟩;exact⟨by rw[hl];exact z,us,r,⟨_,Up _ rfl,rfl,_,rfl⟩⟩
end
end L2
namespace L2
open PySem PySem.Spec PyProof.Rows PySem.SeqAt
structure N9 (d:D):Prop where
 ok:QS d=true
 sh:jT d=true
 dp:(Qf d).depth<=40
 sg:Er d<=16777216
theorem N9.len{d:D}(h:N9 d):(Qf d).shown.length<=sizeLine:=by
 have e:sizeLine=16777216:=by decide
 rw[e];exact T9 (CV d (rn d h.ok h.sh)) h.sg
end L2
namespace L2
open PySem PySem.Spec PyProof.Rows
def QV(o q:Option L)(i j:Nat)(t:W L)(Z:Ev)(so:L->Ev->Prop):Prop:=match o,q with
 |some (.own _ xs),some (.own b _)=>i≠j/\eu i Z=true/\t (Z.set i (.d (.lst xs))) λr Z'=>lB r=true/\∃zs,uM zs=true/\Z'=(Z.set i (.d (.lst xs))).set j (.own b zs)/\so r (Z.set j (.own b zs))
 |_,_=>False
theorem Jq(a b:Addr)(xs ys:List D)(i j:Nat)(t:W L)(Z:Ev)(so:L->Ev->Prop):QV (some (.own a xs)) (some (.own b ys)) i j t Z so=(i≠j/\eu i Z=true/\t (Z.set i (.d (.lst xs))) λr Z'=>lB r=true/\∃zs,uM zs=true/\Z'=(Z.set i (.d (.lst xs))).set j (.own b zs)/\so r (Z.set j (.own b zs))):=(rfl)
def OE(o:Option L)(Z:Ev)(so:Bool->Ev->Prop):Prop:=match o with
 |some (.d (.lst xs))=>so (!xs.isEmpty) Z
 |_=>False
theorem FN(xs:List D)(Z:Ev)(so:Bool->Ev->Prop):OE (some (.d (.lst xs))) Z so=so (!xs.isEmpty) Z:=(rfl)
end L2
namespace HT
open PySem PySem.Spec PyProof.Rows
end HT
namespace L2
open PySem PySem.Spec PyProof.Rows
end L2
namespace L2
open PySem PySem.Spec PyProof.Rows PySem.W
end L2
namespace L2
open PySem PySem.Spec PyProof.Rows PySem.SeqAt
end L2
namespace PySem
open PySem.Spec
namespace F
end F
end PySem
namespace L2
open PySem PySem.Spec PyProof.Rows PySem.W
section
variable{key:Nat->Int}{n:Nat}{I:Shared->Prop}{cmp:Nat->Nat->(Bool->Shared->Prop)->Shared->Prop}
def Nq(I:Shared->Prop)(cmp:Nat->Nat->(Bool->Shared->Prop)->Shared->Prop){α:Type}(t:KasT α)(P:α->Prop):Prop:=∀(Q:α->Shared->Prop)(s:Shared),I s->(∀a s',I s'->P a->Q a s')->t.kasWp cmp Q s
def OV(key:Nat->Int)(n:Nat)(I:Shared->Prop)(cmp:Nat->Nat->(Bool->Shared->Prop)->Shared->Prop):Prop:=∀(i j:Nat)(C:Bool->Shared->Prop)(s:Shared),i<n->j<n->i≠j->I s->(∀s',I s'->C (decide (key i<key j)) s')->cmp i j C s
noncomputable def kk(key:Nat->Int)(p:Array Nat)(i:Nat):Int:=key (p.getD i 0)
structure LP (n:Nat) (p:Array Nat):Prop where
 sz:p.size=n
 pm:p.toList.Perm (List.range n)
theorem LP.lt{p:Array Nat}(g:LP n p){i:Nat}(h:i<n):p.getD i 0<n:=by
 have hs:i<p.size:=by rw[g.sz];exact h
 have e:p.getD i 0=p[i]:=by simp[Array.getD,hs]
 rw[e];exact Uy.mp (g.pm.mem_iff.mp (by rw[<- Array.getElem_toList];exact TV _))
theorem Nq.mono{α:Type}{t:KasT α}{P R:α->Prop}(h:Nq I cmp t P)(hr:∀a,P a->R a):Nq I cmp t R:=λQ s hI hq=>h Q s hI λa s' hI' ha=>hq a s' hI' (hr a ha)
end
end L2
namespace L2
open PySem
theorem dh{g:Tg}{b:W Fl}{so:Fl->Ev->Prop}:∀(xs:List D)(I:Nat->Ev->Prop)(Z:Ev),I 0 Z ->
  (∀j x Z,xs[j]?=some x->I j Z->∀Q:Fl->Ev->Prop,(∀Z',I (j+1) Z'->Q .nx Z')->(∀Z',I (j+1) Z'->Q .ct Z')->(∀Z',so .nx Z'->Q .bk Z')->(∀r Z',so (.rt r) Z'->Q (.rt r) Z')->g x Z λZ1=>b Z1 Q) ->
  (∀Z,I xs.length Z->so .nx Z)->fg g b xs Z so
 |[],I,Z,h0,_,Pb=>Pb Z h0
 | x::xs,I,Z,h0,step,Pb=>by
  unfold fg;refine step 0 x Z rfl h0 _ (λZ' h=>?_) (λZ' h=>?_) (λZ' h=>h) (λr Z' h=>h)
  . exact dh xs (λj=>I (j+1)) Z' h (λj y Z e hi=>step (j+1) y Z e hi) Pb
  . exact dh xs (λj=>I (j+1)) Z' h (λj y Z e hi=>step (j+1) y Z e hi) Pb
theorem nJ{α:Type}{enc:α->D}{g:Tg}{b:W Fl}{so:Fl->Ev->Prop}(as:List α)(I:List α->Ev->Prop)(Z:Ev)(h0:I [] Z)
  (step:∀pre a suf Z,as=pre++a::suf->I pre Z->∀Q:Fl->Ev->Prop,(∀Z',I (pre++[a]) Z'->Q .nx Z')->(∀Z',I (pre++[a]) Z'->Q .ct Z')->(∀Z',so .nx Z'->Q .bk Z')->(∀r Z',so (.rt r) Z'->Q (.rt r) Z')->g (enc a) Z λZ1=>b Z1 Q)
  (Pb:∀Z,I as Z->so .nx Z):fg g b (as.map enc) Z so:=by
 refine dh _ (λj Z=>I (as.take j) Z) Z h0 (λj x Z e hi Q h1 h2 h3 h4=>?_) λZ h=>Pb Z (by simpa using h);rw[Ui]at e
 cases ea:as[j]? with
 |none=>rw[ea]at e;cases e
 | some a =>
  rw[ea]at e;cases e;obtain⟨hj,ea'⟩:=TR.mp ea;have es:as.take (j+1)=as.take j++[a]:=by rw[List.take_succ,ea];rfl
  have ed:as=as.take j++a::as.drop (j+1):=by have:=(List.take_append_drop j as).symm;rw[UH hj,ea']at this;exact this
  rw[es]at h1 h2;exact step _ a _ Z ed hi Q h1 h2 h3 h4
theorem z8{g:Tg}{ti:W Bool}{te:W L}{k:List D->Ev->Prop}:∀(xs:List D)(I:Nat->Ev->List D->Prop)(Z:Ev)(acc:List D),I 0 Z acc ->
  (∀j x Z acc,xs[j]?=some x->I j Z acc->∀Q:Ev->List D->Prop,(∀Z' acc',I (j+1) Z' acc'->Q Z' acc')->g x Z λZ1=>ti Z1 λb Z2=>if b=true then te Z2 λr Z3=>P2 r λy=>Q Z3 (acc++[y])else Q Z2 acc) ->
  (∀Z acc,I xs.length Z acc->k acc Z)->d6 g ti te xs Z acc k
 |[],I,Z,acc,h0,_,Pb=>Pb Z acc h0
 | x::xs,I,Z,acc,h0,step,Pb=>by unfold d6;exact step 0 x Z acc rfl h0 (λZ acc=>d6 g ti te xs Z acc k) λZ' acc' h=>z8 xs (λj=>I (j+1)) Z' acc' h (λj y Z acc e hi=>step (j+1) y Z acc e hi) Pb
theorem rp{α:Type}{enc:α->D}{h:α->Option D}{caps:Ev}{ti:W Bool}{te:W L}{k:List D->Ev->Prop}:∀(as:List α)(acc:List D)(l:L),
  (∀a∈as,∀Q:Ev->Option D->Prop,Q (.d (enc a)::caps) (h a)->ti (.d (enc a)::caps) λb Z2=>if b=true then te Z2 λr Z3=>P2 r λy=>Q Z3 (some y)else Q Z2 none) ->
  (∀l',k (acc++as.filterMap h) (l'::caps))->d6 (bJ 0) ti te (as.map enc) (l::caps) acc k
 |[],acc,l,_,Pb=>by have:=Pb l;simpa[d6]using this
 | a::as,acc,l,step,Pb=>by
  show d6 (bJ 0) ti te (enc a::as.map enc) (l::caps) acc k;unfold d6;show ti (.d (enc a)::caps) _
  refine step a TQ (λZ o=>match o with|some y=>d6 (bJ 0) ti te (as.map enc) Z (acc++[y]) k|none=>d6 (bJ 0) ti te (as.map enc) Z acc k) ?_
  cases e:h a with
  |none=>exact rp as acc _ (λb hb=>step b (TL _ hb)) (by simpa[Vw,e]using Pb)
  |some y=>exact rp as (acc++[y]) _ (λb hb=>step b (TL _ hb)) (by simpa[Vw,e]using Pb)
theorem nK{α:Type}{enc:α->D}{h:α->D}{caps:Ev}{te:W L}{k:List D->Ev->Prop}(as:List α)(acc:List D)(l:L)
  (step:∀a∈as,∀Q:Ev->D->Prop,Q (.d (enc a)::caps) (h a)->te (.d (enc a)::caps) λr Z3=>P2 r λy=>Q Z3 y)
  (Pb:∀l',k (acc++as.map h) (l'::caps)):d6 (bJ 0) mi te (as.map enc) (l::caps) acc k:=by
 refine rp (h:=λa=>some (h a)) as acc l (λa ha Q q=>?_) (by simpa using Pb);simp only[mi,Wg];exact step a ha (λZ y=>Q Z (some y)) q
theorem oU{α:Type}{e1 e2:α->D}{h:α->Option D}{caps:Ev}{ti:W Bool}{te:W L}{k:List D->Ev->Prop}:∀(as:List α)(acc:List D)(l m:L),
  (∀a∈as,∀Q:Ev->Option D->Prop,Q (.d (e1 a)::.d (e2 a)::caps) (h a)->ti (.d (e1 a)::.d (e2 a)::caps) λb Z2=>if b=true then te Z2 λr Z3=>P2 r λy=>Q Z3 (some y)else Q Z2 none) ->
  (∀l' m',k (acc++as.filterMap h) (l'::m'::caps))->d6 (ff [0,1]) ti te (as.map λa=>D.tup [e1 a,e2 a]) (l::m::caps) acc k
 |[],acc,l,m,_,Pb=>by have:=Pb l m;simpa[d6]using this
 | a::as,acc,l,m,step,Pb=>by
  show d6 (ff [0,1]) ti te (D.tup [e1 a,e2 a]::as.map λa=>D.tup [e1 a,e2 a]) (l::m::caps) acc k;unfold d6;show ti (.d (e1 a)::.d (e2 a)::caps) _
  refine step a TQ (λZ o=>match o with|some y=>d6 (ff [0,1]) ti te (as.map λa=>D.tup [e1 a,e2 a]) Z (acc++[y]) k|none=>d6 (ff [0,1]) ti te (as.map λa=>D.tup [e1 a,e2 a]) Z acc k) ?_
  cases e:h a with
  |none=>exact oU as acc _ _ (λb hb=>step b (TL _ hb)) (by simpa[Vw,e]using Pb)
  |some y=>exact oU as (acc++[y]) _ _ (λb hb=>step b (TL _ hb)) (by simpa[Vw,e]using Pb)
theorem wO{α:Type}{e1 e2:α->D}{h:α->D}{caps:Ev}{te:W L}{k:List D->Ev->Prop}(as:List α)(acc:List D)(l m:L)
  (step:∀a∈as,∀Q:Ev->D->Prop,Q (.d (e1 a)::.d (e2 a)::caps) (h a)->te (.d (e1 a)::.d (e2 a)::caps) λr Z3=>P2 r λy=>Q Z3 y)
  (Pb:∀l' m',k (acc++as.map h) (l'::m'::caps)):d6 (ff [0,1]) mi te (as.map λa=>D.tup [e1 a,e2 a]) (l::m::caps) acc k:=by
 refine oU (h:=λa=>some (h a)) as acc l m (λa ha Q q=>?_) (by simpa using Pb);simp only[mi,Wg];exact step a ha (λZ y=>Q Z (some y)) q
theorem uR{α:Type}{x:α}{xs:List α}:Pz (x::xs) 0=some x:=jG (j:=0) rfl
theorem tE{α:Type}{x y:α}{xs:List α}:Pz (x::y::xs) 1=some y:=jG (j:=1) rfl
theorem FO{α:Type}{x y z:α}{xs:List α}:Pz (x::y::z::xs) 2=some z:=jG (j:=2) rfl
theorem LQ{α:Type}{x y z w:α}{xs:List α}:Pz (x::y::z::w::xs) 3=some w:=jG (j:=3) rfl
theorem Nr{α:Type}{x y z w v:α}{xs:List α}:Pz (x::y::z::w::v::xs) 4=some v:=jG (j:=4) rfl
theorem Hb{α:Type}{xs:List α}{i:Int}{x:α}(h0:0<=i)(h:xs[i.toNat]?=some x):Pz xs i=some x:=by have:=jG h;rwa [Int.toNat_of_nonneg h0]at this
theorem aY{α:Type}{f:α->D}{xs:List α}{k:Nat}(h:k<xs.length):Pz (xs.map f) (k:Int)=some (f xs[k]):=jG (by rw[Ui,TM h];rfl)
theorem OF:Py 3 0=some 0:=by decide
theorem OG:Py 3 1=some 1:=by decide
theorem OH:Py 3 2=some 2:=by decide
theorem CY{α:Type}{x y:α}(c:Prop)[Decidable c]:Pz [x,y] (if c then 1 else 0)=some (if c then y else x):=by
 by_cases h:c
 . simp only[if_pos h,tE]
 . simp only[if_neg h,uR]
theorem nL(n:Nat):wj 0 n=(List.range n).map λ(i:Nat)=>D.int (i:Int):=by unfold wj;simp
theorem z9{g:Tg}{b:W Fl}{so:Fl->Ev->Prop}(lo:Int)(n:Nat)(I:Nat->Ev->Prop)(Z:Ev)(h0:I 0 Z)
  (step:∀j Z,j<n->I j Z->∀Q:Fl->Ev->Prop,(∀Z',I (j+1) Z'->Q .nx Z')->(∀Z',I (j+1) Z'->Q .ct Z')->(∀Z',so .nx Z'->Q .bk Z')->(∀r Z',so (.rt r) Z'->Q (.rt r) Z')->g (.int (lo+(j:Int))) Z λZ1=>b Z1 Q)
  (Pb:∀Z,I n Z->so .nx Z):fg g b (wj lo n) Z so:=by
 have hl:(wj lo n).length=n:=by simp[wj]
 refine dh _ I Z h0 (λj x Z hj hi Q h1 h2 h3 h4=>?_) λZ h=>Pb Z (by rwa [hl]at h);have hj':j<n:=by rw[<- hl];exact(TR.mp hj).1
 have e:x=.int (lo+(j:Int)):=by unfold wj at hj;rw[Ui,Vj hj']at hj;exact(Uq hj).symm
 subst e;exact step j Z hj' hi Q h1 h2 h3 h4
theorem wQ{g:Tg}{b:W Fl}{so:Fl->Ev->Prop}(n:Nat)(I:Nat->Ev->Prop)(Z:Ev)(h0:I 0 Z)
  (step:∀j Z,j<n->I j Z->∀Q:Fl->Ev->Prop,(∀Z',I (j+1) Z'->Q .nx Z')->(∀Z',I (j+1) Z'->Q .ct Z')->(∀Z',so .nx Z'->Q .bk Z')->(∀r Z',so (.rt r) Z'->Q (.rt r) Z')->g (.int (j:Int)) Z λZ1=>b Z1 Q)
  (Pb:∀Z,I n Z->so .nx Z):fg g b (wj 0 n) Z so :=
 z9 0 n I Z h0 (λj Z hj hi Q h1 h2 h3 h4=>by rw[Int.zero_add];exact step j Z hj hi Q h1 h2 h3 h4) Pb
theorem bj{i:Int}(h:i.natAbs<2^200):c9 i:=TU h (Uh x_ x_)
theorem gO(x:Int){m:Int}(h:0<m):0<=x.fmod m/\x.fmod m<m:=by rw[Uu _ xL];exact⟨VX _ xL,VS _ h⟩
theorem yy{i:Int}{n:Nat}(h0:0<=i)(h:i<2^n)(hn:n<=1000000):c9 i:=by
 have:i.natAbs<2^n:=by
  have e:((2^n:Nat):Int)=(2:Int)^n:=by simp
  omega
 exact TU this (Uh x_ hn)
theorem Nu:(10:Int)^60<2^200:=by decide
theorem wR{i:Int}(h0:0<=i)(h:i<=10^60):i.natAbs<2^9000:=by
 have:i.natAbs<2^200:=by
  have:=Nu;have e:((2^200:Nat):Int)=(2:Int)^200:=by decide
  omega
 exact TU this (Uh x_ x_)
theorem RB.sub{m n:Nat}{p q:Rat}(hp:RB m p)(hq:RB n q):RB (m+n+1) (p-q):=by rw[U1];exact hp.add hq.neg
theorem Hc(p q:Rat):Rat.divInt (p.num*q.num) ((p.den:Int)*(q.den:Int))=p*q:=by rw[<- Vb,UF,UF]
theorem RB.of_divInt{t b:Int}{n:Nat}(h:b≠0)(ht:t.natAbs<2^n)(hb:b.natAbs<2^n):RB n (Rat.divInt t b):=⟨Ug (G5 h) ht,Ug (G4 h) hb⟩
theorem oV(p q:Rat):((p.den:Int)*(q.den:Int))≠0:=by have dp:=den_pos p;have dq:=den_pos q;exact Int.mul_ne_zero xL xL
theorem kW(p q:Rat):((p.den:Int)*(q.den:Int)).natAbs=p.den*q.den:=by rw[Vm,UA,UA]
theorem RB.mul{m n:Nat}{p q:Rat}(hp:RB m p)(hq:RB n q):RB (m+n) (p*q):=by rw[<- Hc];exact RB.of_divInt (oV p q) (by rw[Vm];exact bB hp.1 hq.1) (by rw[kW];exact bB hp.2 hq.2)
theorem yz(q:Rat):(q.den:Int)≠0:=by have:=den_pos q;omega
theorem RB.zero:RB 1 0:=⟨x_,x_⟩
theorem LR(p q:Rat):decide (p.num*(q.den:Int)<q.num*(p.den:Int))=decide (p<q):=by rw[Wa,Rat.lt_iff]
structure QW where
 nm:Str
 one:Nat
 other:Nat
 size:Rat
structure aO where
 rooms:List Rat
 asks:List QW
noncomputable def aO.n(R:aO):Nat:=R.rooms.length
noncomputable def m6(a:QW):D:=.tup [.str a.nm,.int a.one,.int a.other,Qq a.size]
noncomputable def aK(R:aO):D:=.tup [.lst (R.rooms.map Qq),.lst (R.asks.map m6)]
theorem CZ(q:Rat):(q.num:Rat)=q*(q.den:Rat):=by
 have h:=UF q;have hd:(q.den:Rat)≠0:=λw=>by have:=Rat.natCast_pos.mpr q.den_pos;rw[w]at this;exact absurd this x_
 rw[Rat.divInt_eq_div]at h;have e:(((q.den:Nat):Int):Rat)=(q.den:Rat):=rfl;rw[e]at h;have e2:q*(q.den:Rat)=(q.num:Rat) / (q.den:Rat)*(q.den:Rat):=by rw[h]
 rw[e2,Rat.div_mul_cancel hd]
theorem C0{q:Rat}{V:Nat}(h0:0<=q)(hv:q<(V:Rat)):q.num.natAbs<V*q.den:=by
 have hd:(0:Rat)<(q.den:Rat):=Rat.natCast_pos.mpr q.den_pos;have h1:q*(q.den:Rat)<(V:Rat)*(q.den:Rat):=Rat.mul_lt_mul_of_pos_right hv hd;rw[<- CZ]at h1
 have h2:((q.num:Int):Rat)<(((V*q.den:Nat):Int):Rat):=by
  have e:(((V*q.den:Nat):Int):Rat)=(V:Rat)*(q.den:Rat):=by push_cast;rfl
  rw[e];exact h1
 have h3:q.num<((V*q.den:Nat):Int):=Rat.intCast_lt_intCast.mp h2;have h4:0<=q.num:=Rat.num_nonneg.mpr h0;omega
theorem RB.of_val{q:Rat}{d v:Nat}(h0:0<=q)(hd:q.den<2^d)(hv:q<((2^v:Nat):Rat)):RB (v+d) q:=by refine⟨TU (C0 h0 hv) ?_,TU hd (Uh x_ xL)⟩;rw[Nat.pow_add];exact Nat.mul_le_mul_left _ (We hd)
structure jV (n:Nat) (a:QW):Prop where
 one:a.one<n
 other:a.other<n
 ne:a.one≠a.other
 size:0<=a.size
 lt:a.size<((2^300:Nat):Rat)
 nm:PyData.strOk a.nm=true
structure aO.Ok (R:aO):Prop where
 lo:2<=R.n
 hi:R.n<=12
 few:R.asks.length<=20
 room:∀q∈R.rooms,0<q/\RB 60 q
 ask:∀a∈R.asks,jV R.n a
 cd:∃D:Nat,0<D/\D<2^1240/\∀a∈R.asks,a.size.den∣D
theorem aO.Ok.rb{R:aO}(h:R.Ok){a:QW}(ha:a∈R.asks):RB 1540 a.size:=by obtain⟨D,d0,d1,hd⟩:=h.cd;exact RB.of_val (v:=300) (d:=1240) (h.ask a ha).size (Ug (V6 d0 (hd a ha)) d1) (h.ask a ha).lt
def m7(xs:List D):Prop:=∃(c sd:Int)(t:Bool),xs=[.int c,.int sd,.bl t]/\0<=sd/\sd<2147483647
theorem Aa{t b g:Int}(h:b≠0)(e:g=cW t b):D.tup [.int (t.fdiv g),.int (b.fdiv g)]=Qq (Rat.divInt t b):=by subst e;rw[Ct h,IJ h];rfl
noncomputable def OI(qs:List Rat):Nat:=(qs.map (·.den)).foldr (·*·) 1
noncomputable def iB(qs:List Rat):Rat:=qs.foldl (·+·) 0
theorem C1(qs:List Rat):∀acc:Rat,qs.foldl (·+·) acc=acc+iB qs:=by
 unfold iB
 induction qs with
 |nil=>intro acc;simp[Rat.add_zero]
 |cons q qs ih=>intro acc;rw[List.foldl_cons,List.foldl_cons,ih,ih (0+q),Rat.zero_add,Wh]
theorem aV(q:Rat)(qs:List Rat):iB (q::qs)=q+iB qs:=by show(q::qs).foldl (·+·) 0=_;rw[List.foldl_cons,C1,Rat.zero_add]
theorem qD(as bs:List Rat):iB (as++bs)=iB as+iB bs:=by
 induction as with
 |nil=>rw[Vy];show _=(0:Rat)+_;rw[Rat.zero_add]
 |cons a as ih=>rw[VM,aV,aV,ih,Wh]
theorem FP(qs:List Rat):iB (qs.map λq=>-q)=-iB qs:=by
 induction qs with
 |nil=>show(0:Rat)=-0;simp
 |cons q qs ih=>rw[Ur,aV,aV,ih,Rat.neg_add]
theorem FQ{α β:Type}(f:α->β)(xs:List α)(l u:Option Int):Cn (xs.map f) l u=(Cn xs l u).map f:=by unfold Cn;rw[TY,<- List.map_drop,<- List.map_take]
theorem FR{xs:List D}{i:Int}{k:L->Prop}:aM (.lst xs) (.int i) k=∃v,Pz xs i=some v/\k (.d v):=rfl
theorem FT{xs:List D}{i:Int}{k:L->Prop}:aM (.tup xs) (.int i) k=∃v,Pz xs i=some v/\k (.d v):=rfl
theorem FU{z:Str}{i:Int}{k:L->Prop}:aM (.str z) (.int i) k=(z.length<=sizeLine/\∃c,Pz z.cps.toList i=some c/\k (.d (.str ⟨#[c]⟩))):=rfl
theorem FV{R:aO}{k:L->Prop}:aM (aK R) (.int 0) k=k (.d (.lst (R.rooms.map Qq))):=by show(∃v,Pz _ _=some v/\_)=_;simp only[uR,UG,U8]
theorem FW{R:aO}{k:L->Prop}:aM (aK R) (.int 1) k=k (.d (.lst (R.asks.map m6))):=by show(∃v,Pz _ _=some v/\_)=_;simp only[tE,UG,U8]
theorem Jr{a:QW}{k:L->Prop}:aM (m6 a) (.int 0) k=k (.d (.str a.nm)):=by show(∃v,Pz _ _=some v/\_)=_;simp only[uR,UG,U8]
theorem Js{a:QW}{k:L->Prop}:aM (m6 a) (.int 1) k=k (.d (.int a.one)):=by show(∃v,Pz _ _=some v/\_)=_;simp only[tE,UG,U8]
theorem Jt{a:QW}{k:L->Prop}:aM (m6 a) (.int 2) k=k (.d (.int a.other)):=by show(∃v,Pz _ _=some v/\_)=_;simp only[FO,UG,U8]
theorem Ju{a:QW}{k:L->Prop}:aM (m6 a) (.int 3) k=k (.d (Qq a.size)):=by show(∃v,Pz _ _=some v/\_)=_;simp only[LQ,UG,U8]
theorem LS{q:Rat}{k:L->Prop}:aM (Qq q) (.int 0) k=k (.d (.int q.num)):=by show(∃v,Pz _ _=some v/\_)=_;simp only[uR,UG,U8]
theorem LU{q:Rat}{k:L->Prop}:aM (Qq q) (.int 1) k=k (.d (.int (q.den:Int))):=by show(∃v,Pz _ _=some v/\_)=_;simp only[tE,UG,U8]
theorem He(q:Rat):Qu (Qq q)=true:=by simp[Qq,Qu,uM]
theorem qE{α:Type}{f:α->D}:∀(xs:List α),(∀x∈xs,Qu (f x)=true)->uM (xs.map f)=true
 |[],_=>rfl
 |x::xs,h=>by simp[uM,h x TQ,qE xs λy hy=>h y (TL _ hy)]
theorem Ab(qs:List Rat):uM (qs.map Qq)=true:=qE _ λq _=>He q
theorem C2{α:Type}(f:α->Int)(xs:List α):uM (xs.map λx=>D.int (f x))=true:=qE _ λ_ _=>rfl
theorem C3(R:aO):R.rooms.length=R.n:=rfl
noncomputable def gj(w:Bool):Str:=if w then "on" else "back"
theorem Ac:gL (.str "on"):=qw (n:=0) y_ x_
theorem ui:gL (.str "back"):=qw (n:=0) y_ x_
theorem dJ(w:Bool):gL (.str (gj w)):=by
 cases w
 . exact ui
 . exact Ac
theorem LV(w:Bool):(gj w="on")=(w=true):=by cases w <;> simp[gj] <;> decide
theorem FY(w:Bool):(gj w="back")=(w=false):=by cases w <;> simp[gj] <;> decide
theorem nM{is:List Nat}{xs:List D}{Z:Ev}{k:Ev->Prop}:ff is (.tup xs) Z k=iO is xs Z k:=rfl
theorem C4{is:List Nat}{a:QW}{Z:Ev}{k:Ev->Prop}:ff is (m6 a) Z k=iO is [.str a.nm,.int a.one,.int a.other,Qq a.size] Z k:=rfl
theorem FZ{is:List Nat}{q:Rat}{Z:Ev}{k:Ev->Prop}:ff is (Qq q) Z k=iO is [.int q.num,.int (q.den:Int)] Z k:=rfl
theorem F0{α:Type}{xs:List α}{k:Nat}(h:k<=xs.length):Cn xs (some (k:Int)) none=xs.drop k:=by unfold Cn HT.sIx;simp only[if_neg (show ¬((k:Int)<0) by omega),UZ,Nat.min_eq_left h];rw[UM];rw[Vh];exact Ud _
theorem yA{xs:List D}{k:List D->Prop}:jP (.lst xs) k=k xs:=rfl
theorem yB{xs:List D}{k:List D->Prop}:jP (.tup xs) k=k xs:=rfl
theorem Bg{q:Rat}{k:List D->Prop}:jP (Qq q) k=k [.int q.num,.int (q.den:Int)]:=rfl
theorem C5{xs:List D}{k:L->Prop}:fj [.lst xs] k=k (.d (.int xs.length)):=rfl
theorem C6{xs:List D}{k:L->Prop}:fj [.tup xs] k=k (.d (.int xs.length)):=rfl
theorem C7{x:Str}{k:L->Prop}:fj [.str x] k=(x.length<=sizeLine/\k (.d (.int x.length))):=rfl
theorem F4{q:Rat}{k:L->Prop}:fj [Qq q] k=k (.d (.int 2)):=rfl
theorem Bh{R:aO}{k:L->Prop}:fj [aK R] k=k (.d (.int 2)):=rfl
theorem C8{a:QW}{k:L->Prop}:fj [m6 a] k=k (.d (.int 4)):=rfl
theorem yC(q:Rat):nE "tuple" (Qq q)=true:=rfl
theorem yD(q:Rat):nE "list" (Qq q)=false:=rfl
theorem yE(q:Rat):nE "int" (Qq q)=false:=rfl
theorem wU(q:Rat):nE "bool" (Qq q)=false:=rfl
theorem yF(q:Rat):nE "str" (Qq q)=false:=rfl
theorem uS(R:aO):nE "tuple" (aK R)=true:=rfl
noncomputable def QX(n:Nat)(f:Nat->Rat):List D:=(List.range n).map λ(t:Nat)=>Qq (f t)
theorem yG(n:Nat)(f:Nat->Rat):(QX n f).length=n:=by simp[QX]
theorem Hf{n:Nat}{f:Nat->Rat}{t:Nat}(h:t<n):Pz (QX n f) (t:Int)=some (Qq (f t)):=by refine jG ?_;unfold QX;rw[Ui,Vj h];rfl
theorem Jv{n:Nat}{f:Nat->Rat}{t:Nat}(v:Rat):(QX n f).set t (Qq v)=QX n λs=>if s=t then v else f s:=by
 refine V7 (by simp[QX]) λj h1 h2=>?_;have e1:∀(g:Nat->Rat)(h:j<(QX n g).length),(QX n g)[j]=Qq (g j):=λg h=>by simp[QX]
 rw[List.getElem_set,e1 _ h2];by_cases hj:t=j
 . subst hj;simp
 . rw[if_neg hj,if_neg (U3 hj)];exact e1 _ _
theorem LW{n:Nat}{f:Nat->Rat}{t:Nat}(h:t<n):Py (QX n f).length (t:Int)=some t:=by rw[yG];unfold Py;rw[if_pos (by omega),if_pos (by omega),UZ]
theorem Jw(n:Nat)(f:Nat->Rat):QX n f=((List.range n).map f).map Qq:=by unfold QX;rw[UP];rfl
theorem wV{n:Nat}{f g:Nat->Rat}(h:∀t,t<n->f t=g t):QX n f=QX n g:=by unfold QX;refine Vx λt ht=>?_;rw[h t (Uy.mp ht)]
theorem F5(n:Nat)(f:Nat->Rat):uM (QX n f)=true:=by rw[Jw];exact Ab _
noncomputable def yH(c:Nat×Nat):D:=.tup [.int (c.1:Int),.int (c.2:Int)]
theorem Jx{c:Nat×Nat}{k:L->Prop}:aM (yH c) (.int 0) k=k (.d (.int c.1)):=by show(∃v,Pz _ _=some v/\_)=_;simp only[uR,UG,U8]
theorem Jy{c:Nat×Nat}{k:L->Prop}:aM (yH c) (.int 1) k=k (.d (.int c.2)):=by show(∃v,Pz _ _=some v/\_)=_;simp only[tE,UG,U8]
theorem Jz(n:Nat)(c:Nat×Nat):Qr (n+1) (yH c)=true:=by cases n<;>simp[yH,Qr,G7]
theorem C9(c:Nat×Nat):Qu (yH c)=true:=by simp[yH,Qu,uM]
theorem Da(c:Nat×Nat):gL (yH c):=qw (Jz 0 c) x_
theorem JA(c d:Nat×Nat):Qg (yH c) (yH d)=decide (c=d):=by
 unfold yH;rw[Cv,nH,nH,zQ,q5,q5,Bool.and_true,<- Bool.decide_and,Wa];constructor
 . rintro⟨h1,h2⟩;exact Prod.ext xL xL
 . rintro rfl;exact⟨rfl,rfl⟩
noncomputable def gP(g:Rat×(Nat×Nat)):D:=.tup [Qq g.1,yH g.2]
theorem Nv{g:Rat×(Nat×Nat)}{k:L->Prop}:aM (gP g) (.int 0) k=k (.d (Qq g.1)):=by show(∃v,Pz _ _=some v/\_)=_;simp only[uR,UG,U8]
theorem Nw{g:Rat×(Nat×Nat)}{k:L->Prop}:aM (gP g) (.int 1) k=k (.d (yH g.2)):=by show(∃v,Pz _ _=some v/\_)=_;simp only[tE,UG,U8]
theorem F6(T:String):nE T .non=(T == "NoneType"):=rfl
theorem JB(T:String)(b:Bool):nE T (.bl b)=(T == "bool" ||T == "int"):=rfl
theorem F7(T:String)(i:Int):nE T (.int i)=(T == "int"):=rfl
theorem F8(T:String)(x:Str):nE T (.str x)=(T == "str"):=rfl
theorem Ga(T:String)(xs:List D):nE T (.tup xs)=(T == "tuple"):=rfl
theorem Gb(T:String)(xs:List D):nE T (.lst xs)=(T == "list"):=rfl
theorem Bi(g:Rat×(Nat×Nat)):nE "tuple" (gP g)=true:=rfl
theorem wW(c:Nat×Nat):nE "tuple" (yH c)=true:=rfl
theorem wX(a:QW):nE "tuple" (m6 a)=true:=rfl
theorem Dc{c:Nat×Nat}{k:L->Prop}:fj [yH c] k=k (.d (.int 2)):=rfl
theorem JC{c:Rat×(Nat×Nat)}{k:L->Prop}:fj [gP c] k=k (.d (.int 2)):=rfl
theorem Dd(cs:List (Nat×Nat)):uM (cs.map yH)=true:=qE _ λc _=>C9 c
end L2
namespace L2
open PySem PySem.Builtin.Str
theorem JD{x y:Str}(h:x.cps.toList=y.cps.toList):x=y:=by cases x;cases y;exact congrArg Str.mk (Array.toList_inj.mp h)
theorem Gc{x:Str}{j:Int}(h0:0<=j)(h2:j<=x.length):(Txt.slice x none (some j)).cps.toList=x.cps.toList.take j.toNat:=by have:=eq_of_beq (PyProof.Rows.slice_closes_toL h0 h2);rw[this];simp
theorem Bj{x:Str}{i:Int}(h0:0<=i)(h2:i<=x.length):(Txt.slice x (some i) none).cps.toList=x.cps.toList.drop i.toNat:=by
 rw[PyProof.Rows.slice_from_eq h0 h2 rfl];have e:x.cps.toList.length=x.length:=by simp[Str.length]
 rw[UM];rw[Vh,e];omega
theorem nN(x y:Str):(x++y).cps.toList=x.cps.toList++y.cps.toList:=by show(x.cps++y.cps).toList=_;simp
theorem kX(x:Str):x.length=x.cps.toList.length:=by simp[Str.length]
def rq(c:Nat):Prop:=97<=c/\c<=122
structure Hg (z:Str):Prop where
 lo:1<=z.cps.toList.length
 hi:z.cps.toList.length<=8
 let_:∀c∈z.cps.toList,rq c
theorem Hg.ok{z:Str}(h:Hg z):PyData.strOk z=true:=by unfold PyData.strOk;rw[<- Array.all_toList,UW];intro c hc;have:=h.let_ c hc;unfold rq at this;simp;omega
noncomputable def uT:Str:="abcdefghijklmnopqrstuvwxyz"
theorem wY:uT.cps.toList=(List.range 26).map (·+97):=by decide
theorem uj{i:Int}(h0:0<=i)(h1:i<26):Pz uT.cps.toList i=some (i.toNat+97):=by refine Hb h0 ?_;rw[wY,Ui,Vj xL];rfl
theorem uk:∀(zs:List Str),(Str.join "" zs).cps.toList=(zs.map λz=>z.cps.toList).flatten
 |[]=>rfl
 |[x]=>by simp[Str.join]
 | x::y::r=>by have ih:=uk (y::r);show(x++("" : Str)++Str.join "" (y::r)).cps.toList=_;rw[nN,nN,ih];show x.cps.toList++[]++_=_;simp
theorem Gd(zs:List Str):(Txt.join "" zs).cps.toList=(zs.map λz=>z.cps.toList).flatten:=by rw[eq_of_beq (PyProof.Rows.join_closes (sep:="") (sep':="") (ys:=zs) rfl),uk]
theorem wZ:∀cs:List Nat,(cs.map λc=>[c]).flatten=cs
 |[]=>rfl
 |c::cs=>by rw[Ur,Vv,wZ cs];rfl
theorem oW(cs:List Nat):(Txt.join "" (cs.map λc=>(⟨#[c]⟩:Str))).cps.toList=cs:=by rw[Gd,UP];exact wZ cs
theorem Ad:∀cs:List Nat,((cs.map λc=>(⟨#[c]⟩:Str)).map (·.length)).sum=cs.length
 |[]=>rfl
 | c::cs=>by rw[Ur,Ur,List.sum_cons,Ad cs,U9];show 1+_=_;omega
noncomputable def nameAt(b:Str)(p t k:Nat):Str:=⟨(b.cps.toList.take p++[(t+k) % 26+97]++b.cps.toList.drop (p+1)).toArray⟩
theorem De{b:Str}{p t k:Nat}(h:Hg b)(hp:p<b.cps.toList.length):Hg (nameAt b p t k):=by
 have e:(nameAt b p t k).cps.toList=b.cps.toList.take p++[(t+k) % 26+97]++b.cps.toList.drop (p+1):=by simp[nameAt]
 have l:(b.cps.toList.take p++[(t+k) % 26+97]++b.cps.toList.drop (p+1)).length=b.cps.toList.length:=by rw[Us,Us,Va,Vh,List.length_singleton];omega
 refine⟨by rw[e,l];exact h.lo,by rw[e,l];exact h.hi,λc hc=>?_⟩;rw[e]at hc;rcases Uw.mp hc with hc|hc
 .
  rcases Uw.mp hc with hc|hc
  . exact h.let_ c (List.mem_of_mem_take hc)
  . rw[U0.mp hc];unfold rq;have:=V4 (t+k) (y:=26) x_;omega
 . exact h.let_ c (List.mem_of_mem_drop hc)
theorem Bk{b:Str}{p t j k:Nat}(hp:p<b.cps.toList.length)(hj:j<26)(hk:k<26)(h:nameAt b p t j=nameAt b p t k):j=k:=by
 have e:b.cps.toList.take p++[(t+j) % 26+97]++b.cps.toList.drop (p+1)=b.cps.toList.take p++[(t+k) % 26+97]++b.cps.toList.drop (p+1):=by have:=congrArg (λz:Str=>z.cps.toList) h;simpa[nameAt]using this
 rw[UQ,UQ]at e;have e2:=List.append_cancel_left e;have e3:=(List.cons.inj e2).1;omega
theorem w4{α β:Type}{f:α->β}:∀{xs:List α},xs.Nodup->(∀x∈xs,∀y∈xs,f x=f y->x=y)->(xs.map f).Nodup
 |[],_,_=>Wb
 | x::xs,hn,h=>by rw[Ur,Uz];obtain⟨h1,h2⟩:=Uz.mp hn;refine⟨λhm=>?_,w4 h2 λa ha b hb=>h a (TL _ ha) b (TL _ hb)⟩;obtain⟨y,hy,e⟩:=UY.mp hm;have:=h y (TL _ hy) x TQ e;rw[this]at hy;exact h1 hy
theorem Ge{q:Rat}(h:RB 60 q):q<((2^300:Nat):Rat):=by
 have h1:=CZ q;have hd:(1:Rat)<=(q.den:Rat):=by have:=q.den_pos;exact_mod_cast this
 have h2:(q.num:Rat)<((2^300:Nat):Rat):=by
  have h3:q.num<((2^300:Nat):Int):=by have:=TU h.1 (Uh (show 0<2 by decide) (show 60<=300 by decide));omega
  exact Rat.intCast_lt_intCast.mpr h3
 have hV:(0:Rat)<((2^300:Nat):Rat):=Rat.natCast_pos.mpr (Nat.pow_pos x_);generalize ((2^300:Nat):Rat)=V at *;refine Rat.not_le.mp λhq=>?_;have h4:V*1<=q*(q.den:Rat):=VI (Rat.mul_le_mul_of_nonneg_left hd (Rat.le_of_lt hV)) (Rat.mul_le_mul_of_nonneg_right hq (by grind));rw[<- h1]at h4;grind
noncomputable def Bl:List QW->Nat
 |[]=>1
 |a::as=>a.size.den*Bl as
theorem uU:∀as,0<Bl as
 |[]=>Nat.one_pos
 |a::as=>Nat.mul_pos a.size.den_pos (uU as)
theorem yI:∀{as:List QW},(∀a∈as,RB 60 a.size)->Bl as<=2^(60*as.length)
 |[],_=>Ud 1
 | a::as,h=>by have h1:=(h a TQ).2;have h2:=yI (as:=as) λp hp=>h p (TL _ hp);show a.size.den*Bl as<=2^(60*(as.length+1));rw[Nat.mul_add,Nat.mul_one,Nat.pow_add,Nat.mul_comm (2^_)];exact Nat.mul_le_mul (We h1) h2
theorem qF:∀{as:List QW}{a:QW},a∈as->a.size.den∣Bl as
 | b::as,a,h=>by
  rcases Ue.mp h with rfl|h
  . exact Nat.dvd_mul_right _ _
  . exact VD (qF h) (Nat.dvd_mul_left _ _)
theorem Nx{as:List QW}(h:∀a∈as,RB 60 a.size)(hl:as.length<=20):∃D:Nat,0<D/\D<2^1240/\∀a∈as,a.size.den∣D:=by refine⟨Bl as,uU as,Ug (yI h) (Nat.pow_lt_pow_right x_ xL),λa ha=>qF ha⟩
end L2
namespace L2
open PySem
noncomputable def QY(n i j:Nat):List Nat:=(List.range ((j+n-i) % n)).map λs=>(i+s) % n
noncomputable def tF(n i j:Nat):List Nat:=(List.range ((i+n-j) % n)).map λs=>(i+n-1-s) % n
noncomputable def Ae(n:Nat)(a:QW)(w:Bool):List Nat:=if w then QY n a.one a.other else tF n a.one a.other
theorem Df{n i j:Nat}(hi:i<n)(hj:j<n):(((j:Int)-i).fmod n)=(((j+n-i) % n:Nat):Int):=by
 rw[Uu _ xL];have e:((j:Int)-i) % n=((j:Int)-i+n) % n:=(Int.add_emod_right _ _).symm;rw[e];have:(j:Int)-i+n=((j+n-i:Nat):Int):=by omega
 rw[this];exact(Int.natCast_emod _ _).symm
theorem Af{n i s:Nat}:(((i:Int)+s).fmod n)=(((i+s) % n:Nat):Int):=by rw[Uu _ xL,Int.natCast_emod,Int.natCast_add]
theorem Gf{n i s:Nat}(hn:0<n)(hs:s<n):(((i:Int)-1-s).fmod n)=(((i+n-1-s) % n:Nat):Int):=by
 rw[Uu _ xL];have e:((i:Int)-1-s) % n=((i:Int)-1-s+n) % n:=(Int.add_emod_right _ _).symm;rw[e];have:(i:Int)-1-s+n=((i+n-1-s:Nat):Int):=by omega
 rw[this];exact(Int.natCast_emod _ _).symm
noncomputable def QZ(n i j:Nat):Nat:=(j+n-i) % n
theorem nO{x n:Nat}(h:x<2*n):x % n=if x<n then x else x-n:=by
 by_cases hx:x<n
 . rw[if_pos hx,Nat.mod_eq_of_lt hx]
 . rw[if_neg hx,Nat.mod_eq_sub_mod xL,Nat.mod_eq_of_lt xL]
theorem pT{n i j:Nat}(hi:i<n)(hj:j<n):QZ n i j=if i<=j then j-i else j+n-i:=by unfold QZ;rw[nO xL];split<;>split<;>omega
theorem Ag(n i j:Nat):(QY n i j).length=QZ n i j:=by simp[QY,QZ]
theorem Ah(n i j:Nat):(tF n i j).length=QZ n j i:=by simp[tF,QZ]
theorem LX{n i j t:Nat}(hn:0<n)(h:t∈QY n i j):t<n:=by obtain⟨s,_,rfl⟩:=UY.mp h;exact V4 _ hn
theorem JE{n:Nat}{a:QW}(h:jV n a)(w:Bool):(Ae n a w).length<n:=by
 have h1:=h.one;have h2:=h.other;cases w
 . show(tF n a.one a.other).length<n;rw[Ah];exact V4 _ xL
 . show(QY n a.one a.other).length<n;rw[Ag];exact V4 _ xL
theorem Ai{n i j:Nat}(hn:0<n):QZ n i j<n:=V4 _ hn
theorem qG{n i s:Nat}(hi:i<n)(hs:s<n):QZ n i ((i+s) % n)=s:=by have h1:=V4 (i+s) (y:=n) xL;rw[pT hi h1,nO xL];split<;>split<;>omega
theorem uV{n i t:Nat}(hi:i<n)(ht:t<n):(i+QZ n i t) % n=t:=by have h1:=Ai (n:=n) (i:=i) (j:=t) xL;rw[nO xL,pT hi ht];split<;>split<;>omega
theorem Dg{n i j:Nat}(hi:i<n)(hj:j<n)(h:i≠j):QZ n i j+QZ n j i=n:=by rw[pT hi hj,pT hj hi];split<;>split<;>omega
theorem JF{n i j:Nat}(hi:i<n)(hj:j<n)(h:i≠j):0<QZ n i j:=by rw[pT hi hj];split<;>omega
theorem Hh{n i j t:Nat}(hi:i<n):t∈QY n i j↔t<n/\QZ n i t<QZ n i j:=by
 constructor
 . intro h;obtain⟨s,hs,rfl⟩:=UY.mp h;have hs:s<QZ n i j:=Uy.mp hs;have:=Ai (n:=n) (i:=i) (j:=j) xL;exact⟨V4 _ xL,by rw[qG hi xL];exact hs⟩
 . rintro⟨ht,h⟩;exact UY.mpr ⟨QZ n i t,Uy.mpr h,uV hi ht⟩
theorem Dh{n i s:Nat}(hi:i<n)(hs:s<n):(i+n-1-s) % n=(i+(n-1-s)) % n:=by
 congr 1
 omega
theorem Aj{n i j t:Nat}(hi:i<n)(hj:j<n)(hij:i≠j):t∈tF n i j↔t<n/\¬QZ n i t<QZ n i j:=by
 have hsum:=Dg hi hj hij;constructor
 . intro h;obtain⟨s,hs,rfl⟩:=UY.mp h;have hs:s<QZ n j i:=Uy.mp hs;refine⟨V4 _ xL,?_⟩;rw[Dh hi xL,qG hi xL];omega
 .
  rintro⟨ht,h⟩;have:=Ai (n:=n) (i:=i) (j:=t) xL;refine UY.mpr ⟨n-1-QZ n i t,Uy.mpr (show _<QZ n j i by omega),?_⟩;rw[Dh hi xL];have e:n-1-(n-1-QZ n i t)=QZ n i t:=by omega
  rw[e,uV hi ht]
noncomputable def qe(n:Nat)(a:QW)(t:Nat):Bool:=decide (QZ n a.one t<QZ n a.one a.other)
theorem oX{n:Nat}{a:QW}(h:jV n a)(w:Bool){t:Nat}(ht:t<n):t∈Ae n a w↔(qe n a t == w)=true:=by
 have h1:=h.one;have h2:=h.other;cases w
 . show t∈tF n a.one a.other↔_;rw[Aj h1 h2 h.ne];simp[qe,ht]
 . show t∈QY n a.one a.other↔_;rw[Hh h1];simp[qe,ht]
theorem LY{n i j:Nat}(hi:i<n)(hj:j<n)(hij:i≠j):QY n j i=(tF n i j).reverse:=by
 have hsum:=Dg hi hj hij;refine V7 (by rw[List.length_reverse,Ag,Ah]) λs h1 h2=>?_;rw[Ag]at h1;have hp:=JF hi hj hij;rw[List.getElem_reverse];simp only[QY,tF,List.getElem_map,List.getElem_range,TY,UB];have e:(i+n-j) % n=QZ n j i:=rfl;rw[e];have e2:j=(i+QZ n i j) % n:=(uV hi hj).symm;have e3:i+n-1-(QZ n j i-1-s)=i+QZ n i j+s:=by omega
 rw[e3]
 conv=>lhs;rw[e2]
 rw[Nat.mod_add_mod]
theorem uW(t:Nat):∀(T:List Nat),PV (.int (t:Int)) (T.map λ(s:Nat)=>D.int (s:Int))=decide (t∈T)
 |[]=>rfl
 | s::T=>by
  have ih:=uW t T;unfold PV at ih ⊢;rw[Ur,VJ,ih];show(Qn (.int (s:Int)) (.int (t:Int)) ||_)=_;have e:Qn (.int (s:Int)) (.int (t:Int))=decide (t=s):=by show decide ((s:Int)=(t:Int))=_;rw[Wa];omega
  rw[e];simp[Bool.decide_or]
theorem w5(T:List Nat):(T.map λ(s:Nat)=>D.int (s:Int)).all qd=true:=by rw[UW];intro x hx;obtain⟨s,_,rfl⟩:=UY.mp hx;rfl
theorem RB.sum{b:Nat}:∀(qs:List Rat),(∀q∈qs,RB b q)->RB (1+(b+1)*qs.length) (iB qs)
 |[],_=>RB.mono (m:=1) ⟨x_,x_⟩ xL
 | q::qs,h=>by have ih:=RB.sum qs λz hz=>h z (TL _ hz);rw[aV];refine((h q TQ).add ih).mono ?_;rw[U9,Nat.mul_succ];omega
theorem uX:iB []=0:=rfl
theorem w7(qs:List Rat)(q:Rat):iB (qs++[q])=iB qs+q:=by rw[qD,aV,uX,Rat.add_zero]
noncomputable def tG(n:Nat)(a:QW)(p:Rat)(t:Nat):Rat:=if qe n a t then p else a.size-p
noncomputable def bH(n:Nat)(as:List QW)(ps:List Rat)(t:Nat):Rat:=iB ((as.zip ps).map λx=>tG n x.1 x.2 t)
structure JG (R:aO) (ps:List Rat) (c:Nat):Prop where
 len:ps.length=R.asks.length
 lo:∀x∈R.asks.zip ps,0<=x.2/\x.2<=x.1.size
 rb:∀p∈ps,RB c p
theorem Ak{α β:Type}(as:List α)(bs:List β)(k:Nat):(as.zip bs).take k=(as.take k).zip (bs.take k):=by unfold List.zip;exact List.take_zipWith
theorem Gg{α β:Type}{as:List α}{bs:List β}{k:Nat}(h1:k<as.length)(h2:k<bs.length):(as.take (k+1)).zip (bs.take (k+1))=(as.take k).zip (bs.take k)++[(as[k],bs[k])]:=by rw[<- Ak,<- Ak,List.take_succ,TM (by rw[U7];omega),VB];rfl
theorem Bm{n:Nat}{as:List QW}{ps:List Rat}{k:Nat}(h1:k<as.length)(h2:k<ps.length)(t:Nat):bH n (as.take (k+1)) (ps.take (k+1)) t=bH n (as.take k) (ps.take k) t+tG n as[k] ps[k] t:=by unfold bH;rw[Gg h1 h2,UE];exact w7 _ _
theorem Al{n i j:Nat}(hi:i<n):(QY n i j).Nodup:=by unfold QY;rw[List.nodup_iff_pairwise_ne,List.pairwise_map];refine List.Pairwise.imp_of_mem (R:=λa b=>a≠b) ?_ (List.nodup_iff_pairwise_ne.mp List.nodup_range);intro a b ha hb hab z;have la:a<QZ n i j:=Uy.mp ha;have lb:b<QZ n i j:=Uy.mp hb;have lf:=Ai (n:=n) (i:=i) (j:=j) xL;have e1:=qG hi (show a<n by omega);have e2:=qG hi (show b<n by omega);rw[z,e2]at e1;exact hab e1.symm
theorem Am{α:Type}(f g:α->Rat):∀xs:List α,iB (xs.map f)-iB (xs.map g)=iB (xs.map λx=>f x-g x)
 |[]=>by simp only[List.map_nil,uX];grind
 | x::xs=>by have ih:=Am f g xs;rw[Ur,Ur,Ur,aV,aV,aV,<- ih];grind
theorem rC{α:Type}(f:α->Rat):∀xs:List α,(∀x∈xs,0<=f x)->0<=iB (xs.map f)
 |[],_=>by simp[uX]
 | x::xs,h=>by have ih:=rC f xs λy hy=>h y (TL _ hy);have h1:=h x TQ;rw[Ur,aV];grind
theorem iC{α:Type}{f g:α->Rat}{xs:List α}(h:∀x∈xs,f x=g x):iB (xs.map f)=iB (xs.map g):=by rw[Vx h]
theorem yJ{n:Nat}{a:QW}{p:Rat}(h0:0<=p)(h1:p<=a.size)(t:Nat):0<=tG n a p t/\tG n a p t<=a.size:=by
 unfold tG;split
 . exact⟨h0,h1⟩
 . constructor<;>grind
noncomputable def BI(c:Nat×Nat)(p:Nat):Bool:=decide (c.1<p/\p<=c.2)
noncomputable def apart(c:Nat×Nat)(i j:Nat):Bool:=BI c i != BI c j
noncomputable def JH(as:List QW)(c:Nat×Nat):Rat:=iB ((as.filter λa=>apart c a.one a.other).map (·.size))
noncomputable def aO.room(R:aO)(t:Nat):Rat:=R.rooms.getD t 0
noncomputable def LZ(R:aO)(c:Nat×Nat):Rat:=R.room c.1+R.room c.2
noncomputable def Oa(R:aO)(c:Nat×Nat):Rat:=JH R.asks c / LZ R c
def OJ(n:Nat)(c:Nat×Nat):Prop:=c.1<=c.2/\c.2<n
theorem Bn{q:Rat}{D:Nat}{z:Int}(h0:0<D)(e:q*(D:Rat)=(z:Rat)):q.den∣D:=by
 have hQ:(D:Rat)≠0:=λw=>by have:=Rat.natCast_pos.mpr h0;rw[w]at this;exact absurd this x_
 have e2:q=Rat.divInt z (D:Int):=by rw[Rat.divInt_eq_div];have:((D:Int):Rat)=(D:Rat):=rfl;rw[this,<- e,Rat.mul_div_cancel hQ]
 rw[e2];have:=Rat.den_divInt z (D:Int);rw[this,if_neg (by omega),UA];exact Nat.div_dvd_of_dvd (Nat.gcd_dvd_left _ _)
theorem um{q:Rat}{D:Nat}(h:q.den∣D):∃z:Int,q*(D:Rat)=(z:Rat):=by obtain⟨m,rfl⟩:=h;refine⟨q.num*(m:Int),?_⟩;rw[Rat.intCast_mul,CZ];have e1:((m:Int):Rat)=(m:Rat):=rfl;have e2:((q.den*m:Nat):Rat)=(q.den:Rat)*(m:Rat):=Rat.natCast_mul _ _;rw[e1,e2,Rat.mul_assoc]
theorem JI{p q:Rat}{D:Nat}(h0:0<D)(hp:p.den∣D)(hq:q.den∣D):(p+q).den∣D:=by obtain⟨a,ha⟩:=um hp;obtain⟨b,hb⟩:=um hq;exact Bn (z:=a+b) h0 (by rw[Rat.add_mul,ha,hb,Rat.intCast_add])
theorem Di{D:Nat}(h0:0<D):∀qs:List Rat,(∀q∈qs,q.den∣D)->(iB qs).den∣D
 |[],_=>by show(0:Rat).den∣D;exact Nat.one_dvd _
 | q::qs,h=>by rw[aV];exact JI h0 (h q TQ) (Di h0 qs λp hp=>h p (TL _ hp))
theorem Dj{V:Rat}(hV:0<=V):∀qs:List Rat,(∀q∈qs,q<V)->iB qs<=(qs.length:Rat)*V
 |[],_=>by show(0:Rat)<=_;rw[List.length_nil];show(0:Rat)<=0*V;grind
 | q::qs,h=>by rw[aV,U9];have h1:=h q TQ;have h2:=Dj hV qs λp hp=>h p (TL _ hp);have e:((qs.length+1:Nat):Rat)=(qs.length:Rat)+1:=Rat.natCast_add _ _;rw[e];grind
def Ny(qs:List Rat):Prop:=OI qs<2^9000∨∃D:Nat,0<D/\D<2^4400/\∀q∈qs,q.den∣D
theorem JJ(n:Nat)(f:Nat->Rat):eh (QX n f)=(List.range n).map λ(t:Nat)=>D.tup [.int (t:Int),Qq (f t)]:=by unfold eh QX;refine V7 v6 λj h1 h2=>?_;simp
theorem qH(qs:List Rat):eh (qs.map Qq)=(List.range qs.length).map λ(t:Nat)=>D.tup [.int (t:Int),Qq (qs.getD t 0)]:=by
 unfold eh;refine V7 v6 λj h1 h2=>?_;have hj:j<qs.length:=by simpa using h1
 simp[hj]
noncomputable def aO.sz(R:aO)(k:Nat):Rat:=(R.asks.map (·.size)).getD k 0
theorem yK{R:aO}{k:Nat}(h:k<R.asks.length):R.sz k=R.asks[k].size:=by unfold aO.sz;rw[TX,Ui,TM h];rfl
theorem mn{qs:List Rat}{k:Nat}(h:k<qs.length):qs.getD k 0=qs[k]:=by rw[TX,TM h];rfl
end L2
namespace My
open PySem L2
noncomputable def aR(R:aO)(j:Nat):QW:=(R.asks[j]?).getD ⟨"",0,0,0⟩
noncomputable def Q0(R:aO)(j t:Nat):Bool:=qe R.n (aR R j) t
noncomputable def dI(R:aO)(w:Nat->Int)(k g h:Nat):Int:=((List.range (R.asks.length-k)).map λi=>if Q0 R (k+i) g != Q0 R (k+i) h then w (k+i)else 0).sum
theorem Gh{R:aO}{j:Nat}(h:j<R.asks.length):aR R j=R.asks[j]:=by unfold aR;rw[TM h];rfl
def OK(R:aO)(w f:Nat->Int)(k:Nat):Prop:=∀g h,g<R.n->h<R.n->dI R w k g h<=f g+f h/\(f g+f h-dI R w k g h) % 2=0
noncomputable def Nz(R:aO)(w f:Nat->Int)(k:Nat)(p:Int)(t:Nat):Int:=f t-if Q0 R k t then p else w k-p
noncomputable def Q1(i j:Int):Int:=if j<i then j else i
noncomputable def Q2(R:aO)(k:Nat):List Nat:=(PySem.W.sortI ((Ae R.n (aR R k) true).map λ(t:Nat)=>(t:Int))).map Int.toNat
noncomputable def OL(R:aO)(w f:Nat->Int)(k g h:Nat):Int:=f g+f h-dI R w (k+1) g h
noncomputable def Ma(R:aO)(w f:Nat->Int)(k:Nat)(acc:Int)(g:Nat)(hs:List Nat):Int:=hs.foldl (λt h=>if decide (g<=h)then Q1 t (OL R w f k g h)else t) acc
noncomputable def Mb(R:aO)(w f:Nat->Int)(k:Nat)(gs:List Nat):Int:=gs.foldl (λt g=>Ma R w f k t g (Q2 R k)) (2*w k)
noncomputable def Mc(R:aO)(w f:Nat->Int)(k:Nat):Int:=(Mb R w f k (Q2 R k)).fdiv 2
noncomputable def Q3(R:aO)(w f:Nat->Int):Nat->Nat->Int
 |0=>f
 |k+1=>Nz R w (Q3 R w f k) k (Mc R w (Q3 R w f k) k)
noncomputable def Q4(R:aO)(w f:Nat->Int)(k:Nat):Int:=Mc R w (Q3 R w f k) k
theorem uY{t b:Int}(h:b≠0):(Rat.divInt t b).den∣b.natAbs:=by rw[Rat.den_divInt,if_neg h];exact Nat.div_dvd_of_dvd (by rw[Int.gcd];exact Nat.gcd_dvd_left _ _)
theorem rD(p q:Rat):(p*q).den∣p.den*q.den:=by
 have e:p*q=Rat.divInt (p.num*q.num) ((p.den:Int)*q.den):=by rw[<- Vb,UF,UF]
 rw[e];have:=uY (t:=p.num*q.num) (b:=(p.den:Int)*q.den) (Int.mul_ne_zero (yz _) (yz _));rwa [Vm,UA,UA]at this
theorem Gi(q:Rat):(q.num:Rat)=q*(q.den:Rat):=by
 have h:((q.den:Int):Rat)≠0:=λe=>yz q (by
  have:((q.den:Int):Rat)=((0:Int):Rat):=e
  exact Rat.intCast_inj.mp this)
 have e:q=(q.num:Rat) / ((q.den:Int):Rat):=by
  conv=>lhs;rw[<- UF q,Rat.divInt_eq_div]
 have:=Rat.div_mul_cancel (a:=(q.num:Rat)) h;rw[<- e]at this;exact this.symm
noncomputable def Q5(qs:List Rat):Nat:=qs.foldl (λb q=>Nat.lcm b q.den) 1
noncomputable def w8(u:Nat)(q:Rat):Int:=q.num*((u / q.den:Nat):Int)
theorem w9{u:Nat}{q:Rat}(h:q.den∣u):((w8 u q:Int):Rat)=q*(u:Rat):=by obtain⟨c,rfl⟩:=h;unfold w8;rw[Nat.mul_div_cancel_left _ (den_pos q),Rat.intCast_mul,Gi,Rat.intCast_natCast,Rat.natCast_mul,Rat.mul_assoc]
noncomputable def Md(R:aO):List Rat:=R.asks.map (·.size)
noncomputable def NA(R:aO)(q:Rat):List Rat:=R.rooms.map λr=>q*r
noncomputable def Q6(R:aO)(q:Rat):Nat:=Q5 (Md R++NA R q)
noncomputable def Hi(R:aO)(q:Rat):Nat:=2*Q6 R q
noncomputable def wI(R:aO)(q:Rat)(j:Nat):Int:=w8 (Hi R q) (aR R j).size
noncomputable def Q7(R:aO)(q:Rat)(t:Nat):Int:=w8 (Hi R q) (q*R.room t)
theorem rE{α:Type}(p:α->Bool)(f:α->Rat):∀xs:List α,iB ((xs.filter p).map f)=iB (xs.map λa=>if p a then f a else 0)
 |[]=>rfl
 | x::xs=>by
  rw[Vg,Ur,aV,<- rE p f xs];cases p x
  . simp[Rat.zero_add]
  . simp[aV]
noncomputable def pI(R:aO)(q:Rat)(k:Nat):Int:=Q4 R (wI R q) (Q7 R q) k
end My
set_option exponentiation.threshold 2000
namespace L2
open PySem
noncomputable def gQ(w:Bool):D:=.str (gj w)
theorem yL(q:Rat):0<q.num↔0<q:=by
 have h:=Rat.num_nonneg (q:=-q);rw[Rat.neg_num]at h;constructor
 .
  intro h1;refine Rat.not_le.mp λh2=>?_;have h3:0<=-q:=by grind
  have:=h.mpr h3;omega
 . intro h1;refine Int.not_le.mp λh2=>?_;have h3:=h.mp xL;grind
theorem uo{g:Tg}{b:W Fl}{so:Fl->Ev->Prop}{enc:Nat->D}(n:Nat)(I:Nat->Ev->Prop)(Z:Ev)(h0:I 0 Z)
  (step:∀j Z,j<n->I j Z->∀Q:Fl->Ev->Prop,(∀Z',I (j+1) Z'->Q .nx Z')->(∀Z',I (j+1) Z'->Q .ct Z')->(∀Z',so .nx Z'->Q .bk Z')->(∀r Z',so (.rt r) Z'->Q (.rt r) Z')->g (enc j) Z λZ1=>b Z1 Q)
  (done:∀Z,I n Z->so .nx Z):fg g b ((List.range n).map enc) Z so:=by
 refine dh _ (λj Z=>I j Z) Z h0 ?_ ?_
 .
  intro j x Z hj hI Q h1 h2 h3 h4;have hj':j<n:=by have:=(TR.mp hj).1;simpa using this
  have ex:x=enc j:=by rw[Ui,Vj hj']at hj;exact(Uq hj).symm
  subst ex;exact step j Z hj' hI Q h1 h2 h3 h4
 .
  intro Z hI;have e:((List.range n).map enc).length=n:=by simp
  rw[e]at hI;exact done Z hI
end L2
set_option exponentiation.threshold 5000
namespace My
open PySem L2
structure LB (R:aO) (ps:List Rat):Prop where
 p:∀p∈ps,RB 4100 p
 ld:∀k t,RB 4100 (bH R.n (R.asks.take k) (ps.take k) t)
 st:∀(k:Nat)(h1:k<R.asks.length)(h2:k<ps.length)(t:Nat),RB 4100 (tG R.n R.asks[k] ps[k] t)
 sm:∀t,Ny ((R.asks.zip ps).map λx=>tG R.n x.1 x.2 t)
theorem LB.all{R:aO}{ps:List Rat}(h:LB R ps)(hl:ps.length=R.asks.length)(t:Nat):RB 4100 (bH R.n R.asks ps t):=by have:=h.ld R.asks.length t;rwa [UM (Ud _),UM xL]at this
noncomputable def zI(R:aO)(q:Rat)(t j:Nat):Int:=if qe R.n (aR R j) t then pI R q j else wI R q j-pI R q j
noncomputable def yM:D->Bool
 |.tup [.int i,.int j]=>decide (1<=j) && decide ((Int.gcd i j:Int)=1)
 |_=>false
theorem Dk{d:D}(h:∀i j,d≠.tup [.int i,.int j]):yM d=false:=by
 unfold yM;split
 . rename_i i j;exact absurd rfl (h i j)
 . rfl
mutual
noncomputable def BD:D->Nat
 |.tup xs=>max xs.length (yN xs)
 |.lst xs=>max xs.length (yN xs)
 |_=>0
noncomputable def yN:List D->Nat
 |[]=>0
 |x::xs=>max (BD x) (yN xs)
end
theorem An{n:Nat}:∀{xs:List D},(∀x∈xs,BD x<=n)->yN xs<=n
 |[],_=>Vr _
 | y::ys,h=>by simp only[yN];have:=h y TQ;have:=An (xs:=ys) λx hx=>h x (TL _ hx);omega
theorem Hj{n:Nat}(h:n<=99):n<=sizeLine:=T9 h x_
theorem JK(q:Rat):BD (Qq q)=2:=by simp[Qq,BD,yN]
theorem Gj(a:QW):BD (m6 a)=4:=by have:=JK a.size;simp[m6,BD,yN,this]
theorem Dl{as:List QW}{n:Nat}(h:as.length<=n)(h2:4<=n):BD (.lst (as.map m6))<=n:=by
 simp only[BD,TY];have:=An (n:=4) (xs:=as.map m6) λx hx=>by obtain⟨q,_,rfl⟩:=UY.mp hx;rw[Gj];exact Ud _
 omega
structure Q8 (n:Nat) (d:D):Prop where
 dep:zV d<n
 wid:BD d<=99
theorem Q8.mono{n m:Nat}{d:D}(h:Q8 n d)(hm:n<=m):Q8 m d:=⟨TU h.dep hm,h.wid⟩
theorem JL(q:Rat):zV (Qq q)=1:=by simp[Qq,zV,yu]
theorem Gk(a:QW):zV (m6 a)=2:=by have:=JL a.size;simp[m6,zV,yu,this]
theorem Gm{xs:List D}{n:Nat}(h:∀x∈xs,zV x<=n):zV (.lst xs)<=n+1:=by simp only[zV];have:=zW h;omega
theorem Dm(as:List QW):zV (.lst (as.map m6))<=3:=Gm λx hx=>by obtain⟨q,_,rfl⟩:=UY.mp hx;rw[Gk];exact Ud _
theorem Q8.asks{as:List QW}(h:as.length<=99):Q8 4 (.lst (as.map m6)):=⟨by have:=Dm as;omega,Dl h x_⟩
end My
set_option exponentiation.threshold 5000
namespace My
open PySem L2
def Tw(R:aO)(ps:List Rat):Prop:=∀k,k<R.asks.length->∃v:Int,0<=v/\v<=12/\ps.getD k 0=R.sz k*Rat.divInt v 12
end My
set_option exponentiation.threshold 5000
namespace My
open PySem L2
structure dM where
 k:Nat
 kw:Bool
 l:Nat
 lw:Bool
 am:Rat
noncomputable def Q9(s:dM):D:=.tup [.int (s.k:Int),.str (gj s.kw),.int (s.l:Int),.str (gj s.lw),Qq s.am]
noncomputable def Ra(R:aO)(ps:List Rat)(k:Nat)(w:Bool):Rat:=if w then R.sz k-ps.getD k 0 else ps.getD k 0
noncomputable def Rb(R:aO)(ps:List Rat)(k:Nat)(kw:Bool)(l:Nat)(lw:Bool):Rat:=if Ra R ps l lw<Ra R ps k kw then Ra R ps l lw else Ra R ps k kw
noncomputable def Rc(p:Rat)(w:Bool)(am:Rat):Rat:=if w then p+am else p-am
noncomputable def Re(ps:List Rat)(s:dM):List Rat:=(ps.set s.k (Rc (ps.getD s.k 0) s.kw s.am)).set s.l (Rc ((ps.set s.k (Rc (ps.getD s.k 0) s.kw s.am)).getD s.l 0) s.lw s.am)
noncomputable def jB(n:Nat)(a:QW)(aw:Bool)(b:QW)(bw:Bool):Bool:=!((Ae n a aw).any λt=>decide (t∈Ae n b bw))
noncomputable def bO(n:Nat)(a b:QW):Bool×Bool:=if jB n a true b true then(true,true)else if jB n a true b false then(true,false)else if jB n a false b true then(false,true)else(false,false)
structure cU (R:aO) (ps:List Rat):Prop where
 ok:R.Ok
 len:ps.length=R.asks.length
 lo:∀k,k<ps.length->0<=ps.getD k 0/\ps.getD k 0<=R.sz k
 cd:∃D:Nat,0<D/\D<2^1500/\(∀a∈R.asks,a.size.den∣D)/\∀p∈ps,p.den∣D
theorem g9{R:aO}{k:Nat}(h:k<R.asks.length):R.sz k=R.asks[k].size:=by unfold aO.sz;rw[TX,Ui,TM h];rfl
theorem bu{ps:List Rat}{k:Nat}(h:k<ps.length):ps.getD k 0=ps[k]:=by rw[TX,TM h];rfl
theorem Rf{a b c:Rat}(h1:a<=b)(h2:b<c):a<c:=by rw[<- Rat.not_le]at h2 ⊢;exact λz=>h2 (VI z h1)
theorem Ao{q:Rat}{D:Nat}(h0:0<=q)(h1:q<((2^300:Nat):Rat))(d0:0<D)(d1:D<2^1500)(hd:q.den∣D):RB 1800 q:=RB.of_val (v:=300) (d:=1500) h0 (Ug (V6 d0 hd) d1) h1
theorem cU.sz_rb{R:aO}{ps:List Rat}(h:cU R ps){k:Nat}(hk:k<ps.length):RB 1800 (R.sz k):=by
 have hk':k<R.asks.length:=by rw[<- h.len];exact hk
 rw[g9 hk'];exact(h.ok.rb (TV hk')).mono x_
theorem cU.rb{R:aO}{ps:List Rat}(h:cU R ps){k:Nat}(hk:k<ps.length):RB 1800 (ps.getD k 0):=by
 obtain⟨D,d0,d1,_,hd⟩:=h.cd;have hk':k<R.asks.length:=by rw[<- h.len];exact hk
 obtain⟨h1,h2⟩:=h.lo k hk;refine Ao h1 (Rf h2 ?_) d0 d1 (hd _ (by rw[bu hk];exact TV hk));rw[g9 hk'];exact(h.ok.ask _ (TV hk')).lt
theorem rF{p q:Rat}{D:Nat}(d0:0<D)(h1:p.den∣D)(h2:q.den∣D):(p+q).den∣D:=by
 have e:p+q=Rat.divInt (w8 D p+w8 D q) (D:Int):=by
  have hD:((D:Int):Rat)≠0:=by have:(0:Rat)<(D:Rat):=Rat.natCast_pos.mpr d0;intro z;rw[show((D:Int):Rat)=(D:Rat)from rfl]at z;rw[z]at this;exact absurd this x_
  rw[Rat.divInt_eq_div,Rat.intCast_add,w9 h1,w9 h2,<- Rat.add_mul,Rat.div_def,Rat.mul_assoc,show((D:Nat):Rat)=((D:Int):Rat)from rfl,Rat.mul_inv_cancel _ hD,Rat.mul_one]
 rw[e];have:=uY (t:=w8 D p+w8 D q) (b:=(D:Int)) xL;simpa using this
theorem oY{p q:Rat}{D:Nat}(d0:0<D)(h1:p.den∣D)(h2:q.den∣D):(p-q).den∣D:=by rw[U1];exact rF d0 h1 (by rw[Rat.neg_den];exact h2)
theorem cU.ns{R:aO}{ps:List Rat}(h:cU R ps){k:Nat}(hk:k<ps.length)(w:Bool):0<=Ra R ps k w/\Ra R ps k w<=R.sz k:=by
 obtain⟨h1,h2⟩:=h.lo k hk;unfold Ra;cases w
 . exact⟨h1,h2⟩
 .
  have h3:=(Rat.le_iff_sub_nonneg _ _).mp h2;refine⟨h3,?_⟩;show R.sz k-ps.getD k 0<=R.sz k;rw[Rat.le_iff_sub_nonneg];have:R.sz k-(R.sz k-ps.getD k 0)=ps.getD k 0:=by rw[U1,U1,Rat.neg_add,Rat.neg_neg,<- Wh,Rat.add_neg_cancel,Rat.zero_add]
  rw[this];exact h1
noncomputable def pU(a:QW):Nat:=min a.one a.other
noncomputable def fQ(a:QW):Nat:=max a.one a.other
noncomputable def Rg(a:QW):Bool:=decide (a.one<a.other)
theorem uq{n:Nat}{a:QW}(h:jV n a){t:Nat}(ht:t<n):(qe n a t == Rg a)=true↔pU a<=t/\t<fQ a:=by
 have h1:=h.one;have h2:=h.other;have h3:=h.ne;unfold qe pU fQ Rg;rw[pT h1 ht,pT h1 h2];rw[VQ,Wa];by_cases h4:a.one<a.other
 .
  rw[if_pos (show a.one<=a.other by omega)];by_cases h5:a.one<=t
  . rw[if_pos h5];omega
  . rw[if_neg h5];omega
 .
  rw[if_neg (show ¬a.one<=a.other by omega)];by_cases h5:a.one<=t
  . rw[if_pos h5];omega
  . rw[if_neg h5];omega
theorem uZ{n:Nat}{a b:QW}(ha:jV n a)(hb:jV n b){aw bw:Bool}(h:∀t,t<n->(qe n a t == aw)=true->(qe n b t == bw)=true->False):jB n a aw b bw=true:=by
 unfold jB;rw[V1,List.any_eq_false];intro t ht;rw[decide_eq_true_iff];intro hb'
 have htn:t<n:=by
  cases aw
  . exact((Aj ha.one ha.other ha.ne).mp ht).1
  . exact((Hh ha.one).mp ht).1
 exact h t htn ((oX ha aw htn).mp ht) ((oX hb bw htn).mp hb')
theorem Dn{n:Nat}{a b:QW}(ha:jV n a)(hb:jV n b){aw bw:Bool}(h:jB n a aw b bw=true):∀t,t∈Ae n a aw->t∉Ae n b bw:=by unfold jB at h;rw[V1,List.any_eq_false]at h;intro t ht hb';exact h t ht (by simpa using hb')
theorem xa{n:Nat}{a:QW}(h:jV n a){t:Nat}(ht:t<n):(qe n a t == !Rg a)=true↔¬(pU a<=t/\t<fQ a):=by rw[<- uq h ht];cases qe n a t<;>cases Rg a<;>simp
noncomputable def MN(a b:QW):Bool:=decide (pU a<pU b/\pU b<fQ a/\fQ a<fQ b) ||decide (pU b<pU a/\pU a<fQ b/\fQ b<fQ a)
theorem Gn{n:Nat}{a b:QW}(ha:jV n a)(hb:jV n b)(h:MN a b=false):jB n a (bO n a b).1 b (bO n a b).2=true:=by
 have ex:∃aw bw,jB n a aw b bw=true:=by
  unfold MN at h;rw[Bool.or_eq_false_iff,Vs,Vs]at h;have la:pU a<fQ a:=by have:=ha.ne;unfold pU fQ;omega
  have lb:pU b<fQ b:=by have:=hb.ne;unfold pU fQ;omega
  by_cases h1:fQ a<=pU b∨fQ b<=pU a
  . refine⟨Rg a,Rg b,uZ ha hb λt ht p q=>?_⟩;have p:=(uq ha ht).mp p;have q:=(uq hb ht).mp q;omega
  .
   by_cases h2:pU b<=pU a/\fQ a<=fQ b
   . refine⟨Rg a,!Rg b,uZ ha hb λt ht p q=>?_⟩;have p:=(uq ha ht).mp p;have q:=(xa hb ht).mp q;omega
   . refine⟨!Rg a,Rg b,uZ ha hb λt ht p q=>?_⟩;have p:=(xa ha ht).mp p;have q:=(uq hb ht).mp q;omega
 unfold bO;split
 . assumption
 .
  split
  . assumption
  .
   split
   . assumption
   .
    obtain⟨aw,bw,e⟩:=ex
    cases aw<;>cases bw<;>first|exact e|contradiction
noncomputable def Rh(R:aO)(ps:List Rat)(k l:Nat)(w:Bool×Bool):dM:=⟨k,w.1,l,w.2,Rb R ps k w.1 l w.2⟩
theorem cU.ms{R:aO}{ps:List Rat}(h:cU R ps){k l:Nat}(hk:k<ps.length)(hl:l<ps.length)(kw lw:Bool):0<=Rb R ps k kw l lw/\Rb R ps k kw l lw<=Ra R ps k kw/\Rb R ps k kw l lw<=Ra R ps l lw/\(Rb R ps k kw l lw=Ra R ps k kw∨Rb R ps k kw l lw=Ra R ps l lw):=by
 have h1:=h.ns hk kw;have h2:=h.ns hl lw;unfold Rb;split
 . rename_i hlt;exact⟨h2.1,Rat.le_of_lt hlt,Wd,.inr rfl⟩
 . rename_i hlt;exact⟨h1.1,Wd,Wf.mp hlt,.inl rfl⟩
noncomputable def Ri(R:aO)(k l:Nat):Bool:=MN (aR R k) (aR R l)
noncomputable def Rj(cr:Nat->Nat->Bool):List Nat->Option (Nat×Nat)
 |[]=>none
 | k::ks=>match ks.find? (λl=>!cr k l)with
  |some l=>some (k,l)
  |none=>Rj cr ks
noncomputable def yO:Option (Nat×Nat)->D
 |none=>.non
 |some (k,l)=>.tup [.int (k:Int),.int (l:Int)]
theorem cw{R:aO}{k:Nat}(h:k<R.asks.length):aR R k=R.asks[k]:=by unfold aR;rw[TM h];rfl
end My
set_option exponentiation.threshold 5000
namespace My
open PySem L2
noncomputable def Rk(R:aO)(ps:List Rat)(k:Nat):Bool:=decide (0<ps.getD k 0) && decide (ps.getD k 0<R.sz k)
noncomputable def Rl(R:aO)(ps:List Rat):List Nat:=(List.range ps.length).filter (Rk R ps)
theorem gR{R:aO}{ps:List Rat}{k:Nat}(h:k∈Rl R ps):k<ps.length/\Rk R ps k=true:=by obtain⟨h1,h2⟩:=Vf.mp h;exact⟨Uy.mp h1,h2⟩
theorem ur(R:aO)(ps:List Rat):(Rl R ps).Pairwise (· < ·):=List.Pairwise.filter _ List.pairwise_lt_range
theorem qI{cr:Nat->Nat->Bool}:∀{ks:List Nat}{k l:Nat},ks.Pairwise (· < ·)->Rj cr ks=some (k,l)->k∈ks/\l∈ks/\k<l/\cr k l=false
 |[],_,_,_,h=>by cases h
 | a::ks,k,l,hp,h=>by
  obtain⟨p1,p2⟩:=VT.mp hp;unfold Rj at h
  cases e:ks.find? (λl=>!cr a l)with
  | none =>
   rw[e]at h;obtain⟨h1,h2,h3,h4⟩:=qI p2 h;exact⟨TL _ h1,TL _ h2,h3,h4⟩
  | some m =>
   rw[e]at h;cases h;have hm:=List.mem_of_find?_eq_some e;have hc:=List.find?_some e;exact⟨TQ,TL _ hm,p1 _ hm,by simpa using hc⟩
theorem Ap{cr:Nat->Nat->Bool}:∀{ks:List Nat},ks.Pairwise (· < ·)->Rj cr ks=none->∀k l,k∈ks->l∈ks->k<l->cr k l=true
 |[],_,_,_,_,hk,_,_=>by cases hk
 | a::ks,hp,h,k,l,hk,hl,hkl=>by
  obtain⟨p1,p2⟩:=VT.mp hp;unfold Rj at h
  cases e:ks.find? (λl=>!cr a l)with
  |some m=>rw[e]at h;cases h
  | none =>
   rw[e]at h;rcases Ue.mp hk with ek|hk'
   .
    subst ek;rcases Ue.mp hl with el|hl'
    . omega
    . have:=List.find?_eq_none.mp e l hl';simpa using this
   .
    rcases Ue.mp hl with el|hl'
    . have:=p1 k hk';omega
    . exact Ap p2 h k l hk' hl' hkl
theorem JM(p s:Rat):p+(s-p)=s:=by rw[U1,<- Wh,Rat.add_comm p s,Wh,Rat.add_neg_cancel,Rat.add_zero]
theorem Do(p:Rat):p-p=0:=by rw[U1,Rat.add_neg_cancel]
theorem JN{p a:Rat}(h:a<=p):0<=p-a:=(Rat.le_iff_sub_nonneg _ _).mp h
theorem Gp{p a:Rat}(h:0<=a):p-a<=p:=by rw[Rat.le_iff_sub_nonneg,U1,U1,Rat.neg_add,Rat.neg_neg,<- Wh,Rat.add_neg_cancel,Rat.zero_add];exact h
theorem JO{p a:Rat}(h1:0<=p)(h2:0<=a):0<=p+a:=Rat.add_nonneg h1 h2
structure Me (R:aO) (ps:List Rat) (s:dM):Prop where
 k:s.k<ps.length
 l:s.l<ps.length
 kl:s.k≠s.l
 nn:0<=s.am
 kn:s.am<=Ra R ps s.k s.kw
 ln:s.am<=Ra R ps s.l s.lw
theorem jW(ps:List Rat)(s:dM):(Re ps s).length=ps.length:=by simp[Re]
theorem xb{ps:List Rat}{s:dM}(hk:s.k<ps.length)(hl:s.l<ps.length)(hkl:s.k≠s.l)(i:Nat):(Re ps s).getD i 0=if i=s.k then Rc (ps.getD s.k 0) s.kw s.am else if i=s.l then Rc (ps.getD s.l 0) s.lw s.am else ps.getD i 0:=by
 have e0:(ps.set s.k (Rc (ps.getD s.k 0) s.kw s.am)).getD s.l 0=ps.getD s.l 0:=by rw[TX,UN hkl,<- TX]
 unfold Re;rw[e0,TX];by_cases h1:i=s.k
 . subst h1;rw[if_pos rfl,UN (U3 hkl),UL hk];rfl
 .
  rw[if_neg h1];by_cases h2:i=s.l
  . subst h2;rw[if_pos rfl,UL (by simpa using hl)];rfl
  . rw[if_neg h2,UN (U3 h2),UN (U3 h1),TX]
theorem Aq{R:aO}{ps:List Rat}{k:Nat}{w:Bool}{am:Rat}(h1:0<=ps.getD k 0)(h2:ps.getD k 0<=R.sz k)(a0:0<=am)(a1:am<=Ra R ps k w):0<=Rc (ps.getD k 0) w am/\Rc (ps.getD k 0) w am<=R.sz k:=by
 unfold Ra at a1;unfold Rc
 cases w with
 | true =>
  simp only[Wg]at a1 ⊢;refine⟨JO h1 a0,?_⟩;have:=(Rat.add_le_add_left (c:=ps.getD k 0)).mpr a1;rwa [JM]at this
 | false =>
  simp only[Vp,V8]at a1 ⊢;exact⟨JN a1,VI (Gp a0) h2⟩
theorem cU.slid{R:aO}{ps:List Rat}{s:dM}(h:cU R ps)(hs:Me R ps s)(hd:∀D:Nat,0<D->(∀a∈R.asks,a.size.den∣D)->(∀p∈ps,p.den∣D)->s.am.den∣D):cU R (Re ps s):=by
 refine⟨h.ok,by rw[jW];exact h.len,λi hi=>?_,?_⟩
 .
  rw[jW]at hi;rw[xb hs.k hs.l hs.kl];split
  . rename_i e;subst e;exact Aq (h.lo _ hs.k).1 (h.lo _ hs.k).2 hs.nn hs.kn
  .
   split
   . rename_i e;subst e;exact Aq (h.lo _ hs.l).1 (h.lo _ hs.l).2 hs.nn hs.ln
   . exact h.lo i hi
 .
  obtain⟨D,d0,d1,da,dp⟩:=h.cd;have dm:=hd D d0 da dp;have dk:∀k,k<ps.length->(ps.getD k 0).den∣D:=λk hk=>dp _ (by rw[bu hk];exact TV hk)
  have db:∀(k:Nat)(w:Bool),k<ps.length->(Rc (ps.getD k 0) w s.am).den∣D:=λk w hk=>by
   unfold Rc;cases w
   . exact oY d0 (dk k hk) dm
   . exact rF d0 (dk k hk) dm
  refine⟨D,d0,d1,da,λp hp=>?_⟩;obtain⟨i,hi,rfl⟩:=UJ hp;rw[<- bu hi,xb hs.k hs.l hs.kl];rw[jW]at hi;split
  . exact db _ _ hs.k
  .
   split
   . exact db _ _ hs.l
   . exact dk i hi
theorem uu{R:aO}{ps:List Rat}(h:cU R ps){k:Nat}(hk:k<ps.length)(w:Bool){D:Nat}(d0:0<D)(da:∀a∈R.asks,a.size.den∣D)(dp:∀p∈ps,p.den∣D):(Ra R ps k w).den∣D:=by
 have hk':k<R.asks.length:=by rw[<- h.len];exact hk
 have e1:(ps.getD k 0).den∣D:=dp _ (by rw[bu hk];exact TV hk);unfold Ra;cases w
 . exact e1
 . refine oY d0 ?_ e1;rw[g9 hk'];exact da _ (TV hk')
theorem Hl{R:aO}{ps:List Rat}(h:cU R ps){k l:Nat}(hk:k<ps.length)(hl:l<ps.length)(hkl:k≠l)(w:Bool×Bool):Me R ps (Rh R ps k l w):=by obtain⟨m1,m2,m3,_⟩:=h.ms hk hl w.1 w.2;exact⟨hk,hl,hkl,m1,m2,m3⟩
theorem Hm{R:aO}{ps:List Rat}(h:cU R ps){k l:Nat}(hk:k<ps.length)(hl:l<ps.length)(hkl:k≠l)(w:Bool×Bool):cU R (Re ps (Rh R ps k l w)):=by
 refine h.slid (Hl h hk hl hkl w) λD d0 da dp=>?_;show(Rb R ps k w.1 l w.2).den∣D;rcases(h.ms hk hl w.1 w.2).2.2.2 with e|e
 . rw[e];exact uu h hk _ d0 da dp
 . rw[e];exact uu h hl _ d0 da dp
theorem Hn{R:aO}{ps:List Rat}{k:Nat}{w:Bool}:¬(0<Rc (ps.getD k 0) w (Ra R ps k w)/\Rc (ps.getD k 0) w (Ra R ps k w)<R.sz k):=by
 unfold Rc Ra
 cases w with
 | true =>
  simp only[Wg];rw[JM];exact λz=>Rat.lt_irrefl z.2
 | false =>
  simp only[Vp,V8];rw[Do];exact λz=>Rat.lt_irrefl z.1
theorem yP{p q:Nat->Bool}:∀{l:List Nat}{x:Nat},(∀y∈l,q y=true->p y=true)->x∈l->p x=true->q x=false->(l.filter q).length<(l.filter p).length
 |[],_,_,hx,_,_=>by cases hx
 | a::l,x,h,hx,hp,hq=>by
  have le:∀m:List Nat,(∀y∈m,q y=true->p y=true)->(m.filter q).length<=(m.filter p).length:=λm hm=>by
   induction m with
   |nil=>exact Ud _
   | cons b m ih =>
    have ih:=ih λy hy=>hm y (TL _ hy);have hb:=hm b TQ;rw[Vg,Vg];cases e1:q b<;>cases e2:p b<;>simp_all<;>omega
  have h':∀y∈l,q y=true->p y=true:=λy hy=>h y (TL _ hy);rw[Vg,Vg];rcases Ue.mp hx with rfl|hx
  . rw[hp,hq];have:=le l h';simp;omega
  . have ih:=yP h' hx hp hq;have hb:=h a TQ;cases e1:q a<;>cases e2:p a<;>simp_all<;>omega
theorem Ar{R:aO}{ps:List Rat}(h:cU R ps){k l:Nat}(hk:k∈Rl R ps)(hl:l∈Rl R ps)(hkl:k≠l)(w:Bool×Bool):(Rl R (Re ps (Rh R ps k l w))).length<(Rl R ps).length:=by
 obtain⟨hk1,hk2⟩:=gR hk;obtain⟨hl1,hl2⟩:=gR hl;have at_:=xb (s:=Rh R ps k l w) hk1 hl1 hkl;unfold Rl;rw[jW]
 have up:∀y∈List.range ps.length,Rk R (Re ps (Rh R ps k l w)) y=true->Rk R ps y=true:=λy _ hy=>by
  unfold Rk at hy ⊢;rw[at_]at hy;by_cases e1:y=k
  . subst e1;exact hk2
  .
   by_cases e2:y=l
   . subst e2;exact hl2
   . rw[if_neg (show ¬y=(Rh R ps k l w).k from e1),if_neg (show ¬y=(Rh R ps k l w).l from e2)]at hy;exact hy
 rcases(h.ms hk1 hl1 w.1 w.2).2.2.2 with e|e
 . refine yP up (Uy.mpr hk1) hk2 ?_;unfold Rk;rw[at_,if_pos (show k=(Rh R ps k l w).k from rfl)];show(decide (0<Rc (ps.getD k 0) w.1 (Rb R ps k w.1 l w.2)) && decide (Rc (ps.getD k 0) w.1 (Rb R ps k w.1 l w.2)<R.sz k))=false;rw[e];have:=Hn (R:=R) (ps:=ps) (k:=k) (w:=w.1);rw[<- Bool.not_eq_true,Uc,Ua,Ua];exact this
 . refine yP up (Uy.mpr hl1) hl2 ?_;unfold Rk;rw[at_,if_neg (show ¬l=(Rh R ps k l w).k from U3 hkl),if_pos (show l=(Rh R ps k l w).l from rfl)];show(decide (0<Rc (ps.getD l 0) w.2 (Rb R ps k w.1 l w.2)) && decide (Rc (ps.getD l 0) w.2 (Rb R ps k w.1 l w.2)<R.sz l))=false;rw[e];have:=Hn (R:=R) (ps:=ps) (k:=l) (w:=w.2);rw[<- Bool.not_eq_true,Uc,Ua,Ua];exact this
noncomputable def xc(R:aO)(ps:List Rat):Option dM:=(Rj (Ri R) (Rl R ps)).map λp=>Rh R ps p.1 p.2 (bO R.n (aR R p.1) (aR R p.2))
noncomputable def qf(R:aO):Nat->List Rat->List dM
 |0,_=>[]
 | n+1,ps=>match xc R ps with
  |none=>[]
  |some s=>s::qf R n (Re ps s)
theorem nQ{R:aO}{ps:List Rat}(h:cU R ps){k:Nat}(hk:k<ps.length)(w:Bool):RB 3700 (Ra R ps k w):=by
 unfold Ra;cases w
 . exact(h.rb hk).mono x_
 . exact((h.sz_rb hk).sub (h.rb hk)).mono x_
theorem Dp{R:aO}{ps:List Rat}{k:Nat}(w:Bool):R.sz k-Ra R ps k (!w)=Ra R ps k w:=by
 unfold Ra;cases w
 . show R.sz k-(R.sz k-ps.getD k 0)=ps.getD k 0;rw[U1,U1,Rat.neg_add,Rat.neg_neg,<- Wh,Rat.add_neg_cancel,Rat.zero_add]
 . rfl
end My
set_option exponentiation.threshold 5000
namespace My
open PySem L2
noncomputable def Qm(R:aO)(ps:List Rat)(s:dM):Bool:=!decide (s.k=s.l) && (jB R.n (aR R s.k) s.kw (aR R s.l) s.lw && (decide (0<s.am) && !decide (Rb R ps s.k s.kw s.l s.lw<s.am)))
theorem Ho{R:aO}{ps:List Rat}{k:Nat}(h:Rk R ps k=true)(w:Bool):0<Ra R ps k w:=by
 unfold Rk at h;rw[Uc,Ua,Ua]at h;unfold Ra;cases w
 . exact h.1
 . show 0<R.sz k-ps.getD k 0;have:=h.2;rw[<- Rat.not_le]at this ⊢;intro z;apply this;have:=(Rat.add_le_add_left (c:=ps.getD k 0)).mpr z;rw[JM,Rat.add_zero]at this;exact this
theorem nR{R:aO}{ps:List Rat}{s:dM}(h:cU R ps)(e:xc R ps=some s):Me R ps s/\Qm R ps s=true/\cU R (Re ps s)/\(Rl R (Re ps s)).length<(Rl R ps).length/\RB 4000 s.am/\s.k∈Rl R ps/\s.l∈Rl R ps:=by
 unfold xc at e
 cases e1:Rj (Ri R) (Rl R ps)with
 |none=>rw[e1]at e;cases e
 | some p =>
  obtain⟨k,l⟩:=p;rw[e1]at e;obtain⟨hk,hl,hkl,hc⟩:=qI (ur R ps) e1;obtain⟨hk1,hk2⟩:=gR hk;obtain⟨hl1,hl2⟩:=gR hl;have hk':k<R.asks.length:=by rw[<- h.len];exact hk1
  have hl':l<R.asks.length:=by rw[<- h.len];exact hl1
  have hkl':k≠l:=by omega
  have ee:Rh R ps k l (bO R.n (aR R k) (aR R l))=s:=Uq e;subst ee;refine⟨Hl h hk1 hl1 hkl' _,?_,Hm h hk1 hl1 hkl' _,Ar h hk hl hkl' _,?_,hk,hl⟩
  .
   unfold Qm;show(!decide (k=l) && (jB R.n (aR R k) (bO R.n (aR R k) (aR R l)).1 (aR R l) (bO R.n (aR R k) (aR R l)).2 && (decide (0<Rb R ps k (bO R.n (aR R k) (aR R l)).1 l (bO R.n (aR R k) (aR R l)).2) && !decide (Rb R ps k (bO R.n (aR R k) (aR R l)).1 l (bO R.n (aR R k) (aR R l)).2<Rb R ps k (bO R.n (aR R k) (aR R l)).1 l (bO R.n (aR R k) (aR R l)).2))))=true;rw[Ul hkl',Gn (by rw[cw hk'];exact h.ok.ask _ (TV hk')) (by rw[cw hl'];exact h.ok.ask _ (TV hl')) hc,Ul (Rat.lt_irrefl),UI]
   . rfl
   .
    rcases(h.ms hk1 hl1 (bO R.n (aR R k) (aR R l)).1 (bO R.n (aR R k) (aR R l)).2).2.2.2 with z|z
    . rw[z];exact Ho hk2 _
    . rw[z];exact Ho hl2 _
  .
   show RB 4000 (Rb R ps k _ l _);rcases(h.ms hk1 hl1 (bO R.n (aR R k) (aR R l)).1 (bO R.n (aR R k) (aR R l)).2).2.2.2 with z|z
   . rw[z];exact(nQ h hk1 _).mono x_
   . rw[z];exact(nQ h hl1 _).mono x_
theorem Gq{R:aO}{ps:List Rat}(e:xc R ps=none):Rj (Ri R) (Rl R ps)=none:=by
 unfold xc at e
 cases e1:Rj (Ri R) (Rl R ps)with
 |none=>rfl
 |some p=>rw[e1]at e;cases e
theorem u0{R:aO}:∀(m:Nat)(ps:List Rat),cU R ps->(qf R m ps).length<=(Rl R ps).length
 |0,_,_=>Vr _
 | m+1,ps,h=>by
  unfold qf
  cases e:xc R ps with
  |none=>exact Vr _
  | some s =>
   obtain⟨_,_,h2,h3,_⟩:=nR h e;have:=u0 m (Re ps s) h2;simp only[U9];omega
end My
set_option exponentiation.threshold 5000
namespace My
open PySem L2
end My
set_option exponentiation.threshold 5000
namespace My
open PySem L2
theorem Gr{n V W:Nat}(h:n*W<V):(n:Rat)*(W:Rat)<(V:Rat):=by
 have h1:(((n*W:Nat):Int):Rat)<((V:Int):Rat):=Rat.intCast_lt_intCast.mpr xL;have h2:(((n*W:Nat):Int):Rat)=(n:Rat)*(W:Rat):=by push_cast;rfl
 rw[<- h2];exact h1
theorem Dq(R:aO):eh (R.asks.map m6)=(List.range R.asks.length).map λ(k:Nat)=>D.tup [.int (k:Int),m6 (aR R k)]:=by
 apply List.ext_getElem?;intro k;by_cases hk:k<R.asks.length
 . rw[Ui,Vj hk];simp[eh,hk,aR]
 . rw[VA (by simp[eh];omega),VA (by simp;omega)]
theorem JP{R:aO}{ps:List Rat}(h:cU R ps):(∀k t,RB 1900 (bH R.n (R.asks.take k) (ps.take k) t))/\∀t,RB 1900 (bH R.n R.asks ps t):=by
 obtain⟨D,d0,d1,da,dp⟩:=h.cd
 have key:∀k t,RB 1900 (bH R.n (R.asks.take k) (ps.take k) t):=λk t=>by
  unfold bH;have hz:∀ x∈(R.asks.take k).zip (ps.take k),∃ i,i < R.asks.length/\x=(R.asks.getD i ⟨"",0,0,0⟩,ps.getD i 0):=λx hx=>by obtain⟨i,hi,rfl⟩:=UJ hx;rw[U7,Va,Va,h.len]at hi;refine⟨i,xL,?_⟩;rw[VB,List.getElem_take,List.getElem_take,TX,TM xL,bu (by rw[h.len];omega)];rfl
  have hs:∀x∈(R.asks.take k).zip (ps.take k),0<=tG R.n x.1 x.2 t/\tG R.n x.1 x.2 t<((2^300:Nat):Rat)/\(tG R.n x.1 x.2 t).den∣D:=λx hx=>by
   obtain⟨i,hi,rfl⟩:=hz x hx;obtain⟨l0,l1⟩:=h.lo i (by rw[h.len];exact hi);rw[g9 hi]at l1;have e:R.asks.getD i ⟨"",0,0,0⟩=R.asks[i]:=by rw[TX,TM hi]; rfl
   rw[e];have hd1:=da _ (TV hi);have hd2:(ps.getD i 0).den∣D:=by rw[bu (by rw[h.len];exact hi)];exact dp _ (TV _)
   have b:=yJ (n:=R.n) (a:=R.asks[i]) l0 l1 t;refine⟨b.1,Rf b.2 (h.ok.ask _ (TV hi)).lt,?_⟩;show(tG R.n R.asks[i] (ps.getD i 0) t).den∣D;unfold tG;split
   . exact hd2
   . exact oY d0 hd1 hd2
  refine RB.of_val (v:=400) (d:=1500) (rC _ _ λx hx=>(hs x hx).1) ?_ ?_
  . refine Ug (V6 d0 (Di d0 _ λq hq=>?_)) d1;obtain⟨x,hx,rfl⟩:=UY.mp hq;exact(hs x hx).2.2
  .
   refine Rat.not_le.mp λhge=>?_;have h1:=Dj (V:=((2^300:Nat):Rat)) x_ (((R.asks.take k).zip (ps.take k)).map λx=>tG R.n x.1 x.2 t) λq hq=>by obtain⟨x,hx,rfl⟩:=UY.mp hq;exact(hs x hx).2.1
   rw[TY]at h1
   have h2:=Gr (n:=((R.asks.take k).zip (ps.take k)).length) (V:=2^400) (W:=2^300) (by
    have:=h.ok.few;have hl:((R.asks.take k).zip (ps.take k)).length<=20:=by rw[U7,Va];omega
    exact Ug (Nat.mul_le_mul_right _ hl) x_)
   exact absurd (VI hge h1) (Rat.not_le.mpr h2)
 refine⟨key,λt=>?_⟩;have:=key R.asks.length t;rwa [UM (Ud _),UM (by rw[h.len];exact Ud _)]at this
noncomputable def vR:D->Bool
 |.str z=>decide (z=Str.ofString "on") ||decide (z=Str.ofString "back")
 |_=>false
theorem JQ(z:Str):PV (.str z) [.str (Str.ofString "on"),.str (Str.ofString "back")]=vR (.str z):=by
 have e1:(Str.ofString "on" == z)=decide (z=Str.ofString "on"):=by rw[Bool.eq_iff_iff,VQ,decide_eq_true_iff]; exact eq_comm
 have e2:(Str.ofString "back" == z)=decide (z=Str.ofString "back"):=by rw[Bool.eq_iff_iff,VQ,decide_eq_true_iff]; exact eq_comm
 show(Str.ofString "on" == z ||(Str.ofString "back" == z ||false))=_;rw[e1,e2,V5];rfl
theorem Dr{h:D->D}{caps:Ev}{te:W L}{k:List D->Ev->Prop}(xs:List D)(acc:List D)(l:L)
  (step:∀a∈xs,∀Q:Ev->D->Prop,Q (.d a::caps) (h a)->te (.d a::caps) λr Z3=>P2 r λy=>Q Z3 y)
  (Pb:∀l',k (acc++xs.map h) (l'::caps)):d6 (bJ 0) mi te xs (l::caps) acc k:=by
 have:=nK (enc:=id) (h:=h) xs acc l step Pb;rwa [List.map_id]at this
structure Pt (n:Nat) (d:D):Prop where
 dep:zV d<=n
 wid:BD d<=99
 same:z6 (20+n) d=true
theorem Pt.int(i:Int):Pt 0 (.int i):=⟨by simp[zV],by simp[BD],by simp[z6]⟩
theorem Pt.str(z:Str):Pt 0 (.str z):=⟨by simp[zV],by simp[BD],by simp[z6]⟩
end My
set_option exponentiation.threshold 5000
namespace My
open PySem L2
noncomputable def mq:D->Option Bool
 |.str z=>if z=gj true then some true else if z=gj false then some false else none
 |_=>none
noncomputable def rG:D->Option Nat
 |.int i=>if 0<=i then some i.toNat else none
 |_=>none
noncomputable def xf(d:D):Option Rat:=match d with
 |.tup [.int i,.int j]=>if yM (.tup [.int i,.int j])then some (Rat.divInt i j)else none
 |_=>none
noncomputable def m8:D->Option dM
 | .tup [a,b,c,d,e]=>match rG a,mq b,rG c,mq d,xf e with
  |some k,some kw,some l,some lw,some am=>some ⟨k,kw,l,lw,am⟩
  |_,_,_,_,_=>none
 |_=>none
theorem u3{d:D}{w:Bool}(h:mq d=some w):d=.str (gj w):=by
 unfold mq at h;split at h
 .
  split at h
  . rename_i e;cases h;rw[e]
  .
   split at h
   . rename_i e;cases h;rw[e]
   . cases h
 . cases h
theorem rH(w:Bool):mq (.str (gj w))=some w:=by cases w<;>decide +kernel
theorem u4(d:D):vR d=(mq d).isSome:=by
 unfold vR mq
 cases d with
 | str z =>
  have e1:gj true=Str.ofString "on":=rfl;have e2:gj false=Str.ofString "back":=rfl;rw[<- e1,<- e2];by_cases h1:z=gj true
  . simp[h1]
  .
   by_cases h2:z=gj false
   . simp[h1,h2];split<;>rfl
   . simp[h1,h2]
 |_=>rfl
theorem As{d:D}{k:Nat}(h:rG d=some k):d=.int (k:Int):=by
 unfold rG at h;split at h
 .
  split at h
  .
   cases h
   congr 1
   omega
  . cases h
 . cases h
theorem Ds(k:Nat):rG (.int (k:Int))=some k:=by
 show(if(0:Int)<=(k:Int)then some ((k:Int)).toNat else none)=_
 rw[if_pos (by omega)];rfl
theorem Gs{d:D}{q:Rat}(h:xf d=some q):d=Qq q:=by
 unfold xf at h;split at h
 .
  rename_i i j;split at h
  .
   rename_i e;cases h;show D.tup [.int i,.int j]=_;have e':(decide (1<=j) && decide ((Int.gcd i j:Int)=1))=true:=e;rw[Uc,Ua,Ua]at e';obtain⟨h1,h2⟩:=e';have h3:Nat.gcd i.natAbs j.natAbs=1:=Int.ofNat_inj.mp h2;obtain⟨m,rfl⟩:=UO (show 0<=j by omega);have hm:m≠0:=by omega
   have h3':i.natAbs.Coprime m:=by rw[UA]at h3;exact h3
   have em:Rat.divInt i (m:Int)=Rat.mk' i m hm h3':=by rw[Rat.mk_eq_divInt]
   rw[em];rfl
  . cases h
 . cases h
theorem Gu(q:Rat):yM (Qq q)=true:=by unfold Qq yM;have h1:=q.den_pos;have h2:=q.reduced;unfold Nat.Coprime at h2;rw[Uc,Ua,Ua];refine⟨xL,?_⟩;show((Nat.gcd q.num.natAbs ((q.den:Int)).natAbs:Nat):Int)=1;rw[UA,h2];rfl
theorem Gv(q:Rat):xf (Qq q)=some q:=by
 show(if yM (.tup [.int q.num,.int (q.den:Int)])then some (Rat.divInt q.num (q.den:Int))else none)=_
 rw[show yM (.tup [.int q.num,.int (q.den:Int)])=true from Gu q,if_pos rfl,UF]
theorem JR(d:D):yM d=(xf d).isSome:=by
 by_cases h:∃i j,d=.tup [.int i,.int j]
 .
  obtain⟨i,j,rfl⟩:=h
  show _=(if yM (.tup [.int i,.int j])then some (Rat.divInt i j)else none).isSome
  cases e:yM (.tup [.int i,.int j])<;>rfl
 .
  have hn:∀i j,d≠.tup [.int i,.int j]:=λi j e=>h ⟨i,j,e⟩;rw[Dk hn];unfold xf;split
  . exact absurd rfl (hn _ _)
  . rfl
theorem gm(s:dM):m8 (Q9 s)=some s:=by simp only[Q9,m8,Ds,rH,Gv]
theorem Dt{d:D}{s:dM}(h:m8 d=some s):d=Q9 s:=by
 unfold m8 at h;split at h
 .
  split at h
  . rename_i h1 h2 h3 h4 h5;cases h;rw[As h1,u3 h2,As h3,u3 h4,Gs h5];rfl
  . cases h
 . cases h
noncomputable def tH(n:Nat)(d:D):Bool:=match m8 d with
 |some s=>decide (s.k<n) && decide (s.l<n)
 |none=>false
noncomputable def rJ(d:D)(n:Int):Bool:=match d with
 |.int i=>decide (0<=i/\i<n)
 |_=>false
theorem Au(d:D)(n:Nat):rJ d (n:Int)=match rG d with|some k=>decide (k<n)|none=>false:=by
 unfold rJ rG
 cases d with
 | int i =>
  by_cases h:0<=i
  . simp only[h,Wg,true_and];rw[Wa];omega
  . simp only[h,V8,false_and,decide_false]
 |_=>rfl
theorem JS(n:Nat)(a b c d e:D):tH n (.tup [a,b,c,d,e])=(rJ a n && (rJ c n && (vR b && (vR d && yM e)))):=by
 rw[Au,Au,u4,u4,JR];unfold tH
 have e0:m8 (.tup [a,b,c,d,e])=match rG a,mq b,rG c,mq d,xf e with
  |some k,some kw,some l,some lw,some am=>some ⟨k,kw,l,lw,am⟩
  |_,_,_,_,_=>none:=rfl
 rw[e0];cases rG a<;>cases mq b<;>cases rG c<;>cases mq d<;>cases xf e<;>simp
theorem Du{n:Nat}{xs:List D}(h:xs.length≠5):tH n (.tup xs)=false:=by
 have:m8 (.tup xs)=none:=by
  unfold m8;split
  . rename_i eq;cases eq;exact absurd rfl h
  . rfl
 unfold tH;rw[this]
theorem Gw{n:Nat}{d:D}(h:∀xs,d≠.tup xs):tH n d=false:=by
 have:m8 d=none:=by
  unfold m8;split
  . exact absurd rfl (h _)
  . rfl
 unfold tH;rw[this]
theorem OM{xs:List D}(h:xs.length=5):∃a b c d e,xs=[a,b,c,d,e]:=by
 match xs,h with
 |[a,b,c,d,e],_=>exact⟨a,b,c,d,e,rfl⟩
noncomputable def Rm(R:aO)(ps:List Rat)(d:D):Bool:=match m8 d with
 |some s=>decide (s.k<ps.length) && (decide (s.l<ps.length) && Qm R ps s)
 |none=>false
theorem Dv{R:aO}{ps:List Rat}{s:dM}(hk:s.k<ps.length)(hl:s.l<ps.length):Rm R ps (Q9 s)=Qm R ps s:=by unfold Rm;rw[gm];simp[hk,hl]
theorem Av{R:aO}{ps:List Rat}{d:D}(h:Rm R ps d=true):∃s,d=Q9 s/\s.k<ps.length/\s.l<ps.length/\Qm R ps s=true:=by
 unfold Rm at h;split at h
 . rename_i s e;rw[Uc,Uc,Ua,Ua]at h;exact⟨s,Dt e,h.1,h.2.1,h.2.2⟩
 . cases h
end My
set_option exponentiation.threshold 5000
namespace My
open PySem L2
noncomputable def Rn(b:Bool)(q:Rat):Rat:=if b then q else -q
theorem Aw{n t:Nat}:∀(as:List QW)(ps:List Rat)(k:Nat)(x:Rat)(h1:k<as.length)(h2:k<ps.length),bH n as (ps.set k x) t+tG n as[k] ps[k] t=bH n as ps t+tG n as[k] x t
 | a::as,p::ps,0,x,_,_=>by unfold bH;simp only[List.set_cons_zero,Vq,Ur,aV,List.getElem_cons_zero];grind
 | a::as,p::ps,k+1,x,h1,h2=>by have ih:=Aw (n:=n) (t:=t) as ps k x (by simpa using h1) (by simpa using h2);unfold bH at ih ⊢;simp only[List.set_cons_succ,Vq,Ur,aV,List.getElem_cons_succ];grind
 |[],_,k,_,h1,_=>by simp at h1
 |_::_,[],k,_,_,h2=>by simp at h2
theorem JT(n:Nat)(a:QW)(p:Rat)(w:Bool)(am:Rat)(t:Nat):tG n a (Rc p w am) t=tG n a p t+Rn (qe n a t == w) am:=by unfold tG Rc Rn;cases qe n a t<;>cases w<;>simp<;>grind
theorem Dw{n t:Nat}{as:List QW}{ps:List Rat}{k:Nat}(h1:k<as.length)(h2:k<ps.length)(w:Bool)(am:Rat):bH n as (ps.set k (Rc (ps.getD k 0) w am)) t=bH n as ps t+Rn (qe n as[k] t == w) am:=by have h:=Aw (n:=n) (t:=t) as ps k (Rc (ps.getD k 0) w am) h1 h2;rw[JT,bu h2]at h;rw[bu h2];grind
theorem JU{n t:Nat}{as:List QW}{ps:List Rat}{s:dM}(hk:s.k<as.length)(hl:s.l<as.length)(hp:ps.length=as.length):bH n as (Re ps s) t=bH n as ps t+Rn (qe n as[s.k] t == s.kw) s.am+Rn (qe n as[s.l] t == s.lw) s.am:=by unfold Re;rw[Dw hl (by simpa[hp]using hl),Dw hk (by rw[hp];exact hk)]
theorem Gx{R:aO}{ps:List Rat}{s:dM}(hS:cU R ps)(hk:s.k<R.asks.length)(hl:s.l<R.asks.length)(hb:Qm R ps s=true){t:Nat}(ht:t<R.n) :
  bH R.n R.asks (Re ps s) t=if(qe R.n R.asks[s.k] t == s.kw)=true∨(qe R.n R.asks[s.l] t == s.lw)=true then bH R.n R.asks ps t else bH R.n R.asks ps t-(s.am+s.am):=by
 unfold Qm at hb;rw[cw hk,cw hl]at hb;simp only[Uc,V1,Vs,Ua]at hb;obtain⟨_,hn,_⟩:=hb;have ak:=hS.ok.ask _ (TV hk);have al:=hS.ok.ask _ (TV hl);have no:=Dn ak al hn t;rw[oX ak s.kw ht,oX al s.lw ht]at no;rw[JU hk hl hS.len];cases e1:(qe R.n R.asks[s.k] t == s.kw)<;>cases e2:(qe R.n R.asks[s.l] t == s.lw)
 . simp[Rn];grind
 . simp[Rn];grind
 . simp[Rn];grind
 . exact absurd e2 (no e1)
theorem Dx{R:aO}{ps:List Rat}{s:dM}(hS:cU R ps)(hk:s.k<R.asks.length)(hl:s.l<R.asks.length)(hb:Qm R ps s=true){t:Nat}(ht:t<R.n):¬bH R.n R.asks ps t<bH R.n R.asks (Re ps s) t:=by
 rw[Gx hS hk hl hb ht];have ha:0<s.am:=by unfold Qm at hb;simp only[Uc,Ua]at hb;exact hb.2.2.1
 split
 . exact Rat.lt_irrefl
 . grind
theorem Dy{R:aO}{ps:List Rat}{s:dM}(h:cU R ps)(e:xc R ps=some s){D:Nat}(d0:0<D)(da:∀a∈R.asks,a.size.den∣D)(dp:∀p∈ps,p.den∣D):s.am.den∣D:=by
 unfold xc at e
 cases e1:Rj (Ri R) (Rl R ps)with
 |none=>rw[e1]at e;cases e
 | some p =>
  obtain⟨k,l⟩:=p;rw[e1]at e;obtain⟨hk,hl,hkl,hc⟩:=qI (ur R ps) e1;obtain⟨hk1,hk2⟩:=gR hk;obtain⟨hl1,hl2⟩:=gR hl;have ee:Rh R ps k l (bO R.n (aR R k) (aR R l))=s:=Uq e;subst ee;show(Rb R ps k _ l _).den∣D;rcases(h.ms hk1 hl1 (bO R.n (aR R k) (aR R l)).1 (bO R.n (aR R k) (aR R l)).2).2.2.2 with z|z
  . rw[z];exact uu h hk1 _ d0 da dp
  . rw[z];exact uu h hl1 _ d0 da dp
theorem Mf{R:aO}{ps:List Rat}(h:cU R ps){k l:Nat}(hk:k<ps.length)(hl:l<ps.length)(kw lw:Bool):0<=Rb R ps k kw l lw/\Rb R ps k kw l lw<((2^300:Nat):Rat):=by
 obtain⟨m0,m1,_⟩:=h.ms hk hl kw lw;refine⟨m0,Rf m1 (Rf (h.ns hk kw).2 ?_)⟩;have hk':k<R.asks.length:=by rw[<- h.len];exact hk
 rw[g9 hk'];exact(h.ok.ask _ (TV hk')).lt
theorem Gy{R:aO}{ps:List Rat}{D:Nat}{s:dM}{v:Nat}(hS:cU R ps)(d0:0<D)(d1:D*12<2^1500)(da:∀a∈R.asks,a.size.den∣D)(dp:∀p∈ps,p.den∣D)(hk:s.k<ps.length)(hl:s.l<ps.length)(v1:1<=v)(v2:v<=12)
  (e:s.am=Rat.divInt ((Rb R ps s.k s.kw s.l s.lw).num*v) (((Rb R ps s.k s.kw s.l s.lw).den:Int)*12)):RB 1800 s.am/\s.am.den∣D*12:=by
 obtain⟨m0,m1⟩:=Mf hS hk hl s.kw s.lw
 have md:(Rb R ps s.k s.kw s.l s.lw).den∣D:=by
  rcases(hS.ms hk hl s.kw s.lw).2.2.2 with z|z
  . rw[z];exact uu hS hk _ d0 da dp
  . rw[z];exact uu hS hl _ d0 da dp
 generalize Rb R ps s.k s.kw s.l s.lw=m at *;have e':s.am=m*Rat.divInt v 12:=by rw[e,<- Vb,UF]
 have hd:s.am.den∣D*12:=by rw[e'];refine VD (rD _ _) (Nat.mul_dvd_mul md ?_);have:=uY (t:=(v:Int)) (b:=12) x_;exact this
 have f0:0<=Rat.divInt (v:Int) 12:=Rat.divInt_nonneg xL x_
 have f1:0<=1-Rat.divInt (v:Int) 12:=by
  have e1:1-Rat.divInt (v:Int) 12=Rat.divInt (12-(v:Int)) 12:=by have:(1:Rat)=Rat.divInt 12 12:=rfl;rw[this,Rat.divInt_sub_divInt _ _ x_ x_,Rat.divInt_eq_divInt_iff x_ x_];omega
  rw[e1];exact Rat.divInt_nonneg xL x_
 have g0:=Rat.mul_nonneg m0 f0;have g1:=Rat.mul_nonneg m0 f1;refine⟨Ao (by rw[e'];exact g0) (Rf ?_ m1) xL d1 hd,hd⟩;rw[e'];grind
noncomputable def Hq(n:Nat)(d:D):Bool:=match d with
 |.lst xs=>decide (xs.length=n) && xs.all vR
 |_=>false
end My
set_option exponentiation.threshold 5000
namespace My
open PySem L2
noncomputable def mr(R:aO):Nat->List Rat->List Rat
 |0,ps=>ps
 | m+1,ps=>match xc R ps with
  |none=>ps
  |some s=>mr R m (Re ps s)
theorem Ax{R:aO}:∀(m:Nat)(ps:List Rat),cU R ps->(Rl R ps).length<=m->xc R (mr R m ps)=none
 | 0,ps,h,hm=>by
  cases e:xc R (mr R 0 ps)with
  |none=>rfl
  | some s =>
   have:=(nR h e).2.2.2.1;omega
 | m+1,ps,h,hm=>by
  unfold mr
  cases e:xc R ps with
  |none=>exact e
  | some s =>
   obtain⟨_,_,h3,h4,_⟩:=nR h e;exact Ax m (Re ps s) h3 xL
end My
set_option exponentiation.threshold 5000
namespace My
open PySem L2
noncomputable def Ro(a:QW):Nat:=min a.one a.other
noncomputable def Rp(R:aO)(k:Nat):Nat:=Ro (R.asks.getD k ⟨"",0,0,0⟩)
noncomputable def tI(R:aO)(k:Nat):Bool:=decide ((R.asks.getD k ⟨"",0,0,0⟩).one < (R.asks.getD k ⟨"",0,0,0⟩).other)
noncomputable def Rq(R:aO)(ks:List Nat)(g:Rat):Rat:=ks.foldl (λg k=>if g<R.sz k then R.sz k else g) g
noncomputable def bP(R:aO)(ks:List Nat):Rat:=Rq R ks 0*(1 / 2)
noncomputable def cF(R:aO)(ps:List Rat)(k:Nat)(w:Bool):Rat:=(if w=tI R k then R.sz k else 0)-(if tI R k=true then ps.getD k 0 else R.sz k-ps.getD k 0)
noncomputable def Rr(R:aO)(ps:List Rat)(hf t:Rat)(k:Nat):Bool:=if hf<t+cF R ps k (tI R k)then !tI R k else tI R k
noncomputable def Rt(R:aO)(ps:List Rat)(hf:Rat):Rat->List Bool->List Nat->List Bool
 |_,ws,[]=>ws
 |t,ws,k::os=>Rt R ps hf (t+cF R ps k (Rr R ps hf t k)) (ws.set k (Rr R ps hf t k)) os
noncomputable def Ru(R:aO)(ps:List Rat):List Bool:=(R.asks.zip ps).map λx=>decide (x.2=x.1.size)
noncomputable def Rv(R:aO)(ps:List Rat)(ks:List Nat)(ws:List Bool)(k:Nat):Bool:=decide (k∈ks) ||decide (R.sz k=0) ||decide (ws.getD k true=decide (ps.getD k 0=R.sz k))
noncomputable def Rw(hf:Rat):Rat->List Rat->Bool
 |_,[]=>true
 |t,g::gs=>!(decide (hf<t+g) ||decide (t+g<0-hf)) && Rw hf (t+g) gs
noncomputable def Rx(R:aO)(ps:List Rat)(ws:List Bool)(os:List Nat):List Rat:=os.map λk=>cF R ps k (ws.getD k true)
theorem Dz(R:aO)(k:Nat):R.asks.getD k ⟨"",0,0,0⟩=aR R k:=by unfold aR;rw[TX]
theorem u5(R:aO)(k:Nat):Rp R k=pU (aR R k):=by unfold Rp Ro pU;rw[Dz]
theorem JV(R:aO)(k:Nat):tI R k=Rg (aR R k):=by unfold tI Rg;rw[Dz]
theorem DA(R:aO):∀(ks:List Nat)(g:Rat),g<=Rq R ks g/\∀k∈ks,R.sz k<=Rq R ks g
 |[],g=>⟨Wd,λk h=>by cases h⟩
 | k::ks,g=>by
  obtain⟨h1,h2⟩:=DA R ks (if g<R.sz k then R.sz k else g)
  have e:Rq R (k::ks) g=Rq R ks (if g<R.sz k then R.sz k else g):=rfl
  rw[e]
  have a:g<=(if g<R.sz k then R.sz k else g)/\R.sz k<=(if g<R.sz k then R.sz k else g):=by
   split
   . rename_i h;exact⟨Rat.le_of_lt h,Wd⟩
   . rename_i h;exact⟨Wd,Wf.mp h⟩
  refine⟨VI a.1 h1,λx hx=>?_⟩;rcases Ue.mp hx with rfl|hx
  . exact VI a.2 h1
  . exact h2 x hx
theorem u6(R:aO)(ks:List Nat):bP R ks+bP R ks=Rq R ks 0:=by unfold bP;grind
theorem DB(R:aO)(ks:List Nat):0<=bP R ks:=by have:=(DA R ks 0).1;have:=u6 R ks;grind
theorem JW(R:aO)(ks:List Nat){k:Nat}(h:k∈ks):R.sz k<=bP R ks+bP R ks:=by rw[u6];exact(DA R ks 0).2 k h
theorem DC{R:aO}{ps:List Rat}{hf:Rat}:∀(os:List Nat)(t:Rat)(ws:List Bool),(Rt R ps hf t ws os).length=ws.length
 |[],_,_=>rfl
 | k::os,t,ws=>by show(Rt R ps hf _ (ws.set k _) os).length=_;rw[DC,Vo]
theorem DD{R:aO}{ps:List Rat}{hf:Rat}:∀(os:List Nat)(t:Rat)(ws:List Bool){j:Nat},j∉os->(Rt R ps hf t ws os).getD j true=ws.getD j true
 |[],_,_,_,_=>rfl
 | k::os,t,ws,j,h=>by show(Rt R ps hf _ (ws.set k _) os).getD j true=_;rw[DD os _ _ (λz=>h (TL _ z)),TX,UN (λz=>h (by simp[z])),TX]
theorem JX{R:aO}{ps:List Rat}{k:Nat}(h0:0<=ps.getD k 0)(h1:ps.getD k 0<=R.sz k):0<=cF R ps k (tI R k)/\cF R ps k (!tI R k)=cF R ps k (tI R k)-R.sz k/\cF R ps k (!tI R k)<=0:=by unfold cF;cases tI R k<;>simp<;>grind
theorem Mg{R:aO}{ps:List Rat}{hf:Rat}:∀(os:List Nat)(t:Rat)(ws:List Bool),os.Nodup->(∀k∈os,k<ws.length/\0<=ps.getD k 0/\ps.getD k 0<=R.sz k/\R.sz k<=hf+hf)->0-hf<=t->t<=hf->Rw hf t (Rx R ps (Rt R ps hf t ws os) os)=true
 |[],_,_,_,_,_,_=>rfl
 | k::os,t,ws,hn,h,t0,t1=>by
  obtain⟨n1,n2⟩:=Uz.mp hn;obtain⟨hk,p0,p1,s1⟩:=h k TQ;obtain⟨g0,g1,g2⟩:=JX p0 p1;have ew:(Rt R ps hf t ws (k::os)).getD k true=Rr R ps hf t k:=by show(Rt R ps hf _ (ws.set k _) os).getD k true=_;rw[DD os _ _ n1,TX,UL hk];rfl
  have eg:Rx R ps (Rt R ps hf t ws (k::os)) (k::os)=cF R ps k (Rr R ps hf t k)::Rx R ps (Rt R ps hf (t+cF R ps k (Rr R ps hf t k)) (ws.set k (Rr R ps hf t k)) os) os:=by show cF R ps k _::_=_;rw[ew];rfl
  rw[eg]
  have b:0-hf<=t+cF R ps k (Rr R ps hf t k)/\t+cF R ps k (Rr R ps hf t k)<=hf:=by
   unfold Rr;split
   . grind
   . rename_i c;have:=Wf.mp c;grind
  show(!(decide (hf<t+cF R ps k (Rr R ps hf t k)) ||decide (t+cF R ps k (Rr R ps hf t k)<0-hf)) && _)=true;rw[Ul (Wf.mpr b.2),Ul (Wf.mpr b.1)];exact Mg os _ _ n2 (λj hj=>by rw[Vo];exact h j (TL _ hj)) b.1 b.2
theorem DE{hf:Rat}:∀(as:List Rat)(t:Rat),0-hf<=t->t<=hf->Rw hf t as=true->0-hf<=t+iB as/\t+iB as<=hf
 | [],t,a,b,_=>by have:iB ([]:List Rat)=0:=rfl;grind
 | g::as,t,a,b,h=>by unfold Rw at h;rw[Uc,V1,Bool.or_eq_false_iff,Vs,Vs]at h;obtain⟨⟨h1,h2⟩,h3⟩:=h;have:=DE as (t+g) (Wf.mp h2) (Wf.mp h1) h3;rw[aV];grind
theorem Hr{hf:Rat}:∀(as bs:List Rat)(t:Rat),Rw hf t (as++bs)=true->Rw hf t as=true
 |[],_,_,_=>rfl
 | g::as,bs,t,h=>by rw[VM]at h;unfold Rw at h ⊢;rw[Uc]at h ⊢;exact⟨h.1,Hr as bs _ h.2⟩
theorem DF(f:Nat->Nat)(t:Nat):∀(l:List Nat),l.Pairwise (λi j=>f i<f j)->∃l1 l2,l=l1++l2/\(∀k∈l1,f k<=t)/\∀k∈l2,t<f k
 |[],_=>⟨[],[],rfl,v6,v6⟩
 | k::l,h=>by
  obtain⟨h1,h2⟩:=VT.mp h;by_cases c:f k<=t
  .
   obtain⟨l1,l2,e,a,b⟩:=DF f t l h2;refine⟨k::l1,l2,by rw[e];rfl,λx hx=>?_,b⟩;rcases Ue.mp hx with rfl|hx
   . exact c
   . exact a x hx
  .
   refine⟨[],k::l,rfl,v6,λx hx=>?_⟩;rcases Ue.mp hx with rfl|hx
   . omega
   . have:=h1 x hx;omega
theorem Gz{hf:Rat}{g:Nat->Rat}{lo hi:Nat->Nat}(t:Nat)(os:List Nat)(h0:0<=hf)(hlh:∀k∈os,lo k<hi k)(hp:os.Pairwise λi j=>lo i<lo j/\lo j<hi i/\hi i<hi j)(hw:Rw hf 0 (os.map g)=true) :
  iB (os.map λk=>if lo k<=t/\t<hi k then g k else-g k)<=hf+hf+hf:=by
 have two:∀(l1 l2:List Nat),os=l1++l2->(0-hf<=iB (l1.map g)/\iB (l1.map g)<=hf)/\(0-hf<=iB (l1.map g)+iB (l2.map g)/\iB (l1.map g)+iB (l2.map g)<=hf):=λl1 l2 e=>by rw[e,UE]at hw;have a:=DE _ 0 (by grind) h0 (Hr _ _ _ hw);have b:=DE _ 0 (by grind) h0 hw;rw[qD]at b;grind
 have neg:∀l:List Nat,iB (l.map λk=>- g k)=- iB (l.map g):=λl=>by rw[<- FP,UP];rfl
 cases os with
 | nil =>
  show(0:Rat)<=_;grind
 | cons k0 l =>
  obtain⟨p1,_⟩:=VT.mp hp;by_cases c:t<hi k0
  .
   obtain⟨l1,l2,e,a,b⟩:=DF lo t (k0::l) (hp.imp λh=>h.1)
   have hh:∀k∈k0::l,t<hi k:=λk hk=>by
    rcases Ue.mp hk with rfl|hk
    . exact c
    . have:=(p1 k hk).2.2;omega
   obtain⟨q1,q2⟩:=two l1 l2 e;rw[e]at hh;rw[e,UE,qD,iC (g:=g) (xs:=l1) λk hk=>if_pos ⟨a k hk,hh k (Uj _ hk)⟩,iC (g:=λk=>- g k) (xs:=l2) λk hk=>if_neg (by have:=b k hk;omega),neg];grind
  .
   obtain⟨l1,l2,e,a,b⟩:=DF hi t (k0::l) (hp.imp λh=>h.2.2)
   have hh:∀k∈k0::l,lo k<=t:=λk hk=>by
    rcases Ue.mp hk with rfl|hk
    . have:=hlh k TQ;omega
    . have:=(p1 k hk).2.1;omega
   obtain⟨q1,q2⟩:=two l1 l2 e;rw[e]at hh;rw[e,UE,qD,iC (g:=λk=>- g k) (xs:=l1) λk hk=>if_neg (by have:=a k hk;omega),iC (g:=g) (xs:=l2) λk hk=>if_pos ⟨hh k (Um _ hk),b k hk⟩,neg];grind
theorem DG{as bs:List Rat}(h:as.Perm bs):iB as=iB bs:=by
 induction h with
 |nil=>rfl
 |cons x _ ih=>rw[aV,aV,ih]
 |swap x y l=>rw[aV,aV,aV,aV];grind
 |trans _ _ a b=>rw[a,b]
theorem Ay{R:aO}{ps:List Rat}(h:ps.length=R.asks.length)(t:Nat):bH R.n R.asks ps t=iB ((List.range R.asks.length).map λk=>tG R.n (aR R k) (ps.getD k 0) t):=by
 unfold bH
 congr 1
 refine V7 (by simp[h]) λj h1 h2=>?_;have hj:j<R.asks.length:=by simpa using h2
 rw[List.getElem_map,VB,List.getElem_map,List.getElem_range,cw hj,bu xL]
theorem Az{R:aO}{qs:List Rat}{os:List Nat}(hc:Rj (Ri R) (Rl R qs)=none)(op:os.Perm (Rl R qs))(ow:os.Pairwise λi j=>Rp R i<=Rp R j) :
  os.Pairwise λi j=>pU (aR R i)<pU (aR R j)/\pU (aR R j)<fQ (aR R i)/\fQ (aR R i)<fQ (aR R j):=by
 have hn:os.Nodup:=op.nodup_iff.mpr ((ur R qs).imp λh=>Ut h);have cr:=Ap (ur R qs) hc;have ow2:os.Pairwise λi j=>Rp R i<=Rp R j/\i≠j:=List.Pairwise.and ow hn;refine List.Pairwise.imp_of_mem (λ{i j} hi hj h=>?_) ow2;obtain⟨h1,h2⟩:=h;rw[u5,u5]at h1
 have c:Ri R i j=true∨Ri R j i=true:=by
  rcases Nat.lt_or_gt_of_ne h2 with q|q
  . exact .inl (cr i j (op.mem_iff.mp hi) (op.mem_iff.mp hj) q)
  . exact .inr (cr j i (op.mem_iff.mp hj) (op.mem_iff.mp hi) q)
 unfold Ri MN at c;simp only[Bool.or_eq_true,Ua]at c;omega
theorem GA{R:aO}{qs xs:List Rat}{ws:List Bool}{os:List Nat}(hS:cU R qs)(hx:xs.length=R.asks.length)(hxk:∀k,k<R.asks.length->xs.getD k 0=if ws.getD k true then R.sz k else 0)
  (hc:Rj (Ri R) (Rl R qs)=none) (kw:(List.range R.asks.length).all (Rv R qs (Rl R qs) ws)=true) (op:os.Perm (Rl R qs)) (ow:os.Pairwise λi j=>Rp R i<=Rp R j) (wi:Rw (bP R (Rl R qs)) 0 (Rx R qs ws os)=true) {t:Nat} (ht:t<R.n) :
  bH R.n R.asks xs t<=bH R.n R.asks qs t+(bP R (Rl R qs)+bP R (Rl R qs)+bP R (Rl R qs)):=by
 have ql:=hS.len;have pw:=Az hc op ow;have hk:∀k∈os,k<R.asks.length:=λk m=>by have:=(gR (op.mem_iff.mp m)).1;omega
 have lh:∀k∈os,pU (aR R k)<fQ (aR R k):=λk m=>by have:=(hS.ok.ask _ (TV (hk k m))).ne;rw[cw (hk k m)];unfold pU fQ;omega
 have key:=Gz (g:=λk=>cF R qs k (ws.getD k true)) t os (DB R (Rl R qs)) lh pw wi
 have df:bH R.n R.asks xs t-bH R.n R.asks qs t=iB (os.map λk=>if pU (aR R k)<=t/\t<fQ (aR R k)then cF R qs k (ws.getD k true)else-cF R qs k (ws.getD k true)):=by
  rw[Ay hx,Ay ql,Am,DG (op.map _)];unfold Rl;rw[rE,ql];refine iC λk hk=>?_;have hk:=Uy.mp hk;have ha:=hS.ok.ask _ (TV hk);have oi:=uq ha ht;have lo:=hS.lo k xL;have sz:(aR R k).size=R.sz k:=by rw[cw hk,g9 hk]
  rw[<- cw hk]at oi;rw[hxk k hk];by_cases c:Rk R qs k=true
  .
   rw[if_pos c];unfold tG cF;rw[JV,sz];by_cases o:pU (aR R k)<=t/\t<fQ (aR R k)
   . rw[if_pos o];have e:=oi.mpr o;rw[VQ]at e;rw[e];cases Rg (aR R k)<;>cases ws.getD k true<;>simp<;>grind
   .
    rw[if_neg o];have e:qe R.n (aR R k) t=!Rg (aR R k):=by have:¬(qe R.n (aR R k) t == Rg (aR R k))=true:=λz=>o (oi.mp z);rw[VQ]at this;exact Bool.eq_not_of_ne this
    rw[e];cases Rg (aR R k)<;>cases ws.getD k true<;>simp<;>grind
  .
   rw[if_neg c];have q:=UW.mp kw k (Uy.mpr hk);unfold Rv at q;rw[Bool.or_eq_true,Bool.or_eq_true,Ua,Ua,Ua]at q;have np:k∉Rl R qs:=λm=>c (gR m).2
   have e:(if ws.getD k true then R.sz k else 0)=qs.getD k 0:=by
    unfold Rk at c;rw[Uc,Ua,Ua]at c;rcases q with(q|q)|q
    . exact absurd q np
    . rw[q];rw[q]at lo;split<;>grind
    .
     rw[q];by_cases z:qs.getD k 0=R.sz k
     . rw[if_pos (UI z),z]
     . rw[if_neg (by rw[Ul z];decide)];grind
   rw[e];grind
 rw[<- df]at key;grind
theorem DH{R:aO}{qs:List Rat}(hS:cU R qs){os:List Nat}(op:os.Perm (Rl R qs))(hf:Rat):(List.range R.asks.length).all (Rv R qs (Rl R qs) (Rt R qs hf 0 (Ru R qs) os))=true:=by
 rw[UW];intro k hk;have hk:=Uy.mp hk;have ql:=hS.len;unfold Rv;by_cases m:k∈Rl R qs
 . rw[UI m];rfl
 .
  rw[DD os _ _ λz=>m (op.mem_iff.mp z)];have e:(Ru R qs).getD k true=decide (qs.getD k 0=R.sz k):=by unfold Ru;rw[TX,Ui,TM (by rw[U7];omega),VB,g9 hk,bu xL];rfl
  rw[e,UI (rfl:decide (qs.getD k 0=R.sz k)=decide (qs.getD k 0=R.sz k)),Bool.or_true]
theorem DI{R:aO}{qs:List Rat}(hS:cU R qs):(Ru R qs).length=R.asks.length:=by have:=hS.len;unfold Ru;rw[TY,U7];omega
theorem DJ{R:aO}{qs:List Rat}(hS:cU R qs){os:List Nat}(op:os.Perm (Rl R qs)):Rw (bP R (Rl R qs)) 0 (Rx R qs (Rt R qs (bP R (Rl R qs)) 0 (Ru R qs) os) os)=true:=by have hn:os.Nodup:=op.nodup_iff.mpr ((ur R qs).imp λh=>Ut h);have h0:=DB R (Rl R qs);refine Mg os 0 _ hn (λk hk=>?_) (by grind) h0;have hk':=(gR (op.mem_iff.mp hk)).1;have lo:=hS.lo k hk';exact⟨by rw[DI hS,<- hS.len];exact hk',lo.1,lo.2,JW R _ (op.mem_iff.mp hk)⟩
theorem AA{f:Nat->Nat}:∀{as bs:List Nat},as.Pairwise (λi j=>f i<f j)->bs.Pairwise (λi j=>f i<=f j)->as.Perm bs->as=bs
 |[],bs,_,_,p=>(List.Perm.nil_eq p)
 |a::as,[],_,_,p=>absurd p.length_eq v6
 | a::as,b::bs,ha,hb,p=>by
  obtain⟨a1,a2⟩:=VT.mp ha;obtain⟨b1,b2⟩:=VT.mp hb
  have e:a=b:=by
   rcases Ue.mp (p.mem_iff.mp (TQ (a:=a) (l:=as)))with q|q
   . exact q
   .
    rcases Ue.mp (p.mem_iff.mpr (TQ (a:=b) (l:=bs)))with r|r
    . exact r.symm
    . have:=a1 b r;have:=b1 a q;omega
  subst e;rw[AA a2 b2 p.cons_inv]
theorem JY{R:aO}{qs:List Rat}{os os':List Nat}(hc:Rj (Ri R) (Rl R qs)=none)(op:os.Perm (Rl R qs))(ow:os.Pairwise λi j=>Rp R i<=Rp R j)(op':os'.Perm (Rl R qs))(ow':os'.Pairwise λi j=>Rp R i<=Rp R j):os=os':=by refine AA (f:=Rp R) ((Az hc op ow).imp λh=>?_) ow' (op.trans op'.symm);rw[u5,u5];exact h.1
end My
set_option exponentiation.threshold 1000
namespace Hd
open PySem PySem.W PyProof.Rows
noncomputable abbrev pr:Program:=PySem.Challenge.pw_ringloads_k38_whole_roundings_hold
noncomputable def top(i:Nat):Stmt:=pr.main.body.getD i (.Pass ⟨0,0,0,0⟩)
noncomputable def inCls(st:Stmt)(j:Nat):Stmt:=match st with
 |.ClassDef _ _ _ b ..=>b.getD j (.Pass ⟨0,0,0,0⟩)
 |_=>.Pass ⟨0,0,0,0⟩
noncomputable def DK(s:Stmt):Str:=match s with
 |.FunctionDef n ..=>n
 |_=>""
noncomputable def Mh(s:Stmt):Arguments:=match s with
 |.FunctionDef _ a _ _ _ _ _ _ _ _=>a
 |_=>{posonlyargs:=[],args:=[],vararg:=none,kwonlyargs:=[],kw_defaults:=[],kwarg:=none,defaults:=[] }
noncomputable def NB(s:Stmt):List Stmt:=match s with
 |.FunctionDef _ _ b _ _ _ _ _ _ _=>b
 |_=>[]
noncomputable def Mi(s:Stmt):Scope:=match s with
 |.FunctionDef _ _ _ _ _ _ sc _ _ _=>sc
 |_=>{kind:=.function,names:=[],isGenerator:=false,isCoroutine:=false}
noncomputable def Ob(s:Stmt):Pos:=match s with
 |.FunctionDef _ _ _ _ _ _ _ _ _ p=>p
 |_=>⟨0,0,0,0⟩
noncomputable def Hs (st:Stmt) (q:Str) (g:Addr) (md cd:Value):FuncData:={ name:=DK st,qualname:=q,params:=Mh st,body:=.stmts (NB st),scope:=Mi st,globals:=g,closure:=[],defaults:=.none,kwdefaults:=.none,doc:=.none,pyModule:=md,annotations:=none,code:=cd,closureTuple:=.none,builtins:=0 }
noncomputable def kh(P:Params)(x:Str):Int:=PySem.PyData.keyHash P x
noncomputable def Mj(vs:List Value):Obj:=⟨.type "tuple",none,.seq vs.toArray 0,#[]⟩
noncomputable def BE(vs:List Value):Obj:=⟨.none,none,.fields vs.toArray,#[]⟩
noncomputable def Oc:Nat->List Str->List Value
 |_,[]=>[]
 |t,x::r=>.str x t::Oc (t+1) r
noncomputable def Ml(st:Stmt)(a t:Nat)(v1 v2:Value)(tm u:Nat):Obj:=⟨.type "code",none,.fields #[.str (DK st) t,.str (DK st) (t+1),.str "/claim/cut.py" (t+2),.int (Ob st).line 0,.int (Mh st).args.length 0,.int 0 0,.int 0 0,.int 3 0,.ref a,.bool true,.int 181 0,.ref (a+1),.none,v1,v2,.ref tm,.int u 0,.int (Ob st).line 0,.str "/claim/cut.py" (u+1)],#[]⟩
noncomputable def Ry(st:Stmt)(md:Value)(cd:Nat):Obj:=⟨.type "function",none,.func (Hs st (DK st) 3 md (.ref cd)),#[]⟩
noncomputable def Rz(st:Stmt):Obj:=⟨.none,none,.func (Hs st (DK st) 0 .none .none),#[]⟩
noncomputable def bz(st:Stmt)(a t:Nat)(vs:List Str)(md:Value):List Obj:=[Mj [],BE [],Mj (Oc (t+3) vs),Mj [],Rz st,Ml st a t (.ref (a+2)) (.ref (a+3)) (a+4) (t+3+vs.length),Ry st md (a+5)]
noncomputable def yQ(st:Stmt)(a t:Nat)(md:Value):List Obj:=[Mj [],BE [],Rz st,Ml st a t .none .none (a+2) (t+3),Ry st md (a+3)]
noncomputable def xg (P:Params) (nm:Value) (es:List DictEntry) (n:Nat):Obj:=⟨.type "dict",none,.dict (([⟨kh P "__name__",.str "__name__" 165,nm⟩,⟨kh P "__doc__",.str "__doc__" 166,.none⟩,⟨kh P "__package__",.str "__package__" 167,.none⟩,⟨kh P "__loader__",.str "__loader__" 168,.builtin "__main__.__loader__#opaque"⟩,⟨kh P "__spec__",.str "__spec__" 169,.none⟩,⟨kh P "__annotations__",.str "__annotations__" 170,.ref 6⟩,⟨kh P "__builtins__",.str "__builtins__" 171,.ref 4⟩,⟨kh P "__file__",.str "__file__" 173,.str "/claim/cut.py" 172⟩,⟨kh P "__cached__",.str "__cached__" 174,.none⟩]:List DictEntry)++es).toArray n,#[]⟩
noncomputable def OO:Obj:=⟨.type "code",none,.fields #[.str "<module>" 182,.str "<module>" 183,.str "/claim/cut.py" 184,.int 1 0,.int 0 0,.int 0 0,.int 0 0,.int 0 0,.ref 11,.bool false,.int 181 0,.ref 12,.none,.none,.none,.none,.int 185 0,.int 1 0,.str "/claim/cut.py" 186],#[]⟩
noncomputable def OP:Obj:=⟨.type "frame",none,.plain,#[some (.ref 13),some (.ref 3),some (.ref 3),none,some (.str "__main__" 164),none,some (.ref 0)]⟩
noncomputable def JZ(P:Params):List Obj:=[boot_o_0 P,boot_o_1 P,boot_o_2 P,boot_o_3 P,boot_o_4 P,boot_o_5 P,boot_o_6 P,boot_o_7 P,boot_o_8 P,boot_o_9 P,boot_o_10 P,Mj [],BE [],OO,OP]
noncomputable def qg:Life:=⟨[],[],[],0,[],[],false,#[],[],0,false,false,false,0,[2000,10,10],false,0,true,[],[],0,false⟩
noncomputable def NC(l:List (Nat×Obj))(b:Nat):Option Obj:=@List.rec (Nat×Obj) (λ_=>Option Obj) none (λx _ ih=>bif Nat.beq x.1 b then some x.2 else ih) l
noncomputable def Mm(P:Params)(ob:Params->Nat->Obj)(b:Nat):Obj:=bif b.blt 15 then(JZ P).getD b default else ob P b
noncomputable def OQ(l:List Nat)(b:Nat):Bool:=@List.rec Nat (λ_=>Bool) false (λx _ ih=>@Bool.rec (λ_=>Bool) ih true (Nat.beq x b)) l
noncomputable def GB(ks:List Nat)(P:Params)(ov:List (Nat×Obj))(ob:Params->Nat->Obj)(b j:Nat):Obj:=@Bool.rec (λ_=>Obj) (Mm P ob b) ((NC ov b).getD default) (OQ ks b)
noncomputable def L0(n:Nat)(f:Nat->Obj)(a b j:Nat):BT:=.nil
noncomputable def L1(n:Nat)(f:Nat->Obj)(a b j:Nat):BT:=@Bool.rec (λ_=>BT) .nil (.node (f b) (L0 n f (2*a) (a+b) j) (L0 n f (2*a) (2*a+b) j)) (b.blt n)
noncomputable def L2(n:Nat)(f:Nat->Obj)(a b j:Nat):BT:=@Bool.rec (λ_=>BT) .nil (.node (f b) (L1 n f (2*a) (a+b) j) (L1 n f (2*a) (2*a+b) j)) (b.blt n)
noncomputable def L3(n:Nat)(f:Nat->Obj)(a b j:Nat):BT:=@Bool.rec (λ_=>BT) .nil (.node (f b) (L2 n f (2*a) (a+b) j) (L2 n f (2*a) (2*a+b) j)) (b.blt n)
noncomputable def L4(n:Nat)(f:Nat->Obj)(a b j:Nat):BT:=@Bool.rec (λ_=>BT) .nil (.node (f b) (L3 n f (2*a) (a+b) j) (L3 n f (2*a) (2*a+b) j)) (b.blt n)
noncomputable def L5(n:Nat)(f:Nat->Obj)(a b j:Nat):BT:=@Bool.rec (λ_=>BT) .nil (.node (f b) (L4 n f (2*a) (a+b) j) (L4 n f (2*a) (2*a+b) j)) (b.blt n)
noncomputable def L6(n:Nat)(f:Nat->Obj)(a b j:Nat):BT:=@Bool.rec (λ_=>BT) .nil (.node (f b) (L5 n f (2*a) (a+b) j) (L5 n f (2*a) (2*a+b) j)) (b.blt n)
noncomputable def L7(n:Nat)(f:Nat->Obj)(a b j:Nat):BT:=@Bool.rec (λ_=>BT) .nil (.node (f b) (L6 n f (2*a) (a+b) j) (L6 n f (2*a) (2*a+b) j)) (b.blt n)
noncomputable def L8(n:Nat)(f:Nat->Obj)(a b j:Nat):BT:=@Bool.rec (λ_=>BT) .nil (.node (f b) (L7 n f (2*a) (a+b) j) (L7 n f (2*a) (2*a+b) j)) (b.blt n)
noncomputable def L9(n:Nat)(f:Nat->Obj)(a b j:Nat):BT:=@Bool.rec (λ_=>BT) .nil (.node (f b) (L8 n f (2*a) (a+b) j) (L8 n f (2*a) (2*a+b) j)) (b.blt n)
noncomputable def RA(n:Nat)(f:Nat->Obj)(a b j:Nat):BT:=@Bool.rec (λ_=>BT) .nil (.node (f b) (L9 n f (2*a) (a+b) j) (L9 n f (2*a) (2*a+b) j)) (b.blt n)
noncomputable def RC(n:Nat)(f:Nat->Obj)(a b j:Nat):BT:=@Bool.rec (λ_=>BT) .nil (.node (f b) (RA n f (2*a) (a+b) j) (RA n f (2*a) (2*a+b) j)) (b.blt n)
noncomputable def RD(n:Nat)(f:Nat->Obj)(a b j:Nat):BT:=@Bool.rec (λ_=>BT) .nil (.node (f b) (RC n f (2*a) (a+b) j) (RC n f (2*a) (2*a+b) j)) (b.blt n)
theorem pV{p:Program}{w:World}{m:Nat}{ann:Option Value}{b n:Nat}{s:SharedT}{t:Thread}{r:Option (Flow×SharedT×Code×Pos)}(h:Fast.tw10110043849684766642 Fast.tw14364793385576792824 p w m ann b n s t=r):segRunT treeTable p w m ann b n s t=r:=by rw[Fast.te10110043849684766642,VG];exact h
theorem Mn{p:Program}{w:World}{m:Nat}{ann:Option Value}{n:Nat}{s:Shared}{t:Thread}{r:Option Shared}(h:Fast.tw14082659384304107361 Fast.tw14364793385576792824 p w m ann n s t=r):topRun treeTable p w m ann n s t=r:=by rw[Fast.te14082659384304107361,VG];exact h
theorem Mo:denote treeTable=Fast.tw11892475500146522536 Fast.tw14364793385576792824:=by rw[<- Fast.te11892475500146522536,<- VG]
theorem ND{p:Program}{w:World}{m:Nat}{ann:Option Value}{n:Nat}{s:Shared}{t:Thread}{r:Option (Shared×Thread)}(h:Fast.tw15667345088766844465 Fast.tw14364793385576792824 p w m ann n s t=r):topGo treeTable p w m ann n s t=r:=by rw[Fast.te15667345088766844465,VG];exact h
theorem J1{b b':List Stmt}(e:b=b'){tb:String->Option Builtin}{p:Program}{w:World}{m:Nat}{ann:Option Value}{n:Nat}{s:Shared}{env:Env}{c:Code}{ps:Pos}{B:List Frame}{r:Option Shared}(h:topRun tb p w m ann n s (restOf b' env c ps B)=r):topRun tb p w m ann n s (restOf b env c ps B)=r:=by rw[e];exact h
noncomputable def f1(P:Params):List Obj:=bz (top 1) 15 189 ["one","other","rest"] (.str "ringloads.divisors" 187)
noncomputable def f3(P:Params):List Obj:=[(Obj.mk (.type "tuple") none (.seq #[(.type "ValueError")] 0) #[]),
 (Obj.mk (.type "builtin_function_or_method") none (.fields #[(.builtin "type.__prepare__"),(.type "type")]) #[]),
 (Obj.mk (.type "dict") none (.dict #[(DictEntry.mk (kh P "__module__") (.str "__module__" 207) (.str "ringloads.errors" 198)),(DictEntry.mk (kh P "__qualname__") (.str "__qualname__" 209) (.str "LoadError" 208)),(DictEntry.mk (kh P "__firstlineno__") (.str "__firstlineno__" 211) (.int 9 210)),(DictEntry.mk (kh P "__init__") (.str "__init__" 219) (.ref 35)),(DictEntry.mk (kh P "__static_attributes__") (.str "__static_attributes__" 220) (.ref 36))] 5) #[]),
 (Obj.mk (.type "tuple") none (.seq #[] 0) #[]),
 (Obj.mk .none none (.fields #[(.int 11 0),(.int 4 0),(.ref 34)]) #[]),
 (Obj.mk (.type "code") none (.fields #[(.str "LoadError" 202),(.str "LoadError" 203),(.str "/claim/cut.py" 204),(.int 9 0),(.int 0 0),(.int 0 0),(.int 0 0),(.int 0 0),(.ref 25),(.bool false),(.int 181 0),(.ref 26),.none,.none,.none,.none,(.int 205 0),(.int 9 0),(.str "/claim/cut.py" 206)]) #[]),
 (Obj.mk (.type "frame") none .plain #[(some (.ref 27)),(some (.ref 3)),(some (.ref 24)),none,(some (.str "ringloads.errors" 198)),none,(some (.ref 0))]),
 (Obj.mk (.type "tuple") none (.seq #[] 0) #[]),
 (Obj.mk .none none (.fields #[]) #[]),
 (Obj.mk (.type "tuple") none (.seq #[(.str "self" 215),(.str "text" 216)] 0) #[]),
 (Obj.mk (.type "tuple") none (.seq #[] 0) #[]),
 (Obj.mk .none none (.func (Hs (inCls (top 3) 0) "LoadError.__init__" 0 .none .none)) #[]),
 (Obj.mk (.type "code") none (.fields #[(.str "__init__" 212),(.str "LoadError.__init__" 213),(.str "/claim/cut.py" 214),(.int 11 0),(.int 2 0),(.int 0 0),(.int 0 0),(.int 3 0),(.ref 29),(.bool true),(.int 181 0),(.ref 30),.none,(.ref 31),(.ref 32),(.ref 33),(.int 217 0),(.int 11 0),(.str "/claim/cut.py" 218)]) #[]),
 (Obj.mk (.type "function") none (.func (Hs (inCls (top 3) 0) "LoadError.__init__" 3 (.str "ringloads.errors" 198) (.ref 34))) #[]),
 (Obj.mk (.type "tuple") none (.seq #[] 0) #[]),
 (Obj.mk (.type "dict") none (.dict #[(DictEntry.mk (kh P "__module__") (.str "__module__" 207) (.str "ringloads.errors" 198)),(DictEntry.mk (kh P "__firstlineno__") (.str "__firstlineno__" 211) (.int 9 210)),(DictEntry.mk (kh P "__init__") (.str "__init__" 219) (.ref 35)),(DictEntry.mk (kh P "__static_attributes__") (.str "__static_attributes__" 220) (.ref 36)),(DictEntry.mk (kh P "__weakref__") (.str "__weakref__" 222) (.ref 39)),(DictEntry.mk (kh P "__doc__") (.str "__doc__" 223) .none)] 3) #[]),
 (Obj.mk (.type "type") none (.cls (PySem.ClassData.mk "LoadError" [(.type "ValueError")] [(.ref 38),(.type "ValueError"),(.type "Exception"),(.type "BaseException"),(.type "object")] 37 "LoadError" true [] [(.ref 58)] false none false)) #[(some (.ref 22)),none,(some (.str "LoadError" 200)),(some (.str "LoadError" 208)),(some (.builtin "ValueError.__new__")),(some (.bool true))]),
 (Obj.mk (.type "getset_descriptor") none (.fields #[(.str "__weakref__" 221),(.ref 38),(.builtin "ExceptionGroup.__weakref__"),.none]) #[]),
 (Obj.mk (.type "super") none (.fields #[(.ref 38),(.ref 38),(.ref 38)]) #[]),
 (Obj.mk (.type "builtin_function_or_method") none (.fields #[(.builtin "object.__init_subclass__"),(.ref 38)]) #[])]
noncomputable def f4(P:Params):List Obj:=[(Obj.mk (.type "tuple") none (.seq #[(.ref 38)] 0) #[]),
 (Obj.mk (.type "builtin_function_or_method") none (.fields #[(.builtin "type.__prepare__"),(.type "type")]) #[]),
 (Obj.mk (.type "dict") none (.dict #[(DictEntry.mk (kh P "__module__") (.str "__module__" 233) (.str "ringloads.errors" 198)),(DictEntry.mk (kh P "__qualname__") (.str "__qualname__" 235) (.str "NoSlide" 234)),(DictEntry.mk (kh P "__firstlineno__") (.str "__firstlineno__" 237) (.int 13 236)),(DictEntry.mk (kh P "__init__") (.str "__init__" 245) (.ref 55)),(DictEntry.mk (kh P "__static_attributes__") (.str "__static_attributes__" 247) (.ref 56))] 5) #[]),
 (Obj.mk (.type "tuple") none (.seq #[] 0) #[]),
 (Obj.mk .none none (.fields #[(.int 15 0),(.int 4 0),(.ref 54)]) #[]),
 (Obj.mk (.type "code") none (.fields #[(.str "NoSlide" 228),(.str "NoSlide" 229),(.str "/claim/cut.py" 230),(.int 13 0),(.int 0 0),(.int 0 0),(.int 0 0),(.int 0 0),(.ref 45),(.bool false),(.int 181 0),(.ref 46),.none,.none,.none,.none,(.int 231 0),(.int 13 0),(.str "/claim/cut.py" 232)]) #[]),
 (Obj.mk (.type "frame") none .plain #[(some (.ref 47)),(some (.ref 3)),(some (.ref 44)),none,(some (.str "ringloads.errors" 198)),none,(some (.ref 0))]),
 (Obj.mk (.type "tuple") none (.seq #[] 0) #[]),
 (Obj.mk .none none (.fields #[]) #[]),
 (Obj.mk (.type "tuple") none (.seq #[(.str "self" 241),(.str "number" 242)] 0) #[]),
 (Obj.mk (.type "tuple") none (.seq #[] 0) #[]),
 (Obj.mk .none none (.func (Hs (inCls (top 4) 0) "NoSlide.__init__" 0 .none .none)) #[]),
 (Obj.mk (.type "code") none (.fields #[(.str "__init__" 238),(.str "NoSlide.__init__" 239),(.str "/claim/cut.py" 240),(.int 15 0),(.int 2 0),(.int 0 0),(.int 0 0),(.int 3 0),(.ref 49),(.bool true),(.int 181 0),(.ref 50),.none,(.ref 51),(.ref 52),(.ref 53),(.int 243 0),(.int 15 0),(.str "/claim/cut.py" 244)]) #[]),
 (Obj.mk (.type "function") none (.func (Hs (inCls (top 4) 0) "NoSlide.__init__" 3 (.str "ringloads.errors" 198) (.ref 54))) #[]),
 (Obj.mk (.type "tuple") none (.seq #[(.str "number" 246)] 0) #[]),
 (Obj.mk (.type "dict") none (.dict #[(DictEntry.mk (kh P "__module__") (.str "__module__" 233) (.str "ringloads.errors" 198)),(DictEntry.mk (kh P "__firstlineno__") (.str "__firstlineno__" 237) (.int 13 236)),(DictEntry.mk (kh P "__init__") (.str "__init__" 245) (.ref 55)),(DictEntry.mk (kh P "__static_attributes__") (.str "__static_attributes__" 247) (.ref 56)),(DictEntry.mk (kh P "__doc__") (.str "__doc__" 248) .none)] 2) #[]),
 (Obj.mk (.type "type") none (.cls (PySem.ClassData.mk "NoSlide" [(.ref 38)] [(.ref 58),(.ref 38),(.type "ValueError"),(.type "Exception"),(.type "BaseException"),(.type "object")] 57 "NoSlide" true [] [] false none false)) #[(some (.ref 42)),none,(some (.str "NoSlide" 226)),(some (.str "NoSlide" 234)),(some (.builtin "ValueError.__new__")),(some (.bool true))]),
 (Obj.mk (.type "super") none (.fields #[(.ref 58),(.ref 58),(.ref 58)]) #[]),
 (Obj.mk (.type "builtin_function_or_method") none (.fields #[(.builtin "object.__init_subclass__"),(.ref 58)]) #[])]
noncomputable def f6(P:Params):List Obj:=bz (top 6) 61 253 ["thing"] (.str "ringloads.names" 251)
noncomputable def f7(P:Params):List Obj:=bz (top 7) 68 260 ["thing","many"] (.str "ringloads.names" 251)
noncomputable def f8(P:Params):List Obj:=bz (top 8) 75 268 ["thing"] (.str "ringloads.names" 251)
noncomputable def f9(P:Params):List Obj:=bz (top 9) 82 275 ["thing"] (.str "ringloads.names" 251)
noncomputable def RE(P:Params):List Obj:=[(Obj.mk (.type "tuple") none (.seq #[(.int 0 284),(.int 1 285)] 0) #[])]
noncomputable def RF(P:Params):List Obj:=bz (top 12) 90 287 ["top","bottom","shared"] (.str "ringloads.ratios" 282)
noncomputable def RG(P:Params):List Obj:=bz (top 13) 97 296 ["one","other"] (.str "ringloads.ratios" 282)
noncomputable def RH(P:Params):List Obj:=bz (top 14) 104 304 ["one","other"] (.str "ringloads.ratios" 282)
noncomputable def RI(P:Params):List Obj:=bz (top 15) 111 312 ["one","other"] (.str "ringloads.ratios" 282)
noncomputable def RJ(P:Params):List Obj:=bz (top 16) 118 320 ["one","other"] (.str "ringloads.ratios" 282)
noncomputable def RK(P:Params):List Obj:=bz (top 17) 125 328 ["one","other"] (.str "ringloads.ratios" 282)
noncomputable def RL(P:Params):List Obj:=bz (top 18) 132 336 ["one","other"] (.str "ringloads.ratios" 282)
noncomputable def RM(P:Params):List Obj:=bz (top 20) 139 346 ["ring","k"] (.str "ringloads.crossing" 344)
noncomputable def RN(P:Params):List Obj:=bz (top 21) 146 354 ["ring","k"] (.str "ringloads.crossing" 344)
noncomputable def RO(P:Params):List Obj:=bz (top 22) 153 362 ["ring","k","l","low","high","first","last"] (.str "ringloads.crossing" 344)
noncomputable def RP(P:Params):List Obj:=yQ (top 23) 160 375 (.str "ringloads.crossing" 344)
noncomputable def RQ(P:Params):List Obj:=bz (top 24) 165 381 ["ring","some","number","k","l"] (.str "ringloads.crossing" 344)
noncomputable def RR(P:Params):List Obj:=bz (top 28) 172 398 ["thing"] (.str "ringloads.ways" 392)
noncomputable def RS(P:Params):List Obj:=bz (top 29) 179 405 ["way"] (.str "ringloads.ways" 392)
noncomputable def RT(P:Params):List Obj:=yQ (top 30) 186 412 (.str "ringloads.ways" 392)
noncomputable def RU(P:Params):List Obj:=yQ (top 32) 191 420 (.str "ringloads.sendings" 418)
noncomputable def RV(P:Params):List Obj:=bz (top 34) 196 428 ["ring","sending","thing","slid","number","slide"] (.str "ringloads.slides" 426)
noncomputable def RW(P:Params):List Obj:=bz (top 35) 203 440 ["ring","sending","thing"] (.str "ringloads.slides" 426)
noncomputable def RX(P:Params):List Obj:=bz (top 36) 210 449 ["thing","asks"] (.str "ringloads.slides" 426)
noncomputable def RY(P:Params):List Obj:=yQ (top 37) 217 457 (.str "ringloads.slides" 426)
noncomputable def RZ(P:Params):List Obj:=bz (top 38) 222 463 ["ring","sending","k","way"] (.str "ringloads.slides" 426)
noncomputable def R0(P:Params):List Obj:=bz (top 39) 229 473 ["ring","sending","slide"] (.str "ringloads.slides" 426)
noncomputable def R1(P:Params):List Obj:=bz (top 40) 236 482 ["sending","slide","slid"] (.str "ringloads.slides" 426)
noncomputable def R3(P:Params):List Obj:=bz (top 41) 243 491 ["part","way","amount"] (.str "ringloads.slides" 426)
noncomputable def R4(P:Params):List Obj:=bz (top 42) 250 500 ["ring","sending","slid","slides","pair","slide"] (.str "ringloads.slides" 426)
noncomputable def R5(P:Params):List Obj:=bz (top 43) 257 512 ["ring","sending","k","l","ways","slide"] (.str "ringloads.slides" 426)
noncomputable def R6(P:Params):List Obj:=bz (top 44) 264 524 ["ring","k","l","ways"] (.str "ringloads.slides" 426)
noncomputable def R7(P:Params):List Obj:=[(Obj.mk (.type "tuple") none (.seq #[(.int 1 536),(.int 2 537)] 0) #[])]
noncomputable def R8(P:Params):List Obj:=bz (top 47) 272 539 ["ring","sending","thing","slid","parted"] (.str "ringloads.rounding" 534)
noncomputable def R9(P:Params):List Obj:=bz (top 48) 279 550 ["ring","slid","parted","ways","k","ask"] (.str "ringloads.rounding" 534)
noncomputable def Sb(P:Params):List Obj:=bz (top 49) 286 562 ["ask","part"] (.str "ringloads.rounding" 534)
noncomputable def Sd(P:Params):List Obj:=bz (top 50) 293 570 ["ring","slid","parted","ways","half","whole","k"] (.str "ringloads.rounding" 534)
noncomputable def Se(P:Params):List Obj:=bz (top 51) 300 583 ["ring","some","greatest","k"] (.str "ringloads.rounding" 534)
noncomputable def Sf(P:Params):List Obj:=[(Obj.mk (.type "tuple") none (.seq #[] 0) #[]),
 (Obj.mk .none none (.fields #[]) #[]),
 (Obj.mk (.type "tuple") none (.seq #[(.str "ring" 596),(.str "some" 597)] 0) #[]),
 (Obj.mk (.type "tuple") none (.seq #[(.str "ring" 598)] 0) #[]),
 (Obj.mk .none none (.func (Hs (top 52) "by_lesser_place" 0 .none .none)) #[]),
 (Obj.mk (.type "code") none (.fields #[(.str "by_lesser_place" 593),(.str "by_lesser_place" 594),(.str "/claim/cut.py" 595),(.int 172 0),(.int 2 0),(.int 0 0),(.int 0 0),(.int 3 0),(.ref 307),(.bool true),(.int 181 0),(.ref 308),.none,(.ref 309),(.ref 310),(.ref 311),(.int 599 0),(.int 172 0),(.str "/claim/cut.py" 600)]) #[]),
 (Obj.mk (.type "function") none (.func (Hs (top 52) "by_lesser_place" 3 (.str "ringloads.rounding" 534) (.ref 312))) #[])]
noncomputable def Sg(P:Params):List Obj:=bz (top 53) 314 602 ["ring","k"] (.str "ringloads.rounding" 534)
noncomputable def Sh(P:Params):List Obj:=bz (top 54) 321 610 ["ring","sending","k","way","size","rising"] (.str "ringloads.rounding" 534)
noncomputable def Si(P:Params):List Obj:=bz (top 55) 328 622 ["ring","sending","slides"] (.str "ringloads.rounding" 534)
noncomputable def Sj(P:Params):List Obj:=yQ (top 56) 335 631 (.str "ringloads.rounding" 534)
noncomputable def Sl(P:Params):List Obj:=bz (top 58) 340 639 ["_law_script","_law_k","_law_cell"] (.str "law_ringloads_k38_whole_roundings_hold" 637)
noncomputable def Sm(P:Params):List Obj:=bz (top 59) 347 648 ["_law_state","_law_many","_law_digit","_law_drawn_here","_law_turn"] (.str "law_ringloads_k38_whole_roundings_hold" 637)
noncomputable def Sn(P:Params):List Obj:=bz (top 60) 354 659 ["_law_top","_law_bottom","_law_one","_law_share"] (.str "law_ringloads_k38_whole_roundings_hold" 637)
noncomputable def So(P:Params):List Obj:=bz (top 61) 361 669 ["_law_state","_law_least","_law_kind","_law_bottom","_law_top"] (.str "law_ringloads_k38_whole_roundings_hold" 637)
noncomputable def Sq(P:Params):List Obj:=yQ (top 62) 368 680 (.str "law_ringloads_k38_whole_roundings_hold" 637)
noncomputable def Sr(P:Params):List Obj:=bz (top 63) 373 686 ["_law_state","_law_ties_here","_law_kind","_law_alike","_law_one","_law_rooms_here","_law_more"] (.str "law_ringloads_k38_whole_roundings_hold" 637)
noncomputable def Ss(P:Params):List Obj:=bz (top 64) 380 699 ["_law_state","_law_shape","_law_places","_law_k","_law_one","_law_other"] (.str "law_ringloads_k38_whole_roundings_hold" 637)
noncomputable def Su(P:Params):List Obj:=bz (top 65) 387 711 ["_law_script","_law_at","_law_most","_law_count","_law_state","_law_places","_law_many","_law_kinds","_law_shape","_law_names_here","_law_rooms_here","_law_asks","_law_k","_law_one","_law_other"] (.str "law_ringloads_k38_whole_roundings_hold" 637)
noncomputable def Sv(P:Params):List Obj:=bz (top 66) 394 732 ["_law_state","_law_ring_here","_law_parts_here","_law_name","_law_one","_law_other","_law_size","_law_way","_law_share"] (.str "law_ringloads_k38_whole_roundings_hold" 637)
noncomputable def Sw(P:Params):List Obj:=bz (top 67) 401 747 ["_law_one","_law_other"] (.str "law_ringloads_k38_whole_roundings_hold" 637)
noncomputable def Sx(P:Params):List Obj:=bz (top 68) 408 755 ["_law_one","_law_other"] (.str "law_ringloads_k38_whole_roundings_hold" 637)
noncomputable def Sy(P:Params):List Obj:=bz (top 69) 415 763 ["_law_one","_law_other"] (.str "law_ringloads_k38_whole_roundings_hold" 637)
noncomputable def Sz(P:Params):List Obj:=bz (top 70) 422 771 ["_law_ring_here","_law_k","_law_way","_law_name","_law_one","_law_other","_law_size","_law_ties_here"] (.str "law_ringloads_k38_whole_roundings_hold" 637)
noncomputable def SA(P:Params):List Obj:=bz (top 71) 429 785 ["_law_ring_here","_law_sending","_law_loads_here","_law_k","_law_part","_law_way","_law_gone_here","_law_tie"] (.str "law_ringloads_k38_whole_roundings_hold" 637)
noncomputable def SB(P:Params):List Obj:=bz (top 72) 436 799 ["_law_ring_here","_law_sending","_law_found","_law_k","_law_part"] (.str "law_ringloads_k38_whole_roundings_hold" 637)
noncomputable def SC(P:Params):List Obj:=bz (top 73) 443 810 ["_law_ring_here","_law_sending","_law_k","_law_way"] (.str "law_ringloads_k38_whole_roundings_hold" 637)
noncomputable def SD(P:Params):List Obj:=bz (top 74) 450 820 ["_law_state","_law_ring_here","_law_sending","_law_many","_law_k","_law_l","_law_way","_law_other","_law_first","_law_second","_law_most","_law_share"] (.str "law_ringloads_k38_whole_roundings_hold" 637)
noncomputable def SE(P:Params):List Obj:=bz (top 75) 457 838 ["_law_ring_here","_law_some","_law_found","_law_k"] (.str "law_ringloads_k38_whole_roundings_hold" 637)
noncomputable def SG(P:Params):List Obj:=bz (top 76) 464 848 ["_law_ring_here","_law_sending","_law_thing","_law_found"] (.str "law_ringloads_k38_whole_roundings_hold" 637)
noncomputable def SH(P:Params):List Obj:=bz (top 77) 471 858 ["_law_state","_law_ring_here","_law_sending","_law_here","_law_slides","_law_turn","_law_one","_law_behind"] (.str "law_ringloads_k38_whole_roundings_hold" 637)
noncomputable def SI(P:Params):List Obj:=bz (top 78) 478 872 ["_law_state","_law_ring_here","_law_behind","_law_parted_here","_law_ways","_law_k","_law_part","_law_way"] (.str "law_ringloads_k38_whole_roundings_hold" 637)
noncomputable def SJ(P:Params):List Obj:=yQ (top 79) 485 886 (.str "law_ringloads_k38_whole_roundings_hold" 637)
noncomputable def SK(P:Params):List Obj:=bz (top 80) 490 892 ["_law_script","_law_ring_here","_law_sending","_law_loads_here","_law_slides","_law_ways","_law_k","_law_state","_law_behind","_law_turn"] (.str "law_ringloads_k38_whole_roundings_hold" 637)
noncomputable def NF(P:Params)(b:Nat):Obj:=(bif b.blt 68 then(bif b.blt 42 then(bif b.blt 22 then(f1 P).getD (b-15) default else(f3 P).getD (b-22) default)else(bif b.blt 61 then(f4 P).getD (b-42) default else(f6 P).getD (b-61) default))else(bif b.blt 82 then(bif b.blt 75 then(f7 P).getD (b-68) default else(f8 P).getD (b-75) default)else(bif b.blt 89 then(f9 P).getD (b-82) default else(RE P).getD (b-89) default)))
noncomputable def NG(P:Params)(b:Nat):Obj:=(bif b.blt 118 then(bif b.blt 104 then(bif b.blt 97 then(RF P).getD (b-90) default else(RG P).getD (b-97) default)else(bif b.blt 111 then(RH P).getD (b-104) default else(RI P).getD (b-111) default))else(bif b.blt 132 then(bif b.blt 125 then(RJ P).getD (b-118) default else(RK P).getD (b-125) default)else(bif b.blt 139 then(RL P).getD (b-132) default else(bif b.blt 146 then(RM P).getD (b-139) default else(RN P).getD (b-146) default))))
noncomputable def OR(P:Params)(b:Nat):Obj:=bif b.blt 90 then NF P b else NG P b
noncomputable def NH(P:Params)(b:Nat):Obj:=(bif b.blt 179 then(bif b.blt 165 then(bif b.blt 160 then(RO P).getD (b-153) default else(RP P).getD (b-160) default)else(bif b.blt 172 then(RQ P).getD (b-165) default else(RR P).getD (b-172) default))else(bif b.blt 191 then(bif b.blt 186 then(RS P).getD (b-179) default else(RT P).getD (b-186) default)else(bif b.blt 196 then(RU P).getD (b-191) default else(RV P).getD (b-196) default)))
noncomputable def NI(P:Params)(b:Nat):Obj:=(bif b.blt 229 then(bif b.blt 217 then(bif b.blt 210 then(RW P).getD (b-203) default else(RX P).getD (b-210) default)else(bif b.blt 222 then(RY P).getD (b-217) default else(RZ P).getD (b-222) default))else(bif b.blt 243 then(bif b.blt 236 then(R0 P).getD (b-229) default else(R1 P).getD (b-236) default)else(bif b.blt 250 then(R3 P).getD (b-243) default else(bif b.blt 257 then(R4 P).getD (b-250) default else(R5 P).getD (b-257) default))))
noncomputable def OS(P:Params)(b:Nat):Obj:=bif b.blt 203 then NH P b else NI P b
noncomputable def SL(P:Params)(b:Nat):Obj:=bif b.blt 153 then OR P b else OS P b
noncomputable def NJ(P:Params)(b:Nat):Obj:=(bif b.blt 286 then(bif b.blt 272 then(bif b.blt 271 then(R6 P).getD (b-264) default else(R7 P).getD (b-271) default)else(bif b.blt 279 then(R8 P).getD (b-272) default else(R9 P).getD (b-279) default))else(bif b.blt 300 then(bif b.blt 293 then(Sb P).getD (b-286) default else(Sd P).getD (b-293) default)else(bif b.blt 307 then(Se P).getD (b-300) default else(Sf P).getD (b-307) default)))
noncomputable def NK(P:Params)(b:Nat):Obj:=(bif b.blt 340 then(bif b.blt 328 then(bif b.blt 321 then(Sg P).getD (b-314) default else(Sh P).getD (b-321) default)else(bif b.blt 335 then(Si P).getD (b-328) default else(Sj P).getD (b-335) default))else(bif b.blt 354 then(bif b.blt 347 then(Sl P).getD (b-340) default else(Sm P).getD (b-347) default)else(bif b.blt 361 then(Sn P).getD (b-354) default else(bif b.blt 368 then(So P).getD (b-361) default else(Sq P).getD (b-368) default))))
noncomputable def OT(P:Params)(b:Nat):Obj:=bif b.blt 314 then NJ P b else NK P b
noncomputable def NL(P:Params)(b:Nat):Obj:=(bif b.blt 401 then(bif b.blt 387 then(bif b.blt 380 then(Sr P).getD (b-373) default else(Ss P).getD (b-380) default)else(bif b.blt 394 then(Su P).getD (b-387) default else(Sv P).getD (b-394) default))else(bif b.blt 415 then(bif b.blt 408 then(Sw P).getD (b-401) default else(Sx P).getD (b-408) default)else(bif b.blt 422 then(Sy P).getD (b-415) default else(bif b.blt 429 then(Sz P).getD (b-422) default else(SA P).getD (b-429) default))))
noncomputable def NM(P:Params)(b:Nat):Obj:=(bif b.blt 464 then(bif b.blt 450 then(bif b.blt 443 then(SB P).getD (b-436) default else(SC P).getD (b-443) default)else(bif b.blt 457 then(SD P).getD (b-450) default else(SE P).getD (b-457) default))else(bif b.blt 478 then(bif b.blt 471 then(SG P).getD (b-464) default else(SH P).getD (b-471) default)else(bif b.blt 485 then(SI P).getD (b-478) default else(bif b.blt 490 then(SJ P).getD (b-485) default else(SK P).getD (b-490) default))))
noncomputable def OU(P:Params)(b:Nat):Obj:=bif b.blt 436 then NL P b else NM P b
noncomputable def SN(P:Params)(b:Nat):Obj:=bif b.blt 373 then OT P b else OU P b
noncomputable def ob(P:Params)(b:Nat):Obj:=bif b.blt 264 then SL P b else SN P b
noncomputable def Ht(P:Params):List DictEntry:=[(DictEntry.mk (kh P "greatest_shared") (.str "greatest_shared" 197) (.ref 21)),
 (DictEntry.mk (kh P "LoadError") (.str "LoadError" 225) (.ref 38)),
 (DictEntry.mk (kh P "NoSlide") (.str "NoSlide" 250) (.ref 58)),
 (DictEntry.mk (kh P "is_whole") (.str "is_whole" 259) (.ref 67)),
 (DictEntry.mk (kh P "is_number_below") (.str "is_number_below" 267) (.ref 74)),
 (DictEntry.mk (kh P "are_two_wholes") (.str "are_two_wholes" 274) (.ref 81)),
 (DictEntry.mk (kh P "is_ratio") (.str "is_ratio" 281) (.ref 88)),
 (DictEntry.mk (kh P "NOUGHT") (.str "NOUGHT" 286) (.ref 89)),
 (DictEntry.mk (kh P "lowest") (.str "lowest" 295) (.ref 96)),
 (DictEntry.mk (kh P "plus") (.str "plus" 303) (.ref 103)),
 (DictEntry.mk (kh P "minus") (.str "minus" 311) (.ref 110)),
 (DictEntry.mk (kh P "times") (.str "times" 319) (.ref 117)),
 (DictEntry.mk (kh P "under") (.str "under" 327) (.ref 124)),
 (DictEntry.mk (kh P "greater") (.str "greater" 335) (.ref 131)),
 (DictEntry.mk (kh P "lesser") (.str "lesser" 343) (.ref 138)),
 (DictEntry.mk (kh P "lesser_place") (.str "lesser_place" 353) (.ref 145)),
 (DictEntry.mk (kh P "greater_place") (.str "greater_place" 361) (.ref 152)),
 (DictEntry.mk (kh P "do_cross") (.str "do_cross" 374) (.ref 159)),
 (DictEntry.mk (kh P "parted_in") (.str "parted_in" 380) (.ref 164)),
 (DictEntry.mk (kh P "first_side_by_side") (.str "first_side_by_side" 391) (.ref 171)),
 (DictEntry.mk (kh P "ON") (.str "ON" 395) (.str "on" 394)),
 (DictEntry.mk (kh P "BACK") (.str "BACK" 397) (.str "back" 396)),
 (DictEntry.mk (kh P "is_way") (.str "is_way" 404) (.ref 178)),
 (DictEntry.mk (kh P "other_way") (.str "other_way" 411) (.ref 185)),
 (DictEntry.mk (kh P "ties_of") (.str "ties_of" 417) (.ref 190)),
 (DictEntry.mk (kh P "are_ways") (.str "are_ways" 425) (.ref 195)),
 (DictEntry.mk (kh P "slid_by") (.str "slid_by" 439) (.ref 202)),
 (DictEntry.mk (kh P "is_slide") (.str "is_slide" 448) (.ref 209)),
 (DictEntry.mk (kh P "has_form_of_slide") (.str "has_form_of_slide" 456) (.ref 216)),
 (DictEntry.mk (kh P "share_no_tie") (.str "share_no_tie" 462) (.ref 221)),
 (DictEntry.mk (kh P "not_sent") (.str "not_sent" 472) (.ref 228)),
 (DictEntry.mk (kh P "most_slid") (.str "most_slid" 481) (.ref 235)),
 (DictEntry.mk (kh P "slid_once") (.str "slid_once" 490) (.ref 242)),
 (DictEntry.mk (kh P "part_behind") (.str "part_behind" 499) (.ref 249)),
 (DictEntry.mk (kh P "slides_for") (.str "slides_for" 511) (.ref 256)),
 (DictEntry.mk (kh P "greatest_slide") (.str "greatest_slide" 523) (.ref 263)),
 (DictEntry.mk (kh P "ways_apart") (.str "ways_apart" 533) (.ref 270)),
 (DictEntry.mk (kh P "HALF") (.str "HALF" 538) (.ref 271)),
 (DictEntry.mk (kh P "lets_rounding") (.str "lets_rounding" 549) (.ref 278)),
 (DictEntry.mk (kh P "keeps_whole_asks") (.str "keeps_whole_asks" 561) (.ref 285)),
 (DictEntry.mk (kh P "nearest_way") (.str "nearest_way" 569) (.ref 292)),
 (DictEntry.mk (kh P "keeps_within") (.str "keeps_within" 582) (.ref 299)),
 (DictEntry.mk (kh P "half_of_greatest") (.str "half_of_greatest" 592) (.ref 306)),
 (DictEntry.mk (kh P "by_lesser_place") (.str "by_lesser_place" 601) (.ref 313)),
 (DictEntry.mk (kh P "rising_way") (.str "rising_way" 609) (.ref 320)),
 (DictEntry.mk (kh P "gain_of") (.str "gain_of" 621) (.ref 327)),
 (DictEntry.mk (kh P "rounding_of") (.str "rounding_of" 630) (.ref 334)),
 (DictEntry.mk (kh P "rounded_ways") (.str "rounded_ways" 636) (.ref 339)),
 (DictEntry.mk (kh P "_law_begun") (.str "_law_begun" 647) (.ref 346)),
 (DictEntry.mk (kh P "_law_take") (.str "_law_take" 658) (.ref 353)),
 (DictEntry.mk (kh P "_law_low") (.str "_law_low" 668) (.ref 360)),
 (DictEntry.mk (kh P "_law_amount") (.str "_law_amount" 679) (.ref 367)),
 (DictEntry.mk (kh P "_law_names") (.str "_law_names" 685) (.ref 372)),
 (DictEntry.mk (kh P "_law_rooms") (.str "_law_rooms" 698) (.ref 379)),
 (DictEntry.mk (kh P "_law_ends") (.str "_law_ends" 710) (.ref 386)),
 (DictEntry.mk (kh P "_law_ring") (.str "_law_ring" 731) (.ref 393)),
 (DictEntry.mk (kh P "_law_parts") (.str "_law_parts" 746) (.ref 400)),
 (DictEntry.mk (kh P "_law_plus") (.str "_law_plus" 754) (.ref 407)),
 (DictEntry.mk (kh P "_law_minus") (.str "_law_minus" 762) (.ref 414)),
 (DictEntry.mk (kh P "_law_under") (.str "_law_under" 770) (.ref 421)),
 (DictEntry.mk (kh P "_law_ties") (.str "_law_ties" 784) (.ref 428)),
 (DictEntry.mk (kh P "_law_loads") (.str "_law_loads" 798) (.ref 435)),
 (DictEntry.mk (kh P "_law_parted") (.str "_law_parted" 809) (.ref 442)),
 (DictEntry.mk (kh P "_law_gone") (.str "_law_gone" 819) (.ref 449)),
 (DictEntry.mk (kh P "_law_drawn") (.str "_law_drawn" 837) (.ref 456)),
 (DictEntry.mk (kh P "_law_greatest") (.str "_law_greatest" 847) (.ref 463)),
 (DictEntry.mk (kh P "_law_let_by") (.str "_law_let_by" 857) (.ref 470)),
 (DictEntry.mk (kh P "_law_some_slides") (.str "_law_some_slides" 871) (.ref 477)),
 (DictEntry.mk (kh P "_law_some_ways") (.str "_law_some_ways" 885) (.ref 484)),
 (DictEntry.mk (kh P "_law_holds") (.str "_law_holds" 891) (.ref 489)),
 (DictEntry.mk (kh P "law") (.str "law" 907) (.ref 496))]
noncomputable def SO:List Value:=[(.int 2 0),(.int 0 0),(.ref 20),(.int 9 0),(.int 0 0),(.ref 27),(.int 13 0),(.int 0 0),(.ref 47),(.int 19 0),(.int 0 0),(.ref 66),(.int 21 0),(.int 0 0),(.ref 73),(.int 23 0),(.int 0 0),(.ref 80),(.int 25 0),(.int 0 0),(.ref 87),(.int 29 0),(.int 0 0),(.ref 95),(.int 34 0),(.int 0 0),(.ref 102),(.int 36 0),(.int 0 0),(.ref 109),(.int 38 0),(.int 0 0),(.ref 116),(.int 40 0),(.int 0 0),(.ref 123),(.int 42 0),(.int 0 0),(.ref 130),(.int 44 0),(.int 0 0),(.ref 137),(.int 47 0),(.int 0 0),(.ref 144),(.int 49 0),(.int 0 0),(.ref 151),(.int 51 0),(.int 0 0),(.ref 158),(.int 57 0),(.int 0 0),(.ref 163),(.int 59 0),(.int 0 0),(.ref 170),(.int 68 0),(.int 0 0),(.ref 177),(.int 70 0),(.int 0 0),(.ref 184),(.int 72 0),(.int 0 0),(.ref 189),(.int 80 0),(.int 0 0),(.ref 194),(.int 85 0),(.int 0 0),(.ref 201),(.int 94 0),(.int 0 0),(.ref 208),(.int 100 0),(.int 0 0),(.ref 215),(.int 106 0),(.int 0 0),(.ref 220),(.int 109 0),(.int 0 0),(.ref 227),(.int 111 0),(.int 0 0),(.ref 234),(.int 113 0),(.int 0 0),(.ref 241),(.int 118 0),(.int 0 0),(.ref 248),(.int 120 0),(.int 0 0),(.ref 255),(.int 130 0),(.int 0 0),(.ref 262),(.int 134 0),(.int 0 0),(.ref 269),(.int 141 0),(.int 0 0),(.ref 277),(.int 152 0),(.int 0 0),(.ref 284),(.int 157 0),(.int 0 0),(.ref 291),(.int 159 0),(.int 0 0),(.ref 298),(.int 167 0),(.int 0 0),(.ref 305),(.int 172 0),(.int 0 0),(.ref 312),(.int 174 0),(.int 0 0),(.ref 319),(.int 176 0),(.int 0 0),(.ref 326),(.int 180 0),(.int 0 0),(.ref 333),(.int 183 0),(.int 0 0),(.ref 338),(.int 195 0),(.int 0 0),(.ref 345),(.int 200 0),(.int 0 0),(.ref 352),(.int 211 0),(.int 0 0),(.ref 359),(.int 219 0),(.int 0 0),(.ref 366),(.int 223 0),(.int 0 0),(.ref 371),(.int 229 0),(.int 0 0),(.ref 378),(.int 239 0),(.int 0 0),(.ref 385),(.int 249 0),(.int 0 0),(.ref 392),(.int 263 0),(.int 0 0),(.ref 399),(.int 270 0),(.int 0 0),(.ref 406),(.int 272 0),(.int 0 0),(.ref 413),(.int 274 0),(.int 0 0),(.ref 420),(.int 276 0),(.int 0 0),(.ref 427),(.int 285 0),(.int 0 0),(.ref 434),(.int 292 0),(.int 0 0),(.ref 441),(.int 298 0),(.int 0 0),(.ref 448),(.int 302 0),(.int 0 0),(.ref 455),(.int 313 0),(.int 0 0),(.ref 462),(.int 319 0),(.int 0 0),(.ref 469),(.int 326 0),(.int 0 0),(.ref 476),(.int 337 0),(.int 0 0),(.ref 483),(.int 346 0),(.int 0 0),(.ref 488),(.int 353 0),(.int 0 0),(.ref 495)]
noncomputable def SQ(P:Params):List (Nat×Obj):=[(12,BE (SO.take 0))]
noncomputable def T0(P:Params):BT:=RD 15 (λb=>GB [12] P (SQ P) ob b 0) 1 0 0
noncomputable abbrev S0(w:World)(os:OsState):SharedT:=⟨T0 w.params,15,qg,#[],⟨0,0,0,0⟩,187,os⟩
noncomputable def SR(P:Params):List (Nat×Obj):=[(3,xg P (.str "ringloads.errors" 198) ((Ht P).take 2) 11),(12,BE (SO.take 6)),(38,(Obj.mk (.type "type") none (.cls (PySem.ClassData.mk "LoadError" [(.type "ValueError")] [(.ref 38),(.type "ValueError"),(.type "Exception"),(.type "BaseException"),(.type "object")] 37 "LoadError" true [] [] false none false)) #[(some (.ref 22)),none,(some (.str "LoadError" 200)),(some (.str "LoadError" 208)),(some (.builtin "ValueError.__new__")),(some (.bool true))]))]
noncomputable def T1(P:Params):BT:=RD 42 (λb=>GB [3,12,38] P (SR P) ob b 1) 1 0 1
noncomputable abbrev S1(w:World)(os:OsState):SharedT:=⟨T1 w.params,42,qg,#[],⟨0,0,0,0⟩,226,os⟩
noncomputable def SS(P:Params):List (Nat×Obj):=[(3,xg P (.str "ringloads.ratios" 282) ((Ht P).take 8) 17),(12,BE (SO.take 21))]
noncomputable def T2(P:Params):BT:=RD 90 (λb=>GB [3,12] P (SS P) ob b 2) 1 0 2
noncomputable abbrev S2(w:World)(os:OsState):SharedT:=⟨T2 w.params,90,qg,#[],⟨0,0,0,0⟩,287,os⟩
noncomputable def SU(P:Params):List (Nat×Obj):=[(3,xg P (.str "ringloads.ways" 392) ((Ht P).take 21) 30),(12,BE (SO.take 57))]
noncomputable def T3(P:Params):BT:=RD 172 (λb=>GB [3,12] P (SU P) ob b 3) 1 0 3
noncomputable abbrev S3(w:World)(os:OsState):SharedT:=⟨T3 w.params,172,qg,#[],⟨0,0,0,0⟩,396,os⟩
noncomputable def SV(P:Params):List (Nat×Obj):=[(3,xg P (.str "ringloads.slides" 426) ((Ht P).take 34) 43),(12,BE (SO.take 93))]
noncomputable def T4(P:Params):BT:=RD 250 (λb=>GB [3,12] P (SV P) ob b 4) 1 0 4
noncomputable abbrev S4(w:World)(os:OsState):SharedT:=⟨T4 w.params,250,qg,#[],⟨0,0,0,0⟩,500,os⟩
noncomputable def SW(P:Params):List (Nat×Obj):=[(3,xg P (.str "ringloads.rounding" 534) ((Ht P).take 46) 55),(12,BE (SO.take 126))]
noncomputable def T5(P:Params):BT:=RD 328 (λb=>GB [3,12] P (SW P) ob b 5) 1 0 5
noncomputable abbrev S5(w:World)(os:OsState):SharedT:=⟨T5 w.params,328,qg,#[],⟨0,0,0,0⟩,622,os⟩
noncomputable def SX(P:Params):List (Nat×Obj):=[(3,xg P (.str "law_ringloads_k38_whole_roundings_hold" 637) ((Ht P).take 58) 67),(12,BE (SO.take 162))]
noncomputable def T6(P:Params):BT:=RD 408 (λb=>GB [3,12] P (SX P) ob b 6) 1 0 6
noncomputable abbrev S6(w:World)(os:OsState):SharedT:=⟨T6 w.params,408,qg,#[],⟨0,0,0,0⟩,755,os⟩
noncomputable def SY(P:Params):List (Nat×Obj):=[(3,xg P (.str "law_ringloads_k38_whole_roundings_hold" 637) ((Ht P).take 70) 79),(12,BE (SO.take 198))]
noncomputable def T7(P:Params):BT:=RD 490 (λb=>GB [3,12] P (SY P) ob b 7) 1 0 7
noncomputable abbrev S7(w:World)(os:OsState):SharedT:=⟨T7 w.params,490,qg,#[],⟨0,0,0,0⟩,892,os⟩
noncomputable def SZ(P:Params):List (Nat×Obj):=[(3,xg P (.str "law_ringloads_k38_whole_roundings_hold" 637) ((Ht P).take 71) 80),(12,BE (SO.take 201))]
noncomputable def T8(P:Params):BT:=RD 497 (λb=>GB [3,12] P (SZ P) ob b 8) 1 0 8
noncomputable abbrev S8(w:World)(os:OsState):SharedT:=⟨T8 w.params,497,qg,#[],⟨0,0,0,0⟩,908,os⟩
noncomputable abbrev env:Env:={scope:=pr.main.scope,locals:=mainNs,globals:=mainNs,cells:=[],code:=.ref 13,frame:=some 14}
noncomputable abbrev cE:Code:=.body (behindTheImports pr) env
noncomputable abbrev B:List Frame:=[topFrame ⟨0,0,0,0⟩]
noncomputable def Od:List Stmt:=(pr.main.body.drop 0).take 4
theorem S9(w:World)(os:OsState):segRunT treeTable pr w 11 (some (.ref 6)) 1 267 (S0 w os) (piecesOf Od env cE ⟨0,0,0,0⟩ B)=some (.next,S1 w os,cE,⟨9,0,12,39⟩):=pV z_
noncomputable def Oe:List Stmt:=(pr.main.body.drop 4).take 8
theorem Ta(w:World)(os:OsState):segRunT treeTable pr w 11 (some (.ref 6)) 1 393 (S1 w os) (piecesOf Oe env cE ⟨9,0,12,39⟩ B)=some (.next,S2 w os,cE,⟨28,0,28,6⟩):=pV z_
noncomputable def Of:List Stmt:=(pr.main.body.drop 12).take 15
theorem Tb(w:World)(os:OsState):segRunT treeTable pr w 11 (some (.ref 6)) 1 393 (S2 w os) (piecesOf Of env cE ⟨28,0,28,6⟩ B)=some (.next,S3 w os,cE,⟨66,0,66,2⟩):=pV z_
noncomputable def Og:List Stmt:=(pr.main.body.drop 27).take 15
theorem Tc(w:World)(os:OsState):segRunT treeTable pr w 11 (some (.ref 6)) 1 384 (S3 w os) (piecesOf Og env cE ⟨66,0,66,2⟩ B)=some (.next,S4 w os,cE,⟨118,0,119,67⟩):=pV z_
noncomputable def Oh:List Stmt:=(pr.main.body.drop 42).take 13
theorem Td(w:World)(os:OsState):segRunT treeTable pr w 11 (some (.ref 6)) 1 381 (S4 w os) (piecesOf Oh env cE ⟨118,0,119,67⟩ B)=some (.next,S5 w os,cE,⟨176,0,179,72⟩):=pV z_
noncomputable def Oi:List Stmt:=(pr.main.body.drop 55).take 13
theorem Te(w:World)(os:OsState):segRunT treeTable pr w 11 (some (.ref 6)) 1 401 (S5 w os) (piecesOf Oi env cE ⟨176,0,179,72⟩ B)=some (.next,S6 w os,cE,⟨270,0,271,107⟩):=pV z_
noncomputable def Oj:List Stmt:=(pr.main.body.drop 68).take 12
theorem Tf(w:World)(os:OsState):segRunT treeTable pr w 11 (some (.ref 6)) 1 400 (S6 w os) (piecesOf Oj env cE ⟨270,0,271,107⟩ B)=some (.next,S7 w os,cE,⟨346,0,352,15⟩):=pV z_
noncomputable def Ol:List Stmt:=(pr.main.body.drop 80).take 1
theorem Th(w:World)(os:OsState):segRunT treeTable pr w 11 (some (.ref 6)) 1 39 (S7 w os) (piecesOf Ol env cE ⟨346,0,352,15⟩ B)=some (.next,S8 w os,cE,⟨353,0,370,15⟩):=pV z_
noncomputable abbrev H1(P:Params):Heap:=absHeap (T8 P) 497 qg
theorem pre(w:World)(os:OsState):topGo treeTable pr w 11 (some (.ref 6)) 12 ⟨boot_heap w.params,#[],boot_drawn,boot_toks,os⟩ (topStub pr)=some (⟨⟨⟨JZ w.params⟩,qg⟩,#[],⟨0,0,0,0⟩,187,os⟩,⟨denote treeTable cE,cE,⟨0,0,0,0⟩,B⟩):=by rw[Mo];exact ND z_
theorem Hy(w:World)(os:OsState):segRun treeTable pr w 11 (some (.ref 6)) 1 1 ⟨⟨⟨JZ w.params⟩,qg⟩,#[],⟨0,0,0,0⟩,187,os⟩ (blockOf (behindTheImports pr) env cE ⟨0,0,0,0⟩ B)=some (.next,(S0 w os).abs,cE,⟨0,0,0,0⟩):=by kernel_rfl
theorem Pb(w:World)(os:OsState):topRun treeTable pr w 11 (some (.ref 6)) 2 (S8 w os).abs ⟨doneF .next,cE,⟨353,0,370,15⟩,B⟩=some ⟨H1 w.params,#[],⟨0,0,0,0⟩,908,os⟩:=Mn z_
theorem J2:behindTheImports pr=(Od++(Oe++(Of++(Og++(Oh++(Oi++(Oj++(Ol++[])))))))):=by kernel_rfl
theorem run(w:World)(os:OsState):topRun treeTable pr w 11 (some (.ref 6)) (12+(1+(267+(393+(393+(384+(381+(401+(400+(39+2)))))))))) ⟨boot_heap w.params,#[],boot_drawn,boot_toks,os⟩ (topStub pr)=some ⟨H1 w.params,#[],⟨0,0,0,0⟩,908,os⟩ :=
 go_top (pre w os) (piece_block (Hy w os) (J1 J2 (piece_app (segRun_of (S9 w os)) (piece_app (segRun_of (Ta w os)) (piece_app (segRun_of (Tb w os)) (piece_app (segRun_of (Tc w os)) (piece_app (segRun_of (Td w os)) (piece_app (segRun_of (Te w os)) (piece_app (segRun_of (Tf w os)) (piece_app (segRun_of (Th w os)) (piece_nil (Pb w os))))))))))))
noncomputable abbrev q:Program:=view pr [52,80]
noncomputable def loose:List Str:=(["greatest_shared","LoadError","NoSlide","is_whole","is_number_below","are_two_wholes","is_ratio","NOUGHT","lowest","plus","minus","times","under","greater","lesser","lesser_place","greater_place","do_cross","parted_in","first_side_by_side","ON","BACK","is_way","other_way","ties_of","are_ways","slid_by","is_slide","has_form_of_slide","share_no_tie","not_sent","most_slid","slid_once","part_behind","slides_for","greatest_slide","ways_apart","HALF","lets_rounding","keeps_whole_asks","nearest_way","keeps_within","half_of_greatest","rising_way","gain_of","rounding_of","rounded_ways","_law_begun","_law_take","_law_low","_law_amount","_law_names","_law_rooms","_law_ends","_law_ring","_law_parts","_law_plus","_law_minus","_law_under","_law_ties","_law_loads","_law_parted","_law_gone","_law_drawn","_law_greatest","_law_let_by","_law_some_slides","_law_some_ways","_law_holds"]:List String).map Str.ofString
noncomputable def Kf(P:Params):Frag:=(3,((SZ P).getD 0 (0,default)).2)::[(2,boot_o_2 P),(20,(f1 P).getD 5 default),(21,(f1 P).getD 6 default),(22,(f3 P).getD 0 default),(23,(f3 P).getD 1 default),(24,(f3 P).getD 2 default),(25,(f3 P).getD 3 default),(26,(f3 P).getD 4 default),(27,(f3 P).getD 5 default),(28,(f3 P).getD 6 default),(29,(f3 P).getD 7 default),(30,(f3 P).getD 8 default),(31,(f3 P).getD 9 default),(32,(f3 P).getD 10 default),(33,(f3 P).getD 11 default),(34,(f3 P).getD 12 default),(35,(f3 P).getD 13 default),(36,(f3 P).getD 14 default),(37,(f3 P).getD 15 default),(38,(f3 P).getD 16 default),(39,(f3 P).getD 17 default),(40,(f3 P).getD 18 default),(41,(f3 P).getD 19 default),(42,(f4 P).getD 0 default),(43,(f4 P).getD 1 default),(44,(f4 P).getD 2 default),(45,(f4 P).getD 3 default),(46,(f4 P).getD 4 default),(47,(f4 P).getD 5 default),(48,(f4 P).getD 6 default),(49,(f4 P).getD 7 default),(50,(f4 P).getD 8 default),(51,(f4 P).getD 9 default),(52,(f4 P).getD 10 default),(53,(f4 P).getD 11 default),(54,(f4 P).getD 12 default),(55,(f4 P).getD 13 default),(56,(f4 P).getD 14 default),(57,(f4 P).getD 15 default),(58,(f4 P).getD 16 default),(59,(f4 P).getD 17 default),(60,(f4 P).getD 18 default),(66,(f6 P).getD 5 default),(67,(f6 P).getD 6 default),(73,(f7 P).getD 5 default),(74,(f7 P).getD 6 default),(80,(f8 P).getD 5 default),(81,(f8 P).getD 6 default),(87,(f9 P).getD 5 default),(88,(f9 P).getD 6 default),(89,(RE P).getD 0 default),(95,(RF P).getD 5 default),(96,(RF P).getD 6 default),(102,(RG P).getD 5 default),(103,(RG P).getD 6 default),(109,(RH P).getD 5 default),(110,(RH P).getD 6 default),(116,(RI P).getD 5 default),(117,(RI P).getD 6 default),(123,(RJ P).getD 5 default),(124,(RJ P).getD 6 default),(130,(RK P).getD 5 default),(131,(RK P).getD 6 default),(137,(RL P).getD 5 default),(138,(RL P).getD 6 default),(144,(RM P).getD 5 default),(145,(RM P).getD 6 default),(151,(RN P).getD 5 default),(152,(RN P).getD 6 default),(158,(RO P).getD 5 default),(159,(RO P).getD 6 default),(163,(RP P).getD 3 default),(164,(RP P).getD 4 default),(170,(RQ P).getD 5 default),(171,(RQ P).getD 6 default),(177,(RR P).getD 5 default),(178,(RR P).getD 6 default),(184,(RS P).getD 5 default),(185,(RS P).getD 6 default),(189,(RT P).getD 3 default),(190,(RT P).getD 4 default),(194,(RU P).getD 3 default),(195,(RU P).getD 4 default),(201,(RV P).getD 5 default),(202,(RV P).getD 6 default),(208,(RW P).getD 5 default),(209,(RW P).getD 6 default),(215,(RX P).getD 5 default),(216,(RX P).getD 6 default),(220,(RY P).getD 3 default),(221,(RY P).getD 4 default),(227,(RZ P).getD 5 default),(228,(RZ P).getD 6 default),(234,(R0 P).getD 5 default),(235,(R0 P).getD 6 default),(241,(R1 P).getD 5 default),(242,(R1 P).getD 6 default),(248,(R3 P).getD 5 default),(249,(R3 P).getD 6 default),(255,(R4 P).getD 5 default),(256,(R4 P).getD 6 default),(262,(R5 P).getD 5 default),(263,(R5 P).getD 6 default),(269,(R6 P).getD 5 default),(270,(R6 P).getD 6 default),(271,(R7 P).getD 0 default),(277,(R8 P).getD 5 default),(278,(R8 P).getD 6 default),(284,(R9 P).getD 5 default),(285,(R9 P).getD 6 default),(291,(Sb P).getD 5 default),(292,(Sb P).getD 6 default),(298,(Sd P).getD 5 default),(299,(Sd P).getD 6 default),(305,(Se P).getD 5 default),(306,(Se P).getD 6 default),(312,(Sf P).getD 5 default),(313,(Sf P).getD 6 default),(319,(Sg P).getD 5 default),(320,(Sg P).getD 6 default),(326,(Sh P).getD 5 default),(327,(Sh P).getD 6 default),(333,(Si P).getD 5 default),(334,(Si P).getD 6 default),(338,(Sj P).getD 3 default),(339,(Sj P).getD 4 default),(345,(Sl P).getD 5 default),(346,(Sl P).getD 6 default),(352,(Sm P).getD 5 default),(353,(Sm P).getD 6 default),(359,(Sn P).getD 5 default),(360,(Sn P).getD 6 default),(366,(So P).getD 5 default),(367,(So P).getD 6 default),(371,(Sq P).getD 3 default),(372,(Sq P).getD 4 default),(378,(Sr P).getD 5 default),(379,(Sr P).getD 6 default),(385,(Ss P).getD 5 default),(386,(Ss P).getD 6 default),(392,(Su P).getD 5 default),(393,(Su P).getD 6 default),(399,(Sv P).getD 5 default),(400,(Sv P).getD 6 default),(406,(Sw P).getD 5 default),(407,(Sw P).getD 6 default),(413,(Sx P).getD 5 default),(414,(Sx P).getD 6 default),(420,(Sy P).getD 5 default),(421,(Sy P).getD 6 default),(427,(Sz P).getD 5 default),(428,(Sz P).getD 6 default),(434,(SA P).getD 5 default),(435,(SA P).getD 6 default),(441,(SB P).getD 5 default),(442,(SB P).getD 6 default),(448,(SC P).getD 5 default),(449,(SC P).getD 6 default),(455,(SD P).getD 5 default),(456,(SD P).getD 6 default),(462,(SE P).getD 5 default),(463,(SE P).getD 6 default),(469,(SG P).getD 5 default),(470,(SG P).getD 6 default),(476,(SH P).getD 5 default),(477,(SH P).getD 6 default),(483,(SI P).getD 5 default),(484,(SI P).getD 6 default),(488,(SJ P).getD 3 default),(489,(SJ P).getD 4 default),(495,(SK P).getD 5 default),(496,(SK P).getD 6 default)]
noncomputable abbrev as:List Addr:=[3,2,20,21,22,23,24,25,26,27,28,29,30,31,32,33,34,35,36,37,38,39,40,41,42,43,44,45,46,47,48,49,50,51,52,53,54,55,56,57,58,59,60,66,67,73,74,80,81,87,88,89,95,96,102,103,109,110,116,117,123,124,130,131,137,138,144,145,151,152,158,159,163,164,170,171,177,178,184,185,189,190,194,195,201,202,208,209,215,216,220,221,227,228,234,235,241,242,248,249,255,256,262,263,269,270,271,277,278,284,285,291,292,298,299,305,306,312,313,319,320,326,327,333,334,338,339,345,346,352,353,359,360,366,367,371,372,378,379,385,386,392,393,399,400,406,407,413,414,420,421,427,428,434,435,441,442,448,449,455,456,462,463,469,470,476,477,483,484,488,489,495,496]
noncomputable abbrev Hk:Hook:=kHook Kf as (λ_=>by kernel_rfl)
noncomputable abbrev Xt:Shared→Bool:=fun s=>xlAt q [] s && recOk (RowW.records PySem.Challenge.rw_ringloads_k38_whole_roundings_hold.row.toRowW) s
theorem size (w:World):((boot_heap w.params).isNs mainGlobals && (#[]:Array GenState).size == 0,(boot_heap w.params).objs.size,(boot_heap w.params).nsMap mainGlobals "__annotations__")=(true,11,some (.ref 6)):=by kernel_rfl
theorem NN(w:World)(os:OsState):(staticsOk (importedModules pr.main.body) (boot_heap w.params) (H1 w.params) && namesBound pr (H1 w.params) && gensDone ⟨H1 w.params,#[],⟨0,0,0,0⟩,908,os⟩ && laidKept (boot_heap w.params) (H1 w.params))=true:=by kernel_rfl
theorem NO(w:World)(os:OsState):openSeen q loose (importedModules pr.main.body) Xt true ⟨H1 w.params,#[],⟨0,0,0,0⟩,908,os⟩=openGood q loose:=by rw[Fast.te4187177175401517315];kernel_rfl
theorem NP(w:World)(os:OsState):Hk.obs ⟨H1 w.params,#[],⟨0,0,0,0⟩,908,os⟩=Hk.val w:=by kernel_rfl
theorem Mp:opening pr=plainProg pr.main.scope.names:=by kernel_rfl
theorem left:LeftO pr q loose Xt Hk.obs Hk.val 6000:=LeftO.of_pieces (M:=(12+(1+(267+(393+(393+(384+(381+(401+(400+(39+2))))))))))) (boot_open Mp x_ (λs=>by kernel_rfl)) size run y_ (λw=>funext λos=>looks_pair (NN w os) (looks_pair (NO w os) (NP w os)))
end Hd
namespace My
open PySem L2
local macro_rules | `(tactic| walk_at "w")=>do
 let ids:=("CW MM LG uM Qu Ko ug rm wL QM Bd QL FH Jh FI Fq CF KW EV Ie KY EW Ig Fj K9 IF IS Jq FN Lh Nc IV Li Nd IX Nh Jo KQ KR EU B9 yt Lg Fp IQ CB Bb Ft Ng uN pS aQ Qa aT ax P9 ao jL wC bq bN sT ck aG bE br ar jE aF P2 Fb oN AX nB oM vO Ii P7 nq M3 Cb Cd bp fm yl sY Iy En Fu Qu uM eu Fs IR CD List.all_cons List.all_nil Bool.and_true Bool.true_and A5 MH Cq qT sU Ik AZ tj MJ Kn IM zS yA yB Bg bJ nM C4 FZ iO cV zU jQ bF sV fO A1 vP M5 Il K2 sW BC EX FR FT FU FV FW Jr Js Jt Ju LS LU Jx Jy Nv Nw C9 Da JA G8 zR He Ab Dd C2 Ac ui dJ LV FY List.length_map C3 C5 C6 C7 F4 Bh C8 yC yD yE wU yF uS F5 yG A2 A4 A3 wo uc qa F6 JB F7 F8 Ga Gb Bi wW wX Dc JC M7 qX yn beq_self_eq_true String.reduceBEq String.reduceEq reduceCtorEq Lf A6 oR cT iA bI A8 Cu A9 q5 IK La List.getElem?_cons_zero List.getElem?_cons_succ List.set_cons_zero List.set_cons_succ List.cons_append List.nil_append List.replicate_succ List.replicate_zero List.map_cons List.map_nil List.drop_succ_cons List.drop_zero Option.getD_some true_and decide_eq_true_eq Bool.not_eq_true' decide_eq_false_iff_not ite_true ite_false Bool.false_eq_true Bool.true_eq_false if_true if_false List.length_cons List.length_nil Nat.reduceAdd Nat.reduceSub uR tE FO LQ Nr OF OG OH Option.some.injEq exists_eq_left' exists_eq_left".splitOn " ").toArray.map fun s=>Lean.mkIdent ((s.splitOn ".").foldl Lean.Name.mkStr Lean.Name.anonymous)
 `(tactic| try simp only [$[$ids:ident],*])
local macro_rules | `(tactic| walk_at "o")=>`(tactic| first | exact Or.inl rfl | exact Or.inr rfl)
theorem v4{a b:Prop}(h:a∨b:=by walk_at "o"):a∨b:=h
noncomputable abbrev eA:Stmt:=Hd.top 1
noncomputable abbrev oZ:List Str:=["one","other","rest"]
noncomputable abbrev o4:Stmt:=Hd.top 6
noncomputable abbrev Bo:List Str:=["thing"]
noncomputable abbrev eB:Stmt:=Hd.top 7
noncomputable abbrev o5:List Str:=["thing","many"]
noncomputable abbrev fA:Stmt:=Hd.top 8
noncomputable abbrev qh:List Str:=["thing"]
noncomputable abbrev o6:Stmt:=Hd.top 9
noncomputable abbrev Bp:List Str:=["thing"]
noncomputable abbrev u7:Stmt:=Hd.top 12
noncomputable abbrev GC:List Str:=["top","bottom","shared"]
noncomputable abbrev DL:Stmt:=Hd.top 13
noncomputable abbrev Mq:List Str:=["one","other"]
noncomputable abbrev yR:Stmt:=Hd.top 14
noncomputable abbrev J3:List Str:=["one","other"]
noncomputable abbrev yS:Stmt:=Hd.top 15
noncomputable abbrev J4:List Str:=["one","other"]
noncomputable abbrev yT:Stmt:=Hd.top 16
noncomputable abbrev J5:List Str:=["one","other"]
noncomputable abbrev rK:Stmt:=Hd.top 17
noncomputable abbrev DM:List Str:=["one","other"]
noncomputable abbrev u9:Stmt:=Hd.top 18
noncomputable abbrev GD:List Str:=["one","other"]
noncomputable abbrev hG:Stmt:=Hd.top 20
noncomputable abbrev tJ:List Str:=["ring","k"]
noncomputable abbrev gn:Stmt:=Hd.top 21
noncomputable abbrev rL:List Str:=["ring","k"]
noncomputable abbrev o7:Stmt:=Hd.top 22
noncomputable abbrev Bq:List Str:=["ring","k","l","low","high","first","last"]
noncomputable abbrev iS:Stmt:=Hd.top 23
noncomputable abbrev rM:List Str:=["ring","sending"]
noncomputable abbrev cY:Stmt:=Hd.top 24
noncomputable abbrev lg:List Str:=["ring","some","number","k","l"]
noncomputable abbrev va:Stmt:=Hd.top 28
noncomputable abbrev GE:List Str:=["thing"]
noncomputable abbrev mv:Stmt:=Hd.top 29
noncomputable abbrev yU:List Str:=["way"]
noncomputable abbrev jX:Stmt:=Hd.top 30
noncomputable abbrev rN:List Str:=["ring","k","way","places","one","other"]
noncomputable abbrev kY:Stmt:=Hd.top 32
noncomputable abbrev uv:List Str:=["ring","thing"]
noncomputable abbrev iT:Stmt:=Hd.top 41
noncomputable abbrev vb:List Str:=["part","way","amount"]
noncomputable abbrev mw:Stmt:=Hd.top 40
noncomputable abbrev yV:List Str:=["sending","slide","slid"]
noncomputable abbrev eO:Stmt:=Hd.top 37
noncomputable abbrev lD:List Str:=["ring","k","way","l","other","taken"]
noncomputable abbrev dA:Stmt:=Hd.top 36
noncomputable abbrev mx:List Str:=["thing","asks"]
noncomputable abbrev o8:Stmt:=Hd.top 38
noncomputable abbrev Br:List Str:=["ring","sending","k","way"]
noncomputable abbrev my:Stmt:=Hd.top 39
noncomputable abbrev yW:List Str:=["ring","sending","slide"]
noncomputable abbrev o9:Stmt:=Hd.top 35
noncomputable abbrev Bs:List Str:=["ring","sending","thing"]
noncomputable abbrev rO:Stmt:=Hd.top 34
noncomputable abbrev DN:List Str:=["ring","sending","thing","slid","number","slide"]
noncomputable abbrev jY:Stmt:=Hd.top 44
noncomputable abbrev xh:List Str:=["ring","k","l","ways"]
noncomputable abbrev fB:Stmt:=Hd.top 43
noncomputable abbrev qj:List Str:=["ring","sending","k","l","ways","slide"]
noncomputable abbrev jZ:Stmt:=Hd.top 42
noncomputable abbrev xi:List Str:=["ring","sending","slid","slides","pair","slide"]
noncomputable abbrev iU:Stmt:=Hd.top 49
noncomputable abbrev vc:List Str:=["ask","part"]
noncomputable abbrev dN:Stmt:=Hd.top 48
noncomputable abbrev nS:List Str:=["ring","slid","parted","ways","k","ask"]
noncomputable abbrev dO:Stmt:=Hd.top 51
noncomputable abbrev nT:List Str:=["ring","some","greatest","k"]
noncomputable abbrev cO:Stmt:=Hd.top 52
noncomputable abbrev pd:List Str:=["ring","some"]
noncomputable abbrev j3:Stmt:=Hd.top 53
noncomputable abbrev xj:List Str:=["ring","k"]
noncomputable abbrev rP:Stmt:=Hd.top 54
noncomputable abbrev DO:List Str:=["ring","sending","k","way","size","rising"]
noncomputable abbrev hJ:Stmt:=Hd.top 50
noncomputable abbrev tK:List Str:=["ring","slid","parted","ways","half","whole","k"]
noncomputable abbrev gp:Stmt:=Hd.top 47
noncomputable abbrev rQ:List Str:=["ring","sending","thing","slid","parted"]
noncomputable abbrev eQ:Stmt:=Hd.top 56
noncomputable abbrev lE:List Str:=["ring","slid","parted","ways","half","whole","k"]
noncomputable abbrev iV:Stmt:=Hd.top 55
noncomputable abbrev vd:List Str:=["ring","sending","slides"]
noncomputable abbrev j4:Stmt:=Hd.top 58
noncomputable abbrev xk:List Str:=["_law_script","_law_k","_law_cell"]
noncomputable abbrev mz:Stmt:=Hd.top 59
noncomputable abbrev yX:List Str:=["_law_state","_law_many","_law_digit","_law_drawn_here","_law_turn"]
noncomputable abbrev ft:Stmt:=Hd.top 62
noncomputable abbrev j5:List Str:=["_law_state","_law_many","_law_letters","_law_base","_law_at","_law_turn"]
noncomputable abbrev pf:Stmt:=Hd.top 60
noncomputable abbrev Bt:List Str:=["_law_top","_law_bottom","_law_one","_law_share"]
noncomputable abbrev iW:Stmt:=Hd.top 61
noncomputable abbrev ve:List Str:=["_law_state","_law_least","_law_kind","_law_bottom","_law_top"]
noncomputable abbrev j6:Stmt:=Hd.top 63
noncomputable abbrev xl:List Str:=["_law_state","_law_ties_here","_law_kind","_law_alike","_law_one","_law_rooms_here","_law_more"]
noncomputable abbrev mB:Stmt:=Hd.top 64
noncomputable abbrev yY:List Str:=["_law_state","_law_shape","_law_places","_law_k","_law_one","_law_other"]
noncomputable abbrev mC:Stmt:=Hd.top 65
noncomputable abbrev yZ:List Str:=["_law_script","_law_at","_law_most","_law_count","_law_state","_law_places","_law_many","_law_kinds","_law_shape","_law_names_here","_law_rooms_here","_law_asks","_law_k","_law_one","_law_other"]
noncomputable abbrev j7:Stmt:=Hd.top 66
noncomputable abbrev xm:List Str:=["_law_state","_law_ring_here","_law_parts_here","_law_name","_law_one","_law_other","_law_size","_law_way","_law_share"]
noncomputable abbrev mD:Stmt:=Hd.top 70
noncomputable abbrev y1:List Str:=["_law_ring_here","_law_k","_law_way","_law_name","_law_one","_law_other","_law_size","_law_ties_here"]
noncomputable abbrev j8:Stmt:=Hd.top 68
noncomputable abbrev xn:List Str:=["_law_one","_law_other"]
noncomputable abbrev mE:Stmt:=Hd.top 67
noncomputable abbrev y3:List Str:=["_law_one","_law_other"]
noncomputable abbrev j9:Stmt:=Hd.top 71
noncomputable abbrev xq:List Str:=["_law_ring_here","_law_sending","_law_loads_here","_law_k","_law_part","_law_way","_law_gone_here","_law_tie"]
noncomputable abbrev ka:Stmt:=Hd.top 69
noncomputable abbrev xr:List Str:=["_law_one","_law_other"]
noncomputable abbrev gu:Stmt:=Hd.top 75
noncomputable abbrev rR:List Str:=["_law_ring_here","_law_some","_law_found","_law_k"]
noncomputable abbrev iX:Stmt:=Hd.top 72
noncomputable abbrev vf:List Str:=["_law_ring_here","_law_sending","_law_found","_law_k","_law_part"]
noncomputable abbrev gS:Stmt:=Hd.top 79
noncomputable abbrev pW:List Str:=["_law_ring_here","_law_loads_here","_law_behind","_law_ways","_law_whole","_law_most","_law_tie","_law_load"]
noncomputable abbrev mF:Stmt:=Hd.top 73
noncomputable abbrev y4:List Str:=["_law_ring_here","_law_sending","_law_k","_law_way"]
noncomputable abbrev kb:Stmt:=Hd.top 74
noncomputable abbrev xu:List Str:=["_law_state","_law_ring_here","_law_sending","_law_many","_law_k","_law_l","_law_way","_law_other","_law_first","_law_second","_law_most","_law_share"]
noncomputable abbrev iY:Stmt:=Hd.top 76
noncomputable abbrev vg:List Str:=["_law_ring_here","_law_sending","_law_thing","_law_found"]
noncomputable abbrev dP:Stmt:=Hd.top 77
noncomputable abbrev nU:List Str:=["_law_state","_law_ring_here","_law_sending","_law_here","_law_slides","_law_turn","_law_one","_law_behind"]
noncomputable abbrev fC:Stmt:=Hd.top 78
noncomputable abbrev qk:List Str:=["_law_state","_law_ring_here","_law_behind","_law_parted_here","_law_ways","_law_k","_law_part","_law_way"]
noncomputable abbrev GF:Stmt:=Hd.top 80
noncomputable abbrev NQ:List Str:=["_law_script","_law_ring_here","_law_sending","_law_loads_here","_law_slides","_law_ways","_law_k","_law_state","_law_behind","_law_turn"]
def cx:FS:=λls so=>∃a b:Int,ls=[.d (.int a),.d (.int b)]/\so (.d (.int (Int.gcd a b))) ls
def mG:W Fl:=(aQ (bq 2 (ax fO (ao 0) (ao 1)))
  (aQ (bq 0 (ao 1))
  (bq 1 (ao 2))))
def eD:W Fl:=(aQ (qS (aT (ax BC (ao 1) (wC (.int 0)))) mG)
  (bN (br A2 (ar (ao 0) aF))))
theorem mH:∀ls so,ls.length=2->cx ls so->eD (ls++List.replicate 1 .un) (aS ls so):=by
 rintro ls so - ⟨a,b,rfl,h⟩;unfold eD;walk_at "w";refine⟨λn Z=>∃x y r,Z=[.d (.int x),.d (.int y),r]/\Int.gcd x y=Int.gcd a b/\n=y.natAbs,⟨_,a,b,_,rfl,rfl,rfl⟩,?_⟩;rintro n Z ⟨x,y,r,rfl,hg,rfl⟩;walk_at "w";split
 .
  rename_i hy;have hy:y≠0:=by simpa using hy
  exact⟨hy,_,lA x hy,y,x.fmod y,_,rfl,by rw[zL];exact hg,rfl⟩
 .
  rename_i hy;have hy:y=0:=by simpa using hy
  subst hy;refine⟨_,aj (aj aP),?_⟩
  have e:(if x<0 then -x else x)=((Int.gcd a b:Nat):Int):=by rw[<- hg,Int.gcd_zero_right];split<;>omega
  rw[e];exact h
def gv:FS:=λls so=>(∃i:Int,ls=[.d (.int i)]/\so (.d (.bl true)) ls)∨∃d:D,ls=[.d d]/\(∀i,d≠.int i)/\so (.d (.bl false)) ls
def kZ:W Fl:=(bN (nq (P9 (qa "int") (ao 0)) (Cb (aT (P9 (qa "bool") (ao 0))))))
theorem xv:∀ls so,ls.length=1->gv ls so->kZ (ls++List.replicate 0 .un) (aS ls so):=by
 rintro ls so-(⟨i,rfl,h⟩|⟨d,rfl,hd,h⟩)
 . unfold kZ;walk_at "w";exact⟨_,aj aP,h⟩
 .
  unfold kZ
  cases d with
  |int i=>exact absurd rfl (hd i)
  |_=>walk_at "w"; exact⟨_,aj aP,h⟩
def cy:FS:=λls so=>∃(d:D)(n:Int),ls=[.d d,.d (.int n)]/\so (.d (.bl (rJ d n))) ls
def eE:W Fl:=(bN (nq (aG gv (ar (ao 0) aF)) (zS M5 vP (wC (.int 0)) (ao 0) (ao 1))))
theorem mI:∀ls so,ls.length=2->cy ls so->eE (ls++List.replicate 0 .un) (aS ls so):=by
 rintro ls so - ⟨d,n,rfl,h⟩;unfold eE;by_cases hd:∃i,d=.int i
 .
  obtain⟨i,rfl⟩:=hd;have h:so (.d (.bl (decide (0<=i/\i<n)))) [.d (.int i),.d (.int n)]:=h;walk_at "w";refine .inl ⟨i,rfl,?_⟩;walk_at "w";by_cases c:0<=i
  .
   rw[if_pos c];have e:decide (0<=i/\i<n)=decide (i<n):=by rw[Wa];omega
   rw[e]at h;exact⟨_,aj (aj aP),h⟩
  . rw[if_neg c];have e:decide (0<=i/\i<n)=false:=Ul xL;rw[e]at h;exact⟨_,aj (aj aP),h⟩
 .
  have e:rJ d n=false:=by
   unfold rJ;split
   . exact absurd ⟨_,rfl⟩ hd
   . rfl
  rw[e]at h;walk_at "w";refine .inr ⟨d,rfl,λi e=>hd ⟨i,e⟩,?_⟩;walk_at "w";exact⟨_,aj (aj aP),h⟩
noncomputable def OW:D->Bool
 |.tup [.int _,.int _]=>true
 |_=>false
def eF:FS:=λls so=>(∃i j:Int,ls=[.d (.tup [.int i,.int j])]/\so (.d (.bl true)) ls)∨∃d:D,ls=[.d d]/\(∀i j,d≠.tup [.int i,.int j])/\so (.d (.bl false)) ls
def di:W Fl:=(bN (nq (P9 (qa "tuple") (ao 0)) (nq (ax sW (br fj (ar (ao 0) aF)) (wC (.int 2))) (nq (aG gv (ar (ax aM (ao 0) (wC (.int 0))) aF)) (aG gv (ar (ax aM (ao 0) (wC (.int 1))) aF))))))
theorem nV:∀ls so,ls.length=1->eF ls so->di (ls++List.replicate 0 .un) (aS ls so):=by
 rintro ls so-(⟨i,j,rfl,h⟩|⟨d,rfl,hd,h⟩)
 . unfold di;walk_at "w";refine .inl ⟨_,rfl,?_⟩;walk_at "w";refine .inl ⟨_,rfl,?_⟩;walk_at "w";exact⟨_,aj aP,h⟩
 .
  unfold di;have Pb:aS [.d d] so (.rt (.d (.bl false))) [.d d]:=⟨_,aj aP,h⟩;by_cases ht:∃xs,d=.tup xs
  .
   obtain⟨xs,rfl⟩:=ht;by_cases hl:xs.length=2
   .
    obtain⟨x,y,rfl⟩:∃x y,xs=[x,y]:=by rcases xs with _|⟨x,_|⟨y,_|⟨z,r⟩⟩⟩<;>simp at hl;exact⟨_,_,rfl⟩
    have wh:∀z:D,(∃i,z=.int i)∨(∀i,z≠.int i):=λz=>by cases z<;>simp
    walk_at "w";rcases wh x with⟨i,rfl⟩|hx
    .
     refine .inl ⟨_,rfl,?_⟩;rcases wh y with⟨j,rfl⟩|hy
     . exact absurd rfl (hd i j)
     . walk_at "w";refine .inr ⟨_,rfl,hy,?_⟩;walk_at "w";exact Pb
    . refine .inr ⟨_,rfl,hx,?_⟩;walk_at "w";exact Pb
   .
    walk_at "w";have e:¬((xs.length:Int)=2):=by omega
    simp only[e,decide_false];exact Pb
  .
   have ei:nE "tuple" d=false:=by
    cases d<;>first
     |exact absurd ⟨_,rfl⟩ ht
     |rfl
   walk_at "w";rw[ei];walk_at "w";exact Pb
def mJ:FS:=λls so=>∃d:D,ls=[.d d]/\so (.d (.bl (yM d))) ls
def k6:W Fl:=(bN (nq (aG eF (ar (ao 0) aF)) (nq (ax K2 (ax aM (ao 0) (wC (.int 1))) (wC (.int 1))) (ax sW (aG cx (ar (ax aM (ao 0) (wC (.int 0))) (ar (ax aM (ao 0) (wC (.int 1))) aF))) (wC (.int 1))))))
theorem xw:∀ls so,ls.length=1->mJ ls so->k6 (ls++List.replicate 0 .un) (aS ls so):=by
 rintro ls so - ⟨d,rfl,h⟩;by_cases hd:∃i j,d=.tup [.int i,.int j]
 .
  obtain⟨i,j,rfl⟩:=hd;unfold k6;walk_at "w";refine .inl ⟨_,_,rfl,?_⟩;walk_at "w";have e:yM (.tup [.int i,.int j])=(decide (1<=j) && decide ((Int.gcd i j:Int)=1)):=rfl;rw[e]at h;split
  . rename_i hj;refine⟨_,_,rfl,?_⟩;walk_at "w";have hj':(1:Int)<=j:=hj;rw[UI hj',VL]at h;exact⟨_,aj aP,h⟩
  . rename_i hj;have hj':¬(1:Int)<=j:=hj;rw[Ul hj',VR]at h;exact⟨_,aj aP,h⟩
 . have hn:∀i j,d≠.tup [.int i,.int j]:=λi j e=>hd ⟨i,j,e⟩;rw[Dk hn]at h;unfold k6;walk_at "w";refine .inr ⟨_,rfl,hn,?_⟩;walk_at "w";exact⟨_,aj aP,h⟩
def kc:FS:=λls so=>∃t b:Int,ls=[.d (.int t),.d (.int b)]/\b≠0/\b.natAbs<2^9000/\so (.d (Qq (Rat.divInt t b))) ls
def vh:W Fl:=(aQ (bq 2 (bp (aG cx (ar (ao 0) (ar (ao 1) aF)))))
  (aQ (Qa (aT (ax vP (ao 1) (wC (.int 0)))) (bq 2 (P9 EX (ao 2))) ck)
  (bN (nB (ar (ax sV (ao 0) (ao 2)) (ar (ax sV (ao 1) (ao 2)) aF))))))
theorem Bu:∀ls so,ls.length=2->kc ls so->vh (ls++List.replicate 1 .un) (aS ls so):=by
 rintro ls so - ⟨t,b,rfl,hb,hz,h⟩;unfold vh;walk_at "w";refine⟨t,b,rfl,?_⟩;walk_at "w";have h1:=zM (t:=t) hb;have h2:=Ug (zN (t:=t) hb) hz
 have Pb:∀{g:Int}{Z:Ev},g=cW t b->g≠0/\g.natAbs<2^9000/\g≠0/\g.natAbs<2^9000/\2<=sizeLine/\aS [.d (.int t),.d (.int b)] so (.rt (.d (.tup [.int (t.fdiv g),.int (b.fdiv g)]))) Z:=λ{g Z} e=>by
  have e1:g≠0:=by rw[e];exact h1
  have e2:g.natAbs<2^9000:=by rw[e];exact h2
  refine⟨e1,e2,e1,e2,x_,_,aj (aj aP),?_⟩;rw[Aa hb e];exact h
 split
 . rename_i hlt;exact Pb (by simp[cW,hlt])
 . rename_i hlt;exact Pb (by simp[cW,hlt])
def kd:FS:=λls so=>∃p q:Rat,ls=[.d (Qq p),.d (Qq q)]/\RB 400000 p/\RB 400000 q/\p.den*q.den<2^9000/\so (.d (Qq (p+q))) ls
def DP:W Fl:=(bN (aG kc (ar (bp (ax cV (ax bF (ax aM (ao 0) (wC (.int 0))) (ax aM (ao 1) (wC (.int 1)))) (ax bF (ax aM (ao 1) (wC (.int 0))) (ax aM (ao 0) (wC (.int 1)))))) (ar (bp (ax bF (ax aM (ao 0) (wC (.int 1))) (ax aM (ao 1) (wC (.int 1))))) aF))))
theorem GG:∀ls so,ls.length=2->kd ls so->DP (ls++List.replicate 0 .un) (aS ls so):=by rintro ls so - ⟨p,q,rfl,hp,hq,hz,h⟩;unfold DP;simp only[Qq];walk_at "w";refine⟨hp.bn x_,hq.bd x_,hq.bn x_,hp.bd x_,hp.bd x_,hq.bd x_,_,_,rfl,oV p q,by rw[kW];exact hz,_,aj (aj aP),?_⟩;rw[zO];exact h
theorem GH{p q:Rat}{so:L->List L->Prop}(hp:RB 4400 p)(hq:RB 4400 q)(h:so (.d (Qq (p+q))) [.d (Qq p),.d (Qq q)]):kd [.d (Qq p),.d (Qq q)] so :=
 ⟨p,q,rfl,hp.mono x_,hq.mono x_,TU (bB hp.2 hq.2) (Uh x_ x_),h⟩
def eR:FS:=λls so=>∃p q:Rat,ls=[.d (Qq p),.d (Qq q)]/\RB 400000 p/\RB 400000 q/\p.den*q.den<2^9000/\so (.d (Qq (p-q))) ls
def y6:W Fl:=(bN (aG kc (ar (ax jQ (ax bF (ax aM (ao 0) (wC (.int 0))) (ax aM (ao 1) (wC (.int 1)))) (ax bF (ax aM (ao 1) (wC (.int 0))) (ax aM (ao 0) (wC (.int 1))))) (ar (bp (ax bF (ax aM (ao 0) (wC (.int 1))) (ax aM (ao 1) (wC (.int 1))))) aF))))
theorem DQ:∀ls so,ls.length=2->eR ls so->y6 (ls++List.replicate 0 .un) (aS ls so):=by rintro ls so - ⟨p,q,rfl,hp,hq,hz,h⟩;unfold y6;simp only[Qq];walk_at "w";refine⟨hp.bn x_,hq.bd x_,hq.bn x_,hp.bd x_,hp.bd x_,hq.bd x_,_,_,rfl,oV p q,by rw[kW];exact hz,_,aj (aj aP),?_⟩;rw[G6];exact h
theorem iD{p q:Rat}{so:L->List L->Prop}(hp:RB 4400 p)(hq:RB 4400 q)(h:so (.d (Qq (p-q))) [.d (Qq p),.d (Qq q)]):eR [.d (Qq p),.d (Qq q)] so :=
 ⟨p,q,rfl,hp.mono x_,hq.mono x_,TU (bB hp.2 hq.2) (Uh x_ x_),h⟩
def vi:FS:=λls so=>∃p q:Rat,ls=[.d (Qq p),.d (Qq q)]/\RB 4400 p/\RB 4400 q/\so (.d (Qq (p*q))) ls
def y7:W Fl:=(bN (aG kc (ar (bp (ax bF (ax aM (ao 0) (wC (.int 0))) (ax aM (ao 1) (wC (.int 0))))) (ar (bp (ax bF (ax aM (ao 0) (wC (.int 1))) (ax aM (ao 1) (wC (.int 1))))) aF))))
theorem DS:∀ls so,ls.length=2->vi ls so->y7 (ls++List.replicate 0 .un) (aS ls so):=by
 rintro ls so - ⟨p,q,rfl,hp,hq,h⟩;unfold y7;walk_at "w";refine⟨hp.bn x_,hq.bn x_,hp.bd x_,hq.bd x_,_,_,rfl,oV p q,?_,_,aj (aj aP),?_⟩
 . rw[kW];exact TU (bB hp.2 hq.2) (Uh x_ x_)
 . rw[Hc];exact h
def dQ:FS:=λls so=>∃p q:Rat,ls=[.d (Qq p),.d (Qq q)]/\RB 400000 p/\RB 400000 q/\so (.d (.bl (decide (p<q)))) ls
def y9:W Fl:=(bN (ax vP (ax bF (ax aM (ao 0) (wC (.int 0))) (ax aM (ao 1) (wC (.int 1)))) (ax bF (ax aM (ao 1) (wC (.int 0))) (ax aM (ao 0) (wC (.int 1))))))
theorem DT:∀ls so,ls.length=2->dQ ls so->y9 (ls++List.replicate 0 .un) (aS ls so):=by rintro ls so - ⟨p,q,rfl,hp,hq,h⟩;unfold y9;walk_at "w";refine⟨hp.bn x_,hq.bd x_,hq.bn x_,hp.bd x_,_,aj (aj aP),?_⟩;rw[LR];exact h
def ph:FS:=λls so=>∃p q:Rat,ls=[.d (Qq p),.d (Qq q)]/\RB 400000 p/\RB 400000 q/\so (.d (Qq (if p<q then q else p))) ls
def rS:W Fl:=(bN (Cd (aT (aG dQ (ar (ao 0) (ar (ao 1) aF)))) (ao 1) (ao 0)))
theorem zb:∀ls so,ls.length=2->ph ls so->rS (ls++List.replicate 0 .un) (aS ls so):=by
 rintro ls so - ⟨p,q,rfl,hp,hq,h⟩;unfold rS;walk_at "w";refine⟨p,q,rfl,hp,hq,?_⟩;walk_at "w";split
 . rename_i hl;rw[if_pos hl]at h;exact⟨_,aj (aj aP),h⟩
 . rename_i hl;rw[if_neg hl]at h;exact⟨_,aj (aj aP),h⟩
def rT:FS:=λls so=>∃p q:Rat,ls=[.d (Qq p),.d (Qq q)]/\RB 400000 p/\RB 400000 q/\so (.d (Qq (if q<p then q else p))) ls
def vj:W Fl:=(bN (Cd (aT (aG dQ (ar (ao 1) (ar (ao 0) aF)))) (ao 1) (ao 0)))
theorem Bv:∀ls so,ls.length=2->rT ls so->vj (ls++List.replicate 0 .un) (aS ls so):=by
 rintro ls so - ⟨p,q,rfl,hp,hq,h⟩;unfold vj;walk_at "w";refine⟨q,p,rfl,hq,hp,?_⟩;walk_at "w";split
 . rename_i hl;rw[if_pos hl]at h;exact⟨_,aj (aj aP),h⟩
 . rename_i hl;rw[if_neg hl]at h;exact⟨_,aj (aj aP),h⟩
noncomputable def Ti(a:QW):Nat:=max a.one a.other
def cG:FS:=λls so=>∃(R:aO)(k:Nat)(hk:k<R.asks.length),ls=[.d (aK R),.d (.int k)]/\so (.d (.int (Ro R.asks[k]))) ls
def hU:W Fl:=(bN (br A4 (ar (ax aM (ax aM (ax aM (ao 0) (wC (.int 1))) (ao 1)) (wC (.int 1))) (ar (ax aM (ax aM (ax aM (ao 0) (wC (.int 1))) (ao 1)) (wC (.int 2))) aF))))
theorem qm:∀ls so,ls.length=2->cG ls so->hU (ls++List.replicate 0 .un) (aS ls so):=by
 rintro ls so - ⟨R,k,hk,rfl,h⟩;unfold hU;walk_at "w";refine⟨_,aY hk,?_⟩;walk_at "w";refine⟨_,aY hk,?_⟩;walk_at "w"
 have e:(if((R.asks[k].other:Nat):Int)<(R.asks[k].one:Int)then((R.asks[k].other:Nat):Int)else(R.asks[k].one:Int))=((Ro R.asks[k]:Nat):Int):=by unfold Ro;split<;>omega
 first|rw[e] | skip
 exact⟨_,aj (aj aP),h⟩
def dj:FS:=λls so=>∃(R:aO)(k:Nat)(hk:k<R.asks.length),ls=[.d (aK R),.d (.int k)]/\so (.d (.int ((max R.asks[k].one R.asks[k].other:Nat):Int))) ls
def gw:W Fl:=(bN (br A3 (ar (ax aM (ax aM (ax aM (ao 0) (wC (.int 1))) (ao 1)) (wC (.int 1))) (ar (ax aM (ax aM (ax aM (ao 0) (wC (.int 1))) (ao 1)) (wC (.int 2))) aF))))
theorem pj:∀ls so,ls.length=2->dj ls so->gw (ls++List.replicate 0 .un) (aS ls so):=by
 rintro ls so - ⟨R,k,hk,rfl,h⟩;unfold gw;walk_at "w";refine⟨_,aY hk,?_⟩;walk_at "w";refine⟨_,aY hk,?_⟩;walk_at "w"
 have e:(if((R.asks[k].other:Nat):Int) > (R.asks[k].one:Int)then((R.asks[k].other:Nat):Int)else(R.asks[k].one:Int))=((max R.asks[k].one R.asks[k].other:Nat):Int):=by split<;>omega
 first|rw[e] | skip
 exact⟨_,aj (aj aP),h⟩
noncomputable def xx(a b:QW):Bool:=decide (min a.one a.other<min b.one b.other/\min b.one b.other<max a.one a.other/\max a.one a.other<max b.one b.other) ||decide (min b.one b.other<min a.one a.other/\min a.one a.other<max b.one b.other/\max b.one b.other<max a.one a.other)
def mK:FS:=λls so=>∃(R:aO)(k l:Nat)(hk:k<R.asks.length)(hl:l<R.asks.length),ls=[.d (aK R),.d (.int k),.d (.int l)]/\so (.d (.bl (xx R.asks[k] R.asks[l]))) ls
def pk:W Fl:=(aQ (bq 3 (bp (aG cG (ar (ao 0) (ar (ao 1) aF)))))
  (aQ (bq 4 (bp (aG dj (ar (ao 0) (ar (ao 1) aF)))))
  (aQ (bq 5 (bp (aG cG (ar (ao 0) (ar (ao 2) aF)))))
  (aQ (bq 6 (bp (aG dj (ar (ao 0) (ar (ao 2) aF)))))
  (bN (M3 (uN (ao 3) [(vP,(ao 5)),(vP,(ao 4)),(vP,(ao 6))]) (uN (ao 5) [(vP,(ao 3)),(vP,(ao 6)),(vP,(ao 4))])))))))
theorem GI(a b:QW){A B C D':Int}(hA:A=((min a.one a.other:Nat):Int))(hB:B=((min b.one b.other:Nat):Int))(hC:C=((max a.one a.other:Nat):Int))(hD:D'=((max b.one b.other:Nat):Int)):xx a b=(decide (A<B/\B<C/\C<D') ||decide (B<A/\A<D'/\D' < C)):=by subst hA hB hC hD;unfold xx;simp only[Int.ofNat_lt]
theorem xy:∀ls so,ls.length=3->mK ls so->pk (ls++List.replicate 4 .un) (aS ls so):=by
 rintro ls so - ⟨R,k,l,hk,hl,rfl,h⟩;unfold pk;walk_at "w";refine⟨R,k,hk,rfl,?_⟩;walk_at "w";refine⟨R,k,hk,rfl,?_⟩;walk_at "w";refine⟨R,l,hl,rfl,?_⟩;walk_at "w";refine⟨R,l,hl,rfl,?_⟩;walk_at "w";have Pb:∀b:Bool,b=xx R.asks[k] R.asks[l]->∀x3 x4 x5 x6:L,aS [.d (aK R),.d (.int k),.d (.int l)] so (.rt (.d (.bl b))) [.d (aK R),.d (.int k),.d (.int l),x3,x4,x5,x6]:=λb hb x3 x4 x5 x6=>by subst hb;exact⟨_,aj (aj (aj aP)),h⟩
 have ec:=GI R.asks[k] R.asks[l] (A:=(Ro R.asks[k]:Int)) (B:=(Ro R.asks[l]:Int)) rfl rfl rfl rfl;generalize hA:((Ro R.asks[k]:Nat):Int)=A at *;generalize hB:((Ro R.asks[l]:Nat):Int)=B at *;generalize hC:((max R.asks[k].one R.asks[k].other:Nat):Int)=C at *;generalize hD:((max R.asks[l].one R.asks[l].other:Nat):Int)=D' at *
 by_cases c1:A<B<;>by_cases c2:B<C<;>by_cases c3:C<D'<;>by_cases c4:B<A<;>by_cases c5:A<D'<;>by_cases c6:D' < C <;>
  simp only[c1,c2,c3,c4,c5,c6,Wg,V8,ite_true,ite_false,decide_true,decide_false,AX,Vp]<;>refine Pb _ ?_ _ _ _ _<;>rw[ec]<;>simp only[c1,c2,c3,c4,c5,c6]<;>decide
noncomputable def J6(R:aO)(ps:List Rat)(k:Nat):Bool:=decide (0<ps.getD k 0) && decide (ps.getD k 0<R.sz k)
noncomputable def fE(R:aO)(ps:List Rat):List Nat:=(List.range ps.length).filter (J6 R ps)
def bX:FS:=λls so=>∃(R:aO)(ps:List Rat)(c:Nat),ls=[.d (aK R),.d (.lst (ps.map Qq))]/\R.Ok/\ps.length=R.asks.length/\(∀p∈ps,RB c p)/\c<=400000/\∀a,so (.own a ((fE R ps).map λ(k:Nat)=>D.int (k:Int))) ls
def nW:W L:=(ao 0)
def mL:W Fl:=(bN (oR 2 [0] (tj (ao 1)) (ff [0,1]) (Ii (aT (aG dQ (ar (wC (.tup [(.int 0),(.int 1)])) (ar (ao 1) aF)))) (aT (aG dQ (ar (ao 1) (ar (ax aM (ax aM (ax aM (ao 2) (wC (.int 1))) (ao 0)) (wC (.int 3))) aF))))) nW))
theorem DU{α:Type}{e1 e2:α->D}{p:α->Bool}{caps:Ev}{ti:W Bool}{te:W L}{k:List D->Ev->Prop}{g:α->D}(as:List α)(acc:List D)(l m:L)
  (h1:∀a∈as,∀Q:Bool->Ev->Prop,Q (p a) (.d (e1 a)::.d (e2 a)::caps)->ti (.d (e1 a)::.d (e2 a)::caps) Q)
  (h2:∀a∈as,p a=true->∀Q:L->Ev->Prop,Q (.d (g a)) (.d (e1 a)::.d (e2 a)::caps)->te (.d (e1 a)::.d (e2 a)::caps) Q)
  (hk:∀l m,k (acc++(as.filter p).map g) (l::m::caps)):d6 (ff [0,1]) ti te (as.map λa=>D.tup [e1 a,e2 a]) (l::m::caps) acc k:=by
 induction as generalizing acc l m with
 |nil=>simpa[d6]using hk l m
 | cons a as ih =>
  rw[Ur];unfold d6;rw[nM];refine h1 a TQ _ ?_
  cases hp:p a with
  | false =>
   rw[if_neg (by decide)];refine ih acc _ _ (λb hb=>h1 b (TL _ hb)) (λb hb=>h2 b (TL _ hb)) λl m=>?_;have:=hk l m;rw[Vg,if_neg (by rw[hp];decide)]at this;exact this
  | true =>
   rw[if_pos rfl];refine h2 a TQ hp _ ?_;refine ih _ _ _ (λb hb=>h1 b (TL _ hb)) (λb hb=>h2 b (TL _ hb)) λl m=>?_;have:=hk l m;rw[Vg,if_pos hp,Ur]at this;rw[UQ];exact this
theorem vk:∀ls so,ls.length=2->bX ls so->mL (ls++List.replicate 0 .un) (aS ls so):=by
 rintro ls so - ⟨R,ps,c,rfl,hR,hl,hb,hc,h⟩;unfold mL;walk_at "w";rw[qH];refine⟨by rw[TY,UB,hl];exact T9 hR.few x_,?_⟩;refine DU (p:=J6 R ps) (g:=λ(k:Nat)=>D.int (k:Int)) _ _ _ _ (λk hk Q hq=>?_) (λk hk hp Q hq=>?_) λl m=>?_
 .
  have hk':k<ps.length:=by simpa using hk
  have hb':=hb _ (TV hk');rw[<- mn hk']at hb';walk_at "w";refine⟨0,_,rfl,RB.zero.mono x_,hb'.mono hc,?_⟩;walk_at "w";unfold J6 at hq;by_cases h0:0<ps.getD k 0
  . rw[if_pos h0];refine⟨_,aY xL,?_⟩;walk_at "w";refine⟨_,_,rfl,hb'.mono hc,(hR.rb (TV _)).mono x_,?_⟩;walk_at "w";rw[yK xL]at hq;simpa only[h0,decide_true,VL]using hq
  . rw[if_neg h0];simpa only[h0,decide_false,VR]using hq
 . unfold nW;walk_at "w";exact hq
 . intro a;walk_at "w";exact⟨_,aj (aj aP),h a⟩
def aW:FS:=λls so=>∃(R:aO)(ks:List Nat),ls=[.d (aK R),.d (.lst (ks.map λ(k:Nat)=>D.int (k:Int)))]/\ks.length<=20/\(∀k∈ks,k<R.asks.length)/\so (.d (yO (Rj (Ri R) ks))) ls
def bA:W Fl:=(Qa (vO (aT (aG mK (ar (ao 0) (ar (ao 3) (ar (ao 4) aF)))))) (bN (nB (ar (ao 3) (ar (ao 4) aF)))) ck)
def d8:W Fl:=(qT (AZ (Lf (ao 1) (some (ax cV (ao 2) (wC (.int 1)))) none)) (bJ 4) bA)
def cZ:W Fl:=(aQ (qT (tj (ao 1)) (ff [2,3]) d8)
  (bN (wC .non)))
theorem xA{R:aO}{X:D}{x2:L}{k:Nat}(hk:k<R.asks.length){Q:Fl->Ev->Prop}:∀(ls:List Nat)(x4:L),(∀l∈ls,l<R.asks.length) ->
  (∀l,ls.find? (λl=>!Ri R k l)=some l->∀Z,xW Z [.d (aK R),.d X] [.d (aK R),.d X]->Q (.rt (.d (.tup [.int (k:Int),.int (l:Int)]))) Z)->(ls.find? (λl=>!Ri R k l)=none->∀x4,Q .nx [.d (aK R),.d X,x2,.d (.int (k:Int)),x4]) ->
  fg (bJ 4) bA (ls.map λ(k:Nat)=>D.int (k:Int)) [.d (aK R),.d X,x2,.d (.int (k:Int)),x4] Q
 |[],x4,_,_,h2=>h2 rfl x4
 | l::ls,x4,hl,h1,h2=>by
  have hl0:=hl l TQ;show fg (bJ 4) bA (D.int (l:Int)::ls.map λ(k:Nat)=>D.int (k:Int)) _ Q;unfold fg;show bA [.d (aK R),.d X,x2,.d (.int (k:Int)),.d (.int (l:Int))] _;unfold bA;walk_at "w";refine⟨R,k,l,hk,hl0,rfl,?_⟩;have ec:xx R.asks[k] R.asks[l]=Ri R k l:=by unfold Ri;rw[cw hk,cw hl0];rfl
  walk_at "w";rw[ec]
  cases e:Ri R k l with
  | false =>
   walk_at "w";exact⟨x_,h1 l (by rw[List.find?_cons,e];rfl) _ (aj (aj aP))⟩
  | true =>
   walk_at "w";exact xA hk ls _ (λm hm=>hl m (TL _ hm)) (λm hm=>h1 m (by rw[List.find?_cons,e];exact hm)) (λhm=>h2 (by rw[List.find?_cons,e];exact hm))
theorem GJ{cr:Nat->Nat->Bool}{ks:List Nat}{j:Nat}(h:j<ks.length):Rj cr (ks.drop j)=match (ks.drop (j+1)).find? (λl=>!cr ks[j] l)with
  |some l=>some (ks[j],l)
  |none=>Rj cr (ks.drop (j+1)):=by
 rw[UH h];rfl
theorem jC:∀ls so,ls.length=2->aW ls so->cZ (ls++List.replicate 3 .un) (aS ls so):=by
 rintro ls so - ⟨R,ks,rfl,h20,hks,h⟩;unfold cZ;walk_at "w";refine dh _ (λj Z=>(∃x2 x3 x4,Z=[.d (aK R),.d (.lst (ks.map λ(k:Nat)=>D.int (k:Int))),x2,x3,x4])/\Rj (Ri R) (ks.drop j)=Rj (Ri R) ks) _ ⟨⟨_,_,_,rfl⟩,rfl⟩ ?_ ?_
 .
  rintro j x Z hj ⟨⟨x2,x3,x4,rfl⟩,hf⟩ Q h1 h2 h3 h4;have hj':j<ks.length:=by have:=(TR.mp hj).1;simpa[eh]using this
  have ex:x=.tup [.int (j:Int),.int (ks[j]:Int)]:=by
   have:(eh (ks.map λ(k:Nat)=>D.int (k:Int)))[j]?=some (.tup [.int (j:Int),.int (ks[j]:Int)]):=by simp[eh,hj']
   rw[this]at hj;exact(Uq hj).symm
  subst ex;unfold d8;walk_at "w";rw[show(j:Int)+1=((j+1:Nat):Int) by omega,FQ,F0 (show j+1<=ks.length by omega)];rw[GJ hj']at hf;refine λ_=>xA (hks _ (TV hj')) _ _ (λl hl=>hks l (List.mem_of_mem_drop hl)) (λl e Z b=>h4 _ _ ?_) λe x4=>h1 _ ⟨⟨_,_,_,rfl⟩,?_⟩
  . rw[e]at hf;rw[<- hf]at h;exact⟨_,b,h⟩
  . rw[e]at hf;exact hf
 .
  rintro Z ⟨⟨x2,x3,x4,rfl⟩,hf⟩;have e:ks.drop (eh (ks.map λ(k:Nat)=>D.int (k:Int))).length=[]:=by simp[eh]
  rw[e]at hf;rw[<- hf]at h;exact⟨_,aj (aj aP),h⟩
def ke:FS:=λls so=>∃d:D,ls=[.d d]/\so (.d (.bl (vR d))) ls
def vm:W Fl:=(bN (nq (P9 (qa "str") (ao 0)) (ax (yn false) (ao 0) (nB (ar (wC (.str "on")) (ar (wC (.str "back")) aF))))))
theorem Bw:∀ls so,ls.length=1->ke ls so->vm (ls++List.replicate 0 .un) (aS ls so):=by
 rintro ls so - ⟨d,rfl,h⟩;unfold vm
 cases d with
 | str z =>
  walk_at "w";rw[JQ];exact⟨x_,rfl,rfl,_,aj aP,h⟩
 | _ =>
  walk_at "w";exact⟨_,aj aP,h⟩
def kf:FS:=λls so=>∃w:Bool,ls=[.d (.str (gj w))]/\so (.d (.str (gj !w))) ls
def mM:W Fl:=(bN (Cd (aT (ax sW (ao 0) (wC (.str "on")))) (wC (.str "back")) (wC (.str "on"))))
theorem vn:∀ls so,ls.length=1->kf ls so->mM (ls++List.replicate 0 .un) (aS ls so):=by
 rintro ls so - ⟨w,rfl,h⟩;unfold mM;walk_at "w";cases w
 . exact⟨_,aj aP,h⟩
 . exact⟨_,aj aP,h⟩
def k7:FS:=λls so=>∃(R:aO)(k:Nat)(w:Bool)(hk:k<R.asks.length),ls=[.d (aK R),.d (.int k),.d (.str (gj w))]/\R.Ok/\∀c,so (.own c ((Ae R.n R.asks[k] w).map λ(t:Nat)=>D.int (t:Int))) ls
def rV:W L:=(ax fO (ax jQ (ax jQ (ao 1) (wC (.int 1))) (ao 0)) (ao 2))
def rW:W L:=(ax fO (ax cV (ao 1) (ao 0)) (ao 2))
def rX:W Fl:=(bN (oR 1 [4,3] (sU (ax fO (ax jQ (ao 4) (ao 5)) (ao 3))) (bJ 0) mi rV))
def rY:W Fl:=(aQ (Qa (aT (ax sW (ao 2) (wC (.str "on")))) (bN (oR 1 [4,3] (sU (ax fO (ax jQ (ao 5) (ao 4)) (ao 3))) (bJ 0) mi rW)) ck)
  rX)
def rZ:W Fl:=(aQ (bq 5 (ax aM (ax aM (ax aM (ao 0) (wC (.int 1))) (ao 1)) (wC (.int 2))))
  rY)
def r9:W Fl:=(aQ (bq 4 (ax aM (ax aM (ax aM (ao 0) (wC (.int 1))) (ao 1)) (wC (.int 1))))
  rZ)
def se:W Fl:=(aQ (bq 3 (bp (br fj (ar (ax aM (ao 0) (wC (.int 0))) aF))))
  r9)
theorem zd:∀ls so,ls.length=3->k7 ls so->se (ls++List.replicate 3 .un) (aS ls so):=by
 rintro ls so - ⟨R,k,w,hk,rfl,hR,h⟩;have ha:=hR.ask _ (TV hk);have h1:=ha.one;have h2:=ha.other;have hlo:=hR.lo;have hhi:=hR.hi;unfold se;walk_at "w";unfold r9;walk_at "w";refine⟨_,aY hk,?_⟩;walk_at "w";unfold rZ;walk_at "w";refine⟨_,aY hk,?_⟩;walk_at "w";unfold rY;walk_at "w";have f1:=Df h1 h2;have f2:=Df h2 h1;have b1:=V4 (R.asks[k].other+R.n-R.asks[k].one) (y:=R.n) xL;have b2:=V4 (R.asks[k].one+R.n-R.asks[k].other) (y:=R.n) xL;split
 .
  rename_i hw;subst hw;rw[f1];refine⟨xL,⟨xL,xL⟩,?_⟩;rw[nL,UZ];refine⟨by rw[TY,UB];exact T9 (show _<=12 by omega) x_,?_⟩;refine nK (h:=λs=>D.int (((R.asks[k].one+s) % R.n:Nat):Int)) _ _ _ (λs hs Q q=>?_) λl'=>?_
  . unfold rW;walk_at "w";refine⟨xL,?_⟩;rw[Af];exact q
  . walk_at "w";intro c;refine⟨_,aj (aj (aj aP)),?_⟩;have:=h c;simp only[Ae,QY,Wg,UP]at this;exact this
 .
  rename_i hw;have hw:w=false:=by simpa using hw
  subst hw;unfold rX;walk_at "w";rw[f2];refine⟨xL,⟨xL,xL⟩,?_⟩;rw[nL,UZ];refine⟨by rw[TY,UB];exact T9 (show _<=12 by omega) x_,?_⟩;refine nK (h:=λs=>D.int (((R.asks[k].one+R.n-1-s) % R.n:Nat):Int)) _ _ _ (λs hs Q q=>?_) λl'=>?_
  . unfold rV;walk_at "w";refine⟨xL,?_⟩;have hs:=Uy.mp hs;rw[Gf xL xL];exact q
  . walk_at "w";intro c;refine⟨_,aj (aj (aj aP)),?_⟩;have:=h c;simp only[Ae,tF,Vp,V8,UP]at this;exact this
def iZ:FS:=λls so=>∃(R:aO)(d:D),ls=[.d (aK R),.d d]/\(∀xs,d=.lst xs->xs.length<=99)/\so (.d (.bl (Hq R.asks.length d))) ls
def pX:W L:=(aG ke (ar (ao 0) aF))
def pq:W Fl:=(aQ (Qa (P7 (vO (aT (P9 (qa "list") (ao 1)))) (aT (ax BC (br fj (ar (ao 1) aF)) (br fj (ar (ax aM (ao 0) (wC (.int 1))) aF))))) (bN (wC (.bl false))) ck)
  (bN (br Lj (ar (bp (oR 1 [] (AZ (ao 1)) (bJ 0) mi pX)) aF))))
theorem Mr(xs:List D):(xs.map λx=>vR x).all id=xs.all vR:=by rw[List.all_map];rfl
theorem xB:∀ls so,ls.length=2->iZ ls so->pq (ls++List.replicate 0 .un) (aS ls so):=by
 rintro ls so - ⟨R,d,rfl,hl,h⟩;have bk:∀b:Bool,so (.d (.bl b)) [.d (aK R),.d d]->aS [.d (aK R),.d d] so (.rt (.d (.bl b))) [.d (aK R),.d d]:=λb h=>⟨_,aj (aj aP),h⟩;have h:=bk _ h;unfold pq;by_cases ht:∃xs,d=.lst xs
 .
  obtain⟨xs,rfl⟩:=ht;have hl:=hl xs rfl;unfold Hq at h;walk_at "w";by_cases e:xs.length=R.asks.length
  .
   rw[if_neg (by omega)];refine⟨Hj hl,Dr (h:=λx=>D.bl (vR x)) xs _ _ (λx hx Q hQ=>?_) λl c=>?_⟩
   . unfold pX;walk_at "w";exact⟨x,rfl,hQ⟩
   rw[Vy];refine⟨xs.map λx=>vR x,by rw[UP];rfl,?_⟩;walk_at "w";rw[Mr];simp only[e,decide_true,VL]at h;exact h
  . rw[if_pos (by omega)];simp only[e,decide_false,VR]at h;exact h
 .
  have ei:nE "list" d=false:=by
   cases d<;>first
    |exact absurd ⟨_,rfl⟩ ht
    |rfl
  have ea:Hq R.asks.length d=false:=by
   cases d<;>first
    |exact absurd ⟨_,rfl⟩ ht
    |rfl
  rw[ea]at h;walk_at "w";rw[ei];exact h
def eS:FS:=λls so=>∃(p am:Rat)(w:Bool),ls=[.d (Qq p),.d (.str (gj w)),.d (Qq am)]/\RB 4400 p/\RB 4400 am/\so (.d (Qq (Rc p w am))) ls
def i3:W Fl:=(bN (Cd (aT (ax sW (ao 1) (wC (.str "on")))) (aG kd (ar (ao 0) (ar (ao 2) aF))) (aG eR (ar (ao 0) (ar (ao 2) aF)))))
theorem sf:∀ls so,ls.length=3->eS ls so->i3 (ls++List.replicate 0 .un) (aS ls so):=by
 rintro ls so - ⟨p,am,w,rfl,hp,ha,h⟩;unfold i3;unfold Rc at h;walk_at "w"
 cases w with
 | true =>
  walk_at "w";exact GH hp ha ⟨_,aj (aj (aj aP)),h⟩
 | false =>
  walk_at "w";exact iD hp ha ⟨_,aj (aj (aj aP)),h⟩
def gT:FS:=λls so=>∃(ps:List Rat)(s:dM),ls=[.d (.lst (ps.map Qq)),.d (Q9 s)]/\ps.length<=20/\s.k<ps.length/\s.l<ps.length/\s.k≠s.l/\(∀p∈ps,RB 4000 p)/\RB 4000 s.am/\∀a,so (.own a ((Re ps s).map Qq)) ls
def mN:W Fl:=(aQ (bq 2 (br uc (ar (ao 0) aF)))
  (aQ (sY 2 (ax aM (ao 1) (wC (.int 0))) (aG eS (ar (fm 2 (yl 2 (ax aM (ao 1) (wC (.int 0)))) (ax aM (ao 2) (ax aM (ao 1) (wC (.int 0))))) (ar (ax aM (ao 1) (wC (.int 1))) (ar (ax aM (ao 1) (wC (.int 4))) aF)))))
  (aQ (sY 2 (ax aM (ao 1) (wC (.int 2))) (aG eS (ar (fm 2 (yl 2 (ax aM (ao 1) (wC (.int 2)))) (ax aM (ao 2) (ax aM (ao 1) (wC (.int 2))))) (ar (ax aM (ao 1) (wC (.int 3))) (ar (ax aM (ao 1) (wC (.int 4))) aF)))))
  (bN (jL 2)))))
theorem DV{n k:Nat}(h:k<n):Py n (k:Int)=some k:=by unfold Py;rw[if_pos (by omega),if_pos (by omega)];simp
theorem vo:∀ls so,ls.length=2->gT ls so->mN (ls++List.replicate 1 .un) (aS ls so):=by
 rintro ls so - ⟨ps,s,rfl,h20,hk,hl,hkl,hp,ha,h⟩;unfold mN;simp only[Q9];walk_at "w";have r1:=hp _ (TV hk);have r2:=hp _ (TV hl);refine λa=>⟨_,aY hk,ps[s.k],s.am,s.kw,rfl,r1.mono x_,ha.mono x_,?_⟩;walk_at "w";have hl':s.l<(ps.set s.k (Rc ps[s.k] s.kw s.am)).length:=by rw[Vo];exact hl
 have e1:(ps.set s.k (Rc ps[s.k] s.kw s.am))[s.l]=ps[s.l]:=by rw[List.getElem_set_ne hkl]
 refine⟨s.k,DV hk,?_⟩;rw[<- List.map_set];refine⟨_,aY hl',_,s.am,s.lw,rfl,by rw[e1];exact r2.mono x_,ha.mono x_,?_⟩;walk_at "w";refine⟨s.l,DV (by simpa using hl),_,aj (aj aP),?_⟩;have h:=h a;unfold Re at h;rw[bu hk,bu hl',List.map_set]at h;exact h
def dR:FS:=λls so=>∃(R:aO)(k l:Nat)(kw lw:Bool)(hk:k<R.asks.length)(hl:l<R.asks.length),ls=[.d (aK R),.d (.int (k:Int)),.d (.str (gj kw)),.d (.int (l:Int)),.d (.str (gj lw))]/\R.Ok/\so (.d (.bl (jB R.n R.asks[k] kw R.asks[l] lw))) ls
def jt:W L:=(ax (yn false) (ao 0) (ao 1))
def hW:W Fl:=(aQ (bq 5 (bp (aG k7 (ar (ao 0) (ar (ao 3) (ar (ao 4) aF))))))
  (bN (Cb (aT (br Lk (ar (bp (oR 1 [5] (AZ (aG k7 (ar (ao 0) (ar (ao 1) (ar (ao 2) aF))))) (bJ 0) mi jt)) aF))))))
theorem qo:∀ls so,ls.length=5->dR ls so->hW (ls++List.replicate 1 .un) (aS ls so):=by
 rintro ls so - ⟨R,k,l,kw,lw,hk,hl,rfl,hR,h⟩;unfold hW;walk_at "w";refine⟨R,l,lw,hl,rfl,hR,λc=>?_⟩;walk_at "w";refine⟨R,k,kw,hk,rfl,hR,λc2=>?_⟩;walk_at "w";have p4:=JE (hR.ask _ (TV hk)) kw;have hhi:=hR.hi;refine⟨Hj xL,nK (h:=λt=>.bl (decide (t∈Ae R.n R.asks[l] lw))) (Ae R.n R.asks[k] kw) [] _ (λt hm Q hq=>?_) λl' a0=>?_⟩
 . unfold jt;walk_at "w";refine⟨rfl,by simp[qd],?_⟩;rw[uW];exact hq
 . rw[Vy];refine⟨(Ae R.n R.asks[k] kw).map λt=>decide (t∈Ae R.n R.asks[l] lw),by rw[UP];rfl,?_⟩;walk_at "w";refine⟨_,aj (aj (aj (aj (aj aP)))),?_⟩;unfold jB at h;simpa[List.any_map]using h
def c7:FS:=λls so=>∃(d:D)(n:Nat),ls=[.d d,.d (.int (n:Int))]/\so (.d (.bl (tH n d))) ls
def cH:W Fl:=(bN (nq (aG ke (ar (ax aM (ao 0) (wC (.int 1))) aF)) (nq (aG ke (ar (ax aM (ao 0) (wC (.int 3))) aF)) (aG mJ (ar (ax aM (ao 0) (wC (.int 4))) aF)))))
def cI:W Fl:=(aQ (Qa (P7 (vO (aT (aG cy (ar (ax aM (ao 0) (wC (.int 0))) (ar (ao 1) aF))))) (vO (aT (aG cy (ar (ax aM (ao 0) (wC (.int 2))) (ar (ao 1) aF)))))) (bN (wC (.bl false))) ck)
  cH)
def dB:W Fl:=(aQ (Qa (P7 (vO (aT (P9 (qa "tuple") (ao 0)))) (aT (ax BC (br fj (ar (ao 0) aF)) (wC (.int 5))))) (bN (wC (.bl false))) ck)
  cI)
theorem Ms{a b c d e:D}{z:L}{so:Fl->Ev->Prop}(h:so (.rt (.d (.bl (vR b && (vR d && yM e))))) [.d (.tup [a,b,c,d,e]),z]):cH [.d (.tup [a,b,c,d,e]),z] so:=by
 unfold cH;walk_at "w";refine⟨_,rfl,?_⟩
 cases e3:vR b with
 | false =>
  rw[e3]at h;exact h
 | true =>
  rw[e3,VL]at h;refine⟨_,rfl,?_⟩
  cases e4:vR d with
  | false =>
   rw[e4]at h;exact h
  | true =>
   rw[e4,VL]at h;exact⟨_,rfl,h⟩
theorem Mt{a b c d e:D}{n:Nat}{so:Fl->Ev->Prop}(h:so (.rt (.d (.bl (rJ a n && (rJ c n && (vR b && (vR d && yM e))))))) [.d (.tup [a,b,c,d,e]),.d (.int (n:Int))]):cI [.d (.tup [a,b,c,d,e]),.d (.int (n:Int))] so:=by
 unfold cI;walk_at "w";refine⟨_,_,rfl,?_⟩
 cases e1:rJ a n with
 | false =>
  rw[e1]at h;exact h
 | true =>
  rw[e1,VL]at h;refine⟨_,_,rfl,?_⟩
  cases e2:rJ c n with
  | false =>
   rw[e2]at h;exact h
  | true =>
   rw[e2,VL]at h;exact Ms h
theorem kg:∀ls so,ls.length=2->c7 ls so->dB (ls++List.replicate 0 .un) (aS ls so):=by
 rintro ls so - ⟨d,n,rfl,h⟩;have bk:∀b:Bool,so (.d (.bl b)) [.d d,.d (.int (n:Int))]->aS [.d d,.d (.int (n:Int))] so (.rt (.d (.bl b))) [.d d,.d (.int (n:Int))]:=λb h=>⟨_,aj (aj aP),h⟩;have h:=bk _ h;unfold dB;by_cases ht:∃xs,d=.tup xs
 .
  obtain⟨xs,rfl⟩:=ht;by_cases h5:xs.length=5
  . obtain⟨a,b,c,d,e,rfl⟩:=OM h5;rw[JS]at h;walk_at "w";exact Mt h
  .
   rw[Du h5]at h;walk_at "w";have:¬((xs.length:Int)=5):=by omega
   simp only[this,not_false_eq_true,decide_true,Wg,ite_true];exact h
 .
  rw[Gw (λxs e=>ht ⟨xs,e⟩)]at h
  have ei:nE "tuple" d=false:=by
   cases d<;>first
    |exact absurd ⟨_,rfl⟩ ht
    |rfl
  walk_at "w";rw[ei];exact h
def i4:FS:=λls so=>∃(R:aO)(ps:List Rat)(k:Nat)(w:Bool),ls=[.d (aK R),.d (.lst (ps.map Qq)),.d (.int (k:Int)),.d (.str (gj w))]/\cU R ps/\k<ps.length/\so (.d (Qq (Ra R ps k w))) ls
def pA:W Fl:=(bN (Cd (aT (ax sW (ao 3) (wC (.str "on")))) (aG eR (ar (ax aM (ax aM (ax aM (ao 0) (wC (.int 1))) (ao 2)) (wC (.int 3))) (ar (ax aM (ao 1) (ao 2)) aF))) (ax aM (ao 1) (ao 2))))
theorem xC:∀ls so,ls.length=4->i4 ls so->pA (ls++List.replicate 0 .un) (aS ls so):=by
 rintro ls so - ⟨R,ps,k,w,rfl,hS,hk,h⟩;have hk':k<R.asks.length:=by rw[<- hS.len];exact hk
 have r1:=hS.sz_rb hk;have r2:=hS.rb hk;rw[g9 hk']at r1;rw[bu hk]at r2;unfold Ra at h;rw[g9 hk',bu hk]at h;unfold pA;walk_at "w"
 cases w with
 | true =>
  walk_at "w";refine⟨_,aY hk',?_⟩;walk_at "w";refine⟨_,aY hk,?_⟩;walk_at "w";exact iD (r1.mono x_) (r2.mono x_) ⟨_,aj (aj (aj (aj aP))),h⟩
 | false =>
  walk_at "w";exact⟨_,aY hk,_,aj (aj (aj (aj aP))),h⟩
def gU:FS:=λls so=>∃(R:aO)(ps:List Rat)(k l:Nat)(kw lw:Bool)(more:List D),ls=[.d (aK R),.d (.lst (ps.map Qq)),.d (.tup (.int (k:Int)::.str (gj kw)::.int (l:Int)::.str (gj lw)::more))]/\cU R ps/\k<ps.length/\l<ps.length/\so (.d (Qq (Rb R ps k kw l lw))) ls
def mO:W Fl:=(bN (aG rT (ar (bp (aG i4 (ar (ao 0) (ar (ao 1) (ar (ax aM (ao 2) (wC (.int 0))) (ar (ax aM (ao 2) (wC (.int 1))) aF)))))) (ar (bp (aG i4 (ar (ao 0) (ar (ao 1) (ar (ax aM (ao 2) (wC (.int 2))) (ar (ax aM (ao 2) (wC (.int 3))) aF)))))) aF))))
theorem vp:∀ls so,ls.length=3->gU ls so->mO (ls++List.replicate 0 .un) (aS ls so):=by rintro ls so - ⟨R,ps,k,l,kw,lw,more,rfl,hS,hk,hl,h⟩;unfold mO;walk_at "w";refine⟨R,ps,k,kw,rfl,hS,hk,?_⟩;walk_at "w";refine⟨R,ps,l,lw,rfl,hS,hl,?_⟩;walk_at "w";exact⟨_,_,rfl,(nQ hS hk kw).mono x_,(nQ hS hl lw).mono x_,_,aj (aj (aj aP)),h⟩
noncomputable def OX(R:aO)(ps:List Rat)(s:dM):Bool:=!decide (s.k=s.l) && (jB R.n (aR R s.k) s.kw (aR R s.l) s.lw && (decide (0<s.am) && !decide (Rb R ps s.k s.kw s.l s.lw<s.am)))
def mP:FS:=λls so=>∃(R:aO)(ps:List Rat)(d:D),ls=[.d (aK R),.d (.lst (ps.map Qq)),.d d]/\cU R ps/\(∀s,m8 d=some s->s.k<ps.length->s.l<ps.length->RB 400000 s.am)/\so (.d (.bl (Rm R ps d))) ls
def pB:W Fl:=(aQ (Qa (P7 (vO (aT (aG c7 (ar (ao 2) (ar (bp (br fj (ar (ax aM (ao 0) (wC (.int 1))) aF))) aF))))) (aT (ax sW (ax aM (ao 2) (wC (.int 0))) (ax aM (ao 2) (wC (.int 2)))))) (bN (wC (.bl false))) ck)
  (aQ (Qa (vO (aT (aG dR (ar (ao 0) (ar (ax aM (ao 2) (wC (.int 0))) (ar (ax aM (ao 2) (wC (.int 1))) (ar (ax aM (ao 2) (wC (.int 2))) (ar (ax aM (ao 2) (wC (.int 3))) aF)))))))) (bN (wC (.bl false))) ck)
  (bN (nq (aG dQ (ar (wC (.tup [(.int 0),(.int 1)])) (ar (ax aM (ao 2) (wC (.int 4))) aF))) (Cb (aT (aG dQ (ar (bp (aG gU (ar (ao 0) (ar (ao 1) (ar (ao 2) aF))))) (ar (ax aM (ao 2) (wC (.int 4))) aF)))))))))
theorem NR{R:aO}{ps:List Rat}(h:cU R ps){k l:Nat}(hk:k<ps.length)(hl:l<ps.length)(kw lw:Bool):RB 400000 (Rb R ps k kw l lw):=by
 rcases(h.ms hk hl kw lw).2.2.2 with e|e
 . rw[e];exact(nQ h hk _).mono x_
 . rw[e];exact(nQ h hl _).mono x_
theorem xD:∀ls so,ls.length=3->mP ls so->pB (ls++List.replicate 0 .un) (aS ls so):=by
 rintro ls so - ⟨R,ps,d,rfl,hS,ha,h⟩;unfold pB;walk_at "w";refine⟨_,R.asks.length,rfl,?_⟩
 cases ef:tH R.asks.length d with
 | false =>
  have e:Rm R ps d=false:=by
   unfold tH at ef;unfold Rm;rw[hS.len];split
   . rename_i s e;rw[e]at ef;have ef:(decide (s.k<R.asks.length) && decide (s.l<R.asks.length))=false:=ef;rw[<- Bool.and_assoc,ef];rfl
   . rfl
  rw[e]at h;walk_at "w";exact⟨_,aj (aj (aj aP)),h⟩
 |true =>
 obtain⟨s,es,hk',hl'⟩:∃s,m8 d=some s/\s.k<R.asks.length/\s.l<R.asks.length:=by
  unfold tH at ef;split at ef
  . rename_i s e;rw[Uc,Ua,Ua]at ef;exact⟨s,e,ef.1,ef.2⟩
  . cases ef
 have hk:s.k<ps.length:=by rw[hS.len];exact hk'
 have hl:s.l<ps.length:=by rw[hS.len];exact hl'
 have ha2:=ha s es hk hl;have:=Dt es;subst this;rw[Dv hk hl]at h;unfold Qm at h;rw[cw hk',cw hl']at h;simp only[Q9]at h ⊢;walk_at "w";by_cases e:s.k=s.l
 . rw[if_pos (by omega)];rw[UI e]at h;exact⟨_,aj (aj (aj aP)),h⟩
 rw[if_neg (by omega)];rw[Ul e]at h;refine⟨R,s.k,s.l,s.kw,s.lw,hk',hl',rfl,hS.ok,?_⟩;walk_at "w"
 cases e1:jB R.n R.asks[s.k] s.kw R.asks[s.l] s.lw with
 | false =>
  rw[e1]at h;walk_at "w";exact⟨_,aj (aj (aj aP)),h⟩
 | true =>
  rw[e1]at h;walk_at "w";refine⟨0,s.am,rfl,RB.zero.mono x_,ha2,?_⟩;walk_at "w";by_cases e2:0<s.am
  . rw[UI e2]at h;rw[if_pos e2];refine⟨R,ps,s.k,s.l,s.kw,s.lw,_,rfl,hS,hk,hl,?_⟩;walk_at "w";refine⟨_,s.am,rfl,NR hS hk hl _ _,ha2,?_⟩;walk_at "w";refine⟨_,aj (aj (aj aP)),?_⟩;simpa using h
  . rw[Ul e2]at h;rw[if_neg e2];exact⟨_,aj (aj (aj aP)),h⟩
noncomputable def Tj(ps:List Rat)(d:D):List Rat:=match m8 d with
 |some s=>Re ps s
 |none=>ps
noncomputable def gW(R:aO)(ps:List Rat)(ss:List D):List Rat:=ss.foldl Tj ps
noncomputable def mQ(R:aO):Nat->List Rat->List D->Option Nat
 |_,_,[]=>none
 |i,ps,d::ss=>if Rm R ps d then mQ R (i+1) (Tj ps d) ss else some i
def cP:QJ:=λds so xp=>∃(R:aO)(ps:List Rat)(ss:List D)(D:Nat),ds=[aK R,.lst (ps.map Qq),.lst ss]/\cU R ps/\ss.length<=99/\(∀d∈ss,∀s,m8 d=some s->RB 4000 s.am/\s.am.den∣D)/\(0<D/\D<2^1500/\(∀a∈R.asks,a.size.den∣D)/\(∀p∈ps,p.den∣D)) /\
 (mQ R 0 ps ss=none->∀ a,so (.own a ((gW R ps ss).map Qq)))/\∀ i,mQ R 0 ps ss=some i->xp ⟨"NoSlide",["number"],[.int (i:Int)]⟩
def si(xp:Xc->Prop):W Fl:=(aQ (Qa (vO (aT (aG mP (ar (ao 0) (ar (ao 3) (ar (ao 5) aF)))))) (wL "NoSlide" ["number"] xp (ar (ao 4) aF)) ck)
  (bq 3 (aG gT (ar (ao 3) (ar (ao 5) aF)))))
def sj(xp:Xc->Prop):W Fl:=(aQ (Qa (vO (aT (P9 (qa "list") (ao 2)))) (wL "NoSlide" ["number"] xp (ar (wC .non) aF)) ck)
  (aQ (bq 3 (br uc (ar (ao 1) aF)))
  (aQ (qT (tj (ao 2)) (ff [4,5]) (si xp))
  (bN (jL 3)))))
theorem vq{R:aO}{ps:List Rat}{s:dM}(h:cU R ps)(hk:s.k<ps.length)(hl:s.l<ps.length)(e:Qm R ps s=true):Me R ps s:=by unfold Qm at e;simp only[Uc,V1,Vs,Ua]at e;obtain⟨e1,_,e3,e4⟩:=e;obtain⟨m1,m2,m3,_⟩:=h.ms hk hl s.kw s.lw;have le:=Wf.mp e4;exact⟨hk,hl,e1,Rat.le_of_lt e3,VI le m2,VI le m3⟩
structure Tn (R:aO) (ps:List Rat) (D:Nat):Prop where
 ok:cU R ps
 d0:0<D
 d1:D<2^1500
 da:∀a∈R.asks,a.size.den∣D
 dp:∀p∈ps,p.den∣D
theorem Tn.slid{R:aO}{ps:List Rat}{D:Nat}{s:dM}(h:Tn R ps D)(hs:Me R ps s)(dm:s.am.den∣D):Tn R (Re ps s) D:=by
 have dk:∀k,k<ps.length->(ps.getD k 0).den∣D:=λk hk=>h.dp _ (by rw[bu hk];exact TV hk)
 have db:∀(k:Nat)(w:Bool),k<ps.length->(Rc (ps.getD k 0) w s.am).den∣D:=λk w hk=>by
  unfold Rc;cases w
  . exact oY h.d0 (dk k hk) dm
  . exact rF h.d0 (dk k hk) dm
 have dp':∀p∈Re ps s,p.den∣D:=λp hp=>by
  obtain⟨i,hi,rfl⟩:=UJ hp;rw[<- bu hi,xb hs.k hs.l hs.kl];rw[jW]at hi;split
  . exact db _ _ hs.k
  .
   split
   . exact db _ _ hs.l
   . exact dk i hi
 refine⟨⟨h.ok.ok,by rw[jW];exact h.ok.len,λi hi=>?_,D,h.d0,h.d1,h.da,dp'⟩,h.d0,h.d1,h.da,dp'⟩;rw[jW]at hi;rw[xb hs.k hs.l hs.kl];split
 . rename_i e;subst e;exact Aq (h.ok.lo _ hs.k).1 (h.ok.lo _ hs.k).2 hs.nn hs.kn
 .
  split
  . rename_i e;subst e;exact Aq (h.ok.lo _ hs.l).1 (h.ok.lo _ hs.l).2 hs.nn hs.ln
  . exact h.ok.lo i hi
theorem Hu{R:aO}{ps:List Rat}(h:cU R ps):∀p∈ps,RB 4000 p:=λp hp=>by obtain⟨i,hi,rfl⟩:=UJ hp;rw[<- bu hi];exact(h.rb hi).mono x_
theorem DW{R:aO}{ss:List D}{j:Nat}{qs:List Rat}(h:j<ss.length):mQ R j qs (ss.drop j)=if Rm R qs ss[j]then mQ R (j+1) (Tj qs ss[j]) (ss.drop (j+1))else some j:=by rw[UH h];rfl
theorem GK{ss:List D}{j:Nat}{x:D}(hj:(eh ss)[j]?=some x):∃h:j<ss.length,x=.tup [.int (j:Int),ss[j]]:=by
 have hj':j<ss.length:=by have:=(TR.mp hj).1;simpa[eh]using this
 refine⟨hj',?_⟩;have:(eh ss)[j]?=some (.tup [.int (j:Int),ss[j]]):=by simp[eh,hj']
 rw[this]at hj;exact(Uq hj).symm
theorem ze:∀ds so xp,ds.length=3->cP ds so xp->sj xp (ds.map .d++List.replicate 3 .un) (QL so):=by
 rintro ds so xp - ⟨R,ps,ss,D,rfl,hS,h20,hs,⟨d0,d1,da,dp⟩,h,hx⟩;unfold sj;walk_at "w";refine λa0=>dh _ (λj Z=>∃(qs:List Rat)(a:Addr)(x4 x5:L),Z=[.d (aK R),.d (.lst (ps.map Qq)),.d (.lst ss),.own a (qs.map Qq),x4,x5]/\Tn R qs D/\qs.length=ps.length/\mQ R j qs (ss.drop j)=mQ R 0 ps ss/\gW R qs (ss.drop j)=gW R ps ss) _ ⟨ps,_,_,_,rfl,⟨hS,d0,d1,da,dp⟩,rfl,rfl,rfl⟩ ?_ ?_
 .
  rintro j x Z hj ⟨qs,a,x4,x5,rfl,hD,hl,hb,hr⟩ Q h1 h2 h3' h4;obtain⟨hj',ex⟩:=GK hj;subst ex;have hm:=TV hj';have s3:=hs _ hm;rw[DW hj']at hb;have hr':gW R (Tj qs ss[j]) (ss.drop (j+1))=gW R ps ss:=by rw[<- hr,UH hj'];rfl
  unfold si;walk_at "w";refine⟨R,qs,ss[j],rfl,hD.ok,λs e _ _=>(s3 s e).1.mono x_,?_⟩;walk_at "w"
  cases e:Rm R qs ss[j]with
  | false =>
   rw[e,if_neg (by decide)]at hb;walk_at "w";exact⟨.inr trivial,x_,hx j hb.symm⟩
  | true =>
   rw[e,if_pos rfl]at hb;obtain⟨s,es,hk,hl',e'⟩:=Av e;have dd:=vq hD.ok hk hl' e';have es':m8 ss[j]=some s:=by rw[es];exact gm s
   obtain⟨s4,s5⟩:=s3 s es';have est:Tj qs ss[j]=Re qs s:=by unfold Tj;rw[es']
   rw[est]at hb hr';rw[es];walk_at "w";refine⟨qs,s,rfl,by rw[hD.ok.len];exact hD.ok.ok.few,hk,hl',dd.kl,Hu hD.ok,s4,λc=>?_⟩;walk_at "w";exact h1 _ ⟨_,_,_,_,rfl,hD.slid dd s5,by rw[jW];exact hl,hb,hr'⟩
 .
  rintro Z ⟨qs,a,x4,x5,rfl,hD,hl,hb,hr⟩;have e:ss.drop (eh ss).length=[]:=by simp[eh]
  rw[e]at hb hr;walk_at "w";have h:=h hb.symm a;rw[<- hr]at h;exact h
def i5:FS:=λls so=>∃(R:aO)(k l:Nat)(hk:k<R.asks.length)(hl:l<R.asks.length),ls=[.d (aK R),.d (.int (k:Int)),.d (.int (l:Int))]/\R.Ok/\so (.d (.tup [.str (gj (bO R.n R.asks[k] R.asks[l]).1),.str (gj (bO R.n R.asks[k] R.asks[l]).2)])) ls
def hX:W Fl:=(Qa (aT (aG dR (ar (ao 0) (ar (ao 1) (ar (ax aM (ao 3) (wC (.int 0))) (ar (ao 2) (ar (ax aM (ao 3) (wC (.int 1))) aF))))))) (bN (jL 3)) ck)
def ki:W Fl:=(aQ (qT (AZ (nB (ar (nB (ar (wC (.str "on")) (ar (wC (.str "on")) aF))) (ar (nB (ar (wC (.str "on")) (ar (wC (.str "back")) aF))) (ar (nB (ar (wC (.str "back")) (ar (wC (.str "on")) aF))) aF))))) (bJ 3) hX)
  (bN (nB (ar (wC (.str "back")) (ar (wC (.str "back")) aF)))))
theorem zg{R:aO}{k l:Nat}(hk:k<R.asks.length)(hl:l<R.asks.length)(hR:R.Ok)(aw bw:Bool){Q:Fl->Ev->Prop}(h1:jB R.n R.asks[k] aw R.asks[l] bw=true->∀Z,xW Z [.d (aK R),.d (.int (k:Int)),.d (.int (l:Int))] [.d (aK R),.d (.int (k:Int)),.d (.int (l:Int))]->Q (.rt (.d (.tup [.str (gj aw),.str (gj bw)]))) Z)
  (h2:jB R.n R.asks[k] aw R.asks[l] bw=false->Q .nx [.d (aK R),.d (.int (k:Int)),.d (.int (l:Int)),.d (.tup [.str (gj aw),.str (gj bw)])]) :
  hX [.d (aK R),.d (.int (k:Int)),.d (.int (l:Int)),.d (.tup [.str (gj aw),.str (gj bw)])] Q:=by
 unfold hX;walk_at "w";refine⟨R,k,l,aw,bw,hk,hl,rfl,hR,?_⟩;walk_at "w"
 cases e:jB R.n R.asks[k] aw R.asks[l] bw with
 |true=>exact h1 e _ (aj (aj (aj aP)))
 |false=>exact h2 e
theorem tM:∀ls so,ls.length=3->i5 ls so->ki (ls++List.replicate 1 .un) (aS ls so):=by
 rintro ls so - ⟨R,k,l,hk,hl,rfl,hR,h⟩;unfold ki;walk_at "w";have e1:Str.ofString "on"=gj true:=rfl;have e2:Str.ofString "back"=gj false:=rfl;rw[e1,e2];refine⟨x_,x_,x_,x_,?_⟩;unfold bO at h;unfold fg;refine zg hk hl hR true true (λe Z b=>?_) λe=>?_
 . rw[if_pos e]at h;exact⟨_,b,h⟩
 rw[if_neg (by simp[e])]at h;unfold fg;refine zg hk hl hR true false (λe Z b=>?_) λe=>?_
 . rw[if_pos e]at h;exact⟨_,b,h⟩
 rw[if_neg (by simp[e])]at h;unfold fg;refine zg hk hl hR false true (λe Z b=>?_) λe=>?_
 . rw[if_pos e]at h;exact⟨_,b,h⟩
 rw[if_neg (by simp[e])]at h;unfold fg;exact⟨x_,_,aj (aj (aj aP)),h⟩
def eG:FS:=λls so=>∃(R:aO)(ps:List Rat)(k l:Nat)(hk:k<R.asks.length)(hl:l<R.asks.length),ls=[.d (aK R),.d (.lst (ps.map Qq)),.d (.int (k:Int)),.d (.int (l:Int))]/\cU R ps/\so (.d (Q9 (Rh R ps k l (bO R.n R.asks[k] R.asks[l])))) ls
def fF:W Fl:=(aQ (bq 4 (bp (aG i5 (ar (ao 0) (ar (ao 2) (ar (ao 3) aF))))))
  (aQ (bq 5 (nB (ar (ao 2) (ar (ax aM (ao 4) (wC (.int 0))) (ar (ao 3) (ar (ax aM (ao 4) (wC (.int 1))) aF))))))
  (bN (ax zU (ao 5) (nB (ar (bp (aG gU (ar (ao 0) (ar (ao 1) (ar (ao 5) aF))))) aF))))))
theorem nX:∀ls so,ls.length=4->eG ls so->fF (ls++List.replicate 2 .un) (aS ls so):=by rintro ls so - ⟨R,ps,k,l,hk,hl,rfl,hS,h⟩;unfold fF;walk_at "w";refine⟨R,k,l,hk,hl,rfl,hS.ok,?_⟩;walk_at "w";refine⟨x_,R,ps,k,l,_,_,[],rfl,hS,by rw[hS.len];exact hk,by rw[hS.len];exact hl,?_⟩;walk_at "w";refine⟨x_,v6,v6,x_,_,aj (aj (aj (aj aP))),h⟩
def fR:FS:=λls so=>∃(R:aO)(ps:List Rat),ls=[.d (aK R),.d (.lst (ps.map Qq))]/\cU R ps/\∀a,so (.own a ((qf R 20 ps).map Q9)) ls
def lF:W Fl:=(aQ (bq 5 (bp (aG eG (ar (ao 0) (ar (ao 2) (ar (ax aM (ao 4) (wC (.int 0))) (ar (ax aM (ao 4) (wC (.int 1))) aF)))))))
  (aQ (sT (En 3 (ao 5)))
  (aQ (bq 2 (bp (aG gT (ar (ao 2) (ar (ao 5) aF)))))
  (bq 4 (bp (aG aW (ar (ao 0) (ar (bp (aG bX (ar (ao 0) (ar (ao 2) aF)))) aF))))))))
def kj:W Fl:=(aQ (bq 2 (ao 1))
  (aQ (bq 3 (oM aF))
  (aQ (bq 4 (bp (aG aW (ar (ao 0) (ar (bp (aG bX (ar (ao 0) (ar (ao 2) aF)))) aF)))))
  (aQ (qS (aT (ax qX (ao 4) (wC .non))) lF)
  (bN (jL 3))))))
theorem xE{R:aO}{ps:List Rat}(h:cU R ps){so:L->List L->Prop}(q:so (.d (yO (Rj (Ri R) (Rl R ps)))) [.d (aK R),.d (.lst ((Rl R ps).map λ(k:Nat)=>D.int (k:Int)))]):aW [.d (aK R),.d (.lst ((Rl R ps).map λ(k:Nat)=>D.int (k:Int)))] so:=by refine⟨R,Rl R ps,rfl,?_,λk hk=>by rw[<- h.len];exact(gR hk).1,q⟩;refine T9 (U5 _ _) ?_;rw[UB,h.len];exact h.ok.few
theorem uw{R:aO}{ps:List Rat}(h:cU R ps){so:L->List L->Prop}(q:∀a,so (.own a ((Rl R ps).map λ(k:Nat)=>D.int (k:Int))) [.d (aK R),.d (.lst (ps.map Qq))]):bX [.d (aK R),.d (.lst (ps.map Qq))] so:=by refine⟨R,ps,1800,rfl,h.ok,h.len,λp hp=>?_,x_,q⟩;obtain⟨i,hi,rfl⟩:=UJ hp;rw[<- bu hi];exact h.rb hi
theorem NS{R:aO}{ps:List Rat}(h:cU R ps){k l:Nat}(hk:k<ps.length)(hl:l<ps.length)(w:Bool×Bool):RB 4000 (Rh R ps k l w).am:=by
 show RB 4000 (Rb R ps k w.1 l w.2);rcases(h.ms hk hl w.1 w.2).2.2.2 with e|e
 . rw[e];exact(nQ h hk _).mono x_
 . rw[e];exact(nQ h hl _).mono x_
theorem NT{R:aO}{ps:List Rat}(h:cU R ps):∀p∈ps,RB 4000 p:=λp hp=>by obtain⟨i,hi,rfl⟩:=UJ hp;rw[<- bu hi];exact(h.rb hi).mono x_
theorem tN:∀ls so,ls.length=2->fR ls so->kj (ls++List.replicate 4 .un) (aS ls so):=by
 rintro ls so - ⟨R,ps,rfl,hS,h⟩;unfold kj;walk_at "w";refine⟨x_,λa=>uw hS λb=>?_⟩;walk_at "w";refine xE hS ?_;walk_at "w";have h20:(Rl R ps).length<=20:=by refine T9 (U5 _ _) ?_;rw[UB,hS.len];exact hS.ok.few
 refine⟨λn Z=>∃(qs:List Rat)(done:List dM)(m:Nat)(x5:L),Z=[.d (aK R),.d (.lst (ps.map Qq)),.d (.lst (qs.map Qq)),.own a (done.map Q9),.d (yO (Rj (Ri R) (Rl R qs))),x5]/\cU R qs/\(Rl R qs).length=n/\n<=m/\done.length+m=20/\done++qf R m qs=qf R 20 ps,
  ⟨_,ps,[],20,_,rfl,hS,rfl,h20,rfl,rfl⟩,?_⟩
 rintro n Z ⟨qs,done,m,x5,rfl,hQ,hn,hm,hd,hs⟩
 cases e:Rj (Ri R) (Rl R qs)with
 | none =>
  unfold yO;walk_at "w"
  have e0:qf R m qs=[]:=by
   cases m with
   |zero=>rfl
   |succ m=>unfold qf xc;rw[e];rfl
  rw[e0,US]at hs;subst hs;exact⟨_,aj (aj aP),h a⟩
 | some p =>
  obtain⟨k,l⟩:=p;obtain⟨hk,hl,hkl,hc⟩:=qI (ur R qs) e;obtain⟨hk1,hk2⟩:=gR hk;obtain⟨hl1,hl2⟩:=gR hl;have hk':k<R.asks.length:=by rw[<- hQ.len];exact hk1
  have hl':l<R.asks.length:=by rw[<- hQ.len];exact hl1
  have hkl':k≠l:=by omega
  simp only[yO];walk_at "w";unfold lF;walk_at "w";refine⟨R,qs,k,l,hk',hl',rfl,hQ,?_⟩;have en:xc R qs=some (Rh R qs k l (bO R.n R.asks[k] R.asks[l])):=by unfold xc;rw[e];show some (Rh R qs k l (bO R.n (aR R k) (aR R l)))=_;rw[cw hk',cw hl']
  have ok2:=Hm hQ hk1 hl1 hkl' (bO R.n R.asks[k] R.asks[l]);have less:=Ar hQ hk hl hkl' (bO R.n R.asks[k] R.asks[l]);have arb:=NS hQ hk1 hl1 (bO R.n R.asks[k] R.asks[l]);generalize hs':Rh R qs k l (bO R.n R.asks[k] R.asks[l])=s at *;have sk:s.k=k:=by rw[<- hs'];rfl
  have sl:s.l=l:=by rw[<- hs'];rfl
  walk_at "w";refine⟨?_,qs,s,rfl,by rw[hQ.len];exact hQ.ok.few,by rw[sk];exact hk1,by rw[sl];exact hl1,by rw[sk,sl];exact hkl',NT hQ,arb,λc=>?_⟩
  . exact Ug (show done.length<=20 by omega) x_
  walk_at "w";refine uw ok2 λd=>?_;walk_at "w";refine xE ok2 ?_;walk_at "w"
  cases m with
  |zero=>omega
  | succ m =>
   refine⟨_,by rw[<- hn];exact less,Re qs s,done++[s],m,_,by rw[UE];rfl,ok2,rfl,xL,by simp;omega,?_⟩;rw[<- hs,UQ]
   congr 1
   show s::qf R m (Re qs s)=qf R (m+1) qs
   conv=>rhs;unfold qf
   rw[en]
def eT:FS:=λls so=>∃(a:QW)(p:Rat),ls=[.d (m6 a),.d (Qq p)]/\so (.d (.str (gj (decide (p=a.size))))) ls
def i6:W Fl:=(bN (Cd (aT (ax sW (ao 1) (ax aM (ao 0) (wC (.int 3))))) (wC (.str "on")) (wC (.str "back"))))
theorem sq:∀ls so,ls.length=2->eT ls so->i6 (ls++List.replicate 0 .un) (aS ls so):=by
 rintro ls so - ⟨a,p,rfl,h⟩;unfold i6;have es:m6 a=.tup [.str a.nm,.int a.one,.int a.other,Qq a.size]:=rfl;rw[es]at h ⊢;walk_at "w";by_cases hp:p=a.size
 . rw[if_pos hp];rw[UI hp]at h;exact⟨_,aj (aj aP),h⟩
 . rw[if_neg hp];rw[Ul hp]at h;exact⟨_,aj (aj aP),h⟩
def dC:FS:=λls so=>∃(R:aO)(ps:List Rat)(ks:List Nat)(ws:List Bool),ls=[.d (aK R),.d (.lst (ps.map Qq)),.d (.lst (ks.map λ(k:Nat)=>D.int (k:Int))),.d (.lst (ws.map gQ))]/\ps.length=R.asks.length/\ws.length=R.asks.length/\ks.length<=20/\R.asks.length<=20 /\
 so (.d (.bl ((List.range R.asks.length).all (Rv R ps ks ws)))) ls
def fK:W Fl:=(Qa (Ii (aT (ax (yn true) (ao 4) (ao 2))) (Ii (aT (ax BC (ax aM (ao 5) (wC (.int 3))) (wC (.tup [(.int 0),(.int 1)])))) (aT (ax BC (ax aM (ao 3) (ao 4)) (aG eT (ar (ao 5) (ar (ax aM (ao 1) (ao 4)) aF))))))) (bN (wC (.bl false))) ck)
def dS:W Fl:=(aQ (qT (tj (ax aM (ao 0) (wC (.int 1)))) (ff [4,5]) fK)
  (bN (wC (.bl true))))
theorem Mu(v w:Bool):Qg (gQ v) (.str (gj w))=decide (v=w):=by cases v<;>cases w<;>decide +kernel
theorem lj:∀ls so,ls.length=4->dC ls so->dS (ls++List.replicate 2 .un) (aS ls so):=by
 rintro ls so - ⟨R,ps,ks,ws,rfl,hl,hw,h20,hn,h⟩;unfold dS;walk_at "w";rw[Dq];refine nJ (enc:=λ(k:Nat)=>D.tup [.int (k:Int),m6 (aR R k)]) (List.range R.asks.length) (λpre Z=>pre.all (Rv R ps ks ws)=true/\∃x4 x5,Z=[.d (aK R),.d (.lst (ps.map Qq)),.d (.lst (ks.map λ(k:Nat)=>D.int (k:Int))),.d (.lst (ws.map gQ)),x4,x5]) _ ⟨rfl,_,_,rfl⟩ ?_ ?_
 .
  rintro pre k suf Z hsp ⟨hp,x4,x5,rfl⟩ Q h1 h2 h3 h4
  have hk:k<R.asks.length:=by
   have:k∈List.range R.asks.length:=by rw[hsp];simp
   simpa using this
  unfold fK;walk_at "w";have ek:Rv R ps ks ws k=(decide (k∈ks) ||decide (R.asks[k].size=0) ||decide (ws[k]=decide (ps[k]=R.asks[k].size))):=by unfold Rv;rw[yK hk,mn (show k<ps.length by omega),TX,TM (show k<ws.length by omega)];rfl
  have go:Rv R ps ks ws k=true->(pre++[k]).all (Rv R ps ks ws)=true:=λz=>by rw[List.all_append,hp,List.all_cons,z];rfl
  have no:Rv R ps ks ws k=false->(List.range R.asks.length).all (Rv R ps ks ws)=false:=λz=>by rw[hsp,List.all_append,List.all_cons,z,VR,Bool.and_false]
  refine⟨rfl,w5 ks,?_⟩;rw[uW,Gh hk];by_cases c1:k∈ks
  . rw[if_neg (by simp[c1])];exact h1 _ ⟨go (by rw[ek];simp[c1]),_,_,rfl⟩
  rw[if_pos (by simp[c1])];refine⟨zR 0,?_⟩;have ez:Qg (Qq R.asks[k].size) (.tup [.int 0,.int 1])=decide (R.asks[k].size=0):=G8 _ 0;rw[ez];by_cases c2:R.asks[k].size=0
  . rw[if_neg (by simp[c2])];exact h1 _ ⟨go (by rw[ek];simp[c2]),_,_,rfl⟩
  rw[if_pos (by simp[c2])];refine⟨_,aY xL,_,aY xL,_,_,rfl,dJ _,dJ _,?_⟩;rw[Mu];by_cases c3:ws[k]=decide (ps[k]=R.asks[k].size)
  . rw[if_neg (by rw[UI c3];decide)];exact h1 _ ⟨go (by rw[ek,UI c3,Bool.or_true]),_,_,rfl⟩
  . rw[if_pos (Ul c3)];refine h4 _ _ ⟨_,aj (aj (aj (aj aP))),?_⟩;rw[no (by rw[ek,Ul c1,Ul c2,Ul c3];rfl)]at h;exact h
 . rintro Z ⟨hp,x4,x5,rfl⟩;rw[hp]at h;exact⟨_,aj (aj (aj (aj aP))),h⟩
def b8:FS:=λls so=>∃(R:aO)(ks:List Nat),ls=[.d (aK R),.d (.lst (ks.map λ(k:Nat)=>D.int (k:Int)))]/\R.Ok/\(∀k∈ks,k<R.asks.length)/\so (.d (Qq (bP R ks))) ls
def fM:W Fl:=(bq 2 (bp (aG ph (ar (ao 2) (ar (ax aM (ax aM (ax aM (ao 0) (wC (.int 1))) (ao 3)) (wC (.int 3))) aF)))))
def dU:W Fl:=(aQ (bq 2 (wC (.tup [(.int 0),(.int 1)])))
  (aQ (qT (AZ (ao 1)) (bJ 3) fM)
  (bN (aG vi (ar (ao 2) (ar (wC (.tup [(.int 1),(.int 2)])) aF))))))
theorem DX:RB 2 (1 / 2:Rat):=by
 have e:(1 / 2:Rat).num=1/\(1 / 2:Rat).den=2:=by decide +kernel
 unfold RB;rw[e.1,e.2];decide
theorem GL:Qq (1 / 2:Rat)=.tup [.int 1,.int 2]:=by
 have e:(1 / 2:Rat).num=1/\(1 / 2:Rat).den=2:=by decide +kernel
 unfold Qq;rw[e.1,e.2];rfl
theorem DY{R:aO}(hR:R.Ok):∀(ks:List Nat)(g:Rat),(∀k∈ks,k<R.asks.length)->RB 1540 g->RB 1540 (Rq R ks g)
 |[],g,_,h=>h
 | k::ks,g,hk,h=>by
  show RB 1540 (Rq R ks _);refine DY hR ks _ (λx hx=>hk x (TL _ hx)) ?_;dsimp only;split
  . rw[g9 (hk k TQ)];exact hR.rb (TV _)
  . exact h
theorem DZ{R:aO}(hR:R.Ok){ks:List Nat}(hk:∀k∈ks,k<R.asks.length):RB 1542 (bP R ks):=(DY hR ks 0 hk (RB.zero.mono x_)).mul DX
theorem ll:∀ls so,ls.length=2->b8 ls so->dU (ls++List.replicate 2 .un) (aS ls so):=by
 rintro ls so - ⟨R,ks,rfl,hR,hk,h⟩;unfold dU;walk_at "w";refine dh _ (λj Z=>∃(g:Rat)(x:L),Z=[.d (aK R),.d (.lst (ks.map λ(k:Nat)=>D.int (k:Int))),.d (Qq g),x]/\RB 1540 g/\Rq R (ks.drop j) g=Rq R ks 0) _ ⟨0,_,rfl,RB.zero.mono x_,rfl⟩ ?_ ?_
 .
  rintro j x Z hj ⟨g,x3,rfl,hg,e⟩ Q h1 h2 h3 h4;rw[Ui]at hj
  have hj':j<ks.length:=by
   rcases Nat.lt_or_ge j ks.length with q|q
   . exact q
   . rw[VA q]at hj;exact absurd hj v6
  rw[TM hj']at hj;cases hj;have hk':=hk _ (TV hj');have rb:=hR.rb (TV hk');rw[UH hj']at e;unfold fM;walk_at "w";refine⟨_,aY hk',?_⟩;walk_at "w";refine⟨_,_,rfl,hg.mono x_,rb.mono x_,?_⟩;walk_at "w";refine h1 _ ⟨_,_,rfl,?_,?_⟩
  .
   split
   . exact rb
   . exact hg
  .
   rw[<- e]
   show _=Rq R _ (if g<R.sz ks[j]then R.sz ks[j]else g)
   rw[yK hk']
 . rintro Z ⟨g,x,rfl,hg,e⟩;rw[TY,V9]at e;walk_at "w";refine⟨g,1 / 2,by rw[GL],hg.mono x_,DX.mono x_,?_⟩;walk_at "w";have e':g=Rq R ks 0:=e;rw[e'];exact⟨_,aj (aj aP),h⟩
def cq:FS:=λls so=>∃(R:aO)(k:Nat)(hk:k<R.asks.length),ls=[.d (.int (k:Int)),.d (aK R)]/\so (.d (.int (Ro R.asks[k]))) []
def cJ:W L:=(aG cG (ar (ao 1) (ar (ao 0) aF)))
theorem i7:∀a d so,cq [.d a,.d d] so->cJ [.d a,.d d] (λr _=>so r []):=by rintro a d so ⟨R,k,hk,e,h⟩;cases e;unfold cJ;walk_at "w";exact⟨R,k,hk,rfl,h⟩
def cz:FS:=λls so=>∃(R:aO)(ks:List Nat),ls=[.d (aK R),.d (.lst (ks.map λ(k:Nat)=>D.int (k:Int)))]/\ks.length<=20/\(∀k∈ks,k<R.asks.length) /\
 ∀(a:Addr)(os:List Nat),os.Perm ks->os.Pairwise (λi j=>Rp R i<=Rp R j)->so (.own a (os.map λ(k:Nat)=>D.int (k:Int))) ls
def eH:W Fl:=(bN (CW cq 0 (ao 1)))
theorem mR:∀ls so,ls.length=2->cz ls so->eH (ls++List.replicate 0 .un) (aS ls so):=by
 rintro ls so - ⟨R,ks,rfl,hl,hk,h⟩;unfold eH;walk_at "w";refine⟨ks.map λ(k:Nat)=>(k:Int),λn=>(Rp R n.toNat:Int),by rw[UP];rfl,by rw[TY];omega,λn hn=>?_,λa out op os=>?_⟩
 . obtain⟨k,hkm,rfl⟩:=UY.mp hn;have hk':=hk k hkm;refine⟨R,k,hk',rfl,?_⟩;show D.int _=D.int ((Rp R ((k:Int)).toNat:Nat):Int);rw[UZ];unfold Rp;rw[TX,TM hk'];rfl
 .
  obtain⟨ms,rfl⟩:∃ms:List Nat,out=ms.map λ(k:Nat)=>(k:Int):=by
   refine⟨out.map Int.toNat,?_⟩;rw[UP]
   conv=>lhs;rw[<- List.map_id out]
   refine Vx λn hn=>?_;obtain⟨k,_,rfl⟩:=UY.mp (op.mem_iff.mp hn);simp
  have inj:∀{l1 l2:List Nat},(l1.map λ(k:Nat)=>(k:Int)).Perm (l2.map λ(k:Nat)=>(k:Int))->l1.Perm l2:=λ{l1 l2} p=>by have:=p.map Int.toNat;rw[UP,UP]at this;simpa[Function.comp_def]using this
  refine⟨_,aj (aj aP),?_⟩
  have:=h a ms (inj op) (by
   rw[List.pairwise_map]at os
   exact os.imp λ{i j} q=>by
    simp only[UZ]at q
    omega)
  rw[UP];exact this
def dW:FS:=λls so=>∃(R:aO)(k:Nat),ls=[.d (aK R),.d (.int (k:Int))]/\k<R.asks.length/\so (.d (.str (gj (tI R k)))) ls
def km:W Fl:=(bN (Cd (aT (ax vP (ax aM (ax aM (ax aM (ao 0) (wC (.int 1))) (ao 1)) (wC (.int 1))) (ax aM (ax aM (ax aM (ao 0) (wC (.int 1))) (ao 1)) (wC (.int 2))))) (wC (.str "on")) (wC (.str "back"))))
theorem tO:∀ls so,ls.length=2->dW ls so->km (ls++List.replicate 0 .un) (aS ls so):=by
 rintro ls so - ⟨R,k,rfl,hk,h⟩;have e:tI R k=decide (R.asks[k].one<R.asks[k].other):=by unfold tI;rw[TX,TM hk];rfl
 rw[e]at h;unfold km;walk_at "w";refine⟨_,aY hk,?_⟩;walk_at "w";refine⟨_,aY hk,?_⟩;walk_at "w";by_cases c:R.asks[k].one<R.asks[k].other
 . rw[if_pos (by omega)];rw[UI c]at h;exact⟨_,aj (aj aP),h⟩
 . rw[if_neg (by omega)];rw[Ul c]at h;exact⟨_,aj (aj aP),h⟩
def fX:FS:=λls so=>∃(R:aO)(ps:List Rat)(k:Nat)(w:Bool),ls=[.d (aK R),.d (.lst (ps.map Qq)),.d (.int (k:Int)),.d (gQ w)]/\k<R.asks.length/\k<ps.length/\RB 1900 (R.sz k)/\RB 1900 (ps.getD k 0)/\so (.d (Qq (cF R ps k w))) ls
def su:W Fl:=(aQ (bq 4 (ax aM (ax aM (ax aM (ao 0) (wC (.int 1))) (ao 2)) (wC (.int 3))))
  (aQ (bq 5 (bp (Cd (aT (ax sW (aG dW (ar (ao 0) (ar (ao 2) aF))) (wC (.str "on")))) (ax aM (ao 1) (ao 2)) (aG eR (ar (ao 4) (ar (ax aM (ao 1) (ao 2)) aF))))))
  (bN (aG eR (ar (Cd (aT (ax sW (ao 3) (aG dW (ar (ao 0) (ar (ao 2) aF))))) (ao 4) (wC (.tup [(.int 0),(.int 1)]))) (ar (ao 5) aF))))))
theorem Mv(v w:Bool):Qg (gQ v) (.str (gj w))=decide (v=w):=by cases v<;>cases w<;>decide +kernel
theorem AB{p q:Rat}{b c:Bool}{e:Ev}{so:L->List L->Prop}(hp:RB 1900 p)(hq:RB 3802 q)(h:so (.d (Qq ((if b=c then p else 0)-q))) e)(K:L->Prop)(hK:∀r,so r e->K r) :
  (if decide (b=c)=true then eR [.d (Qq p),.d (Qq q)] λr _=>K r else eR [.d (.tup [.int 0,.int 1]),.d (Qq q)] λr _=>K r):=by
 by_cases x:b=c
 . rw[if_pos x]at h;rw[if_pos (UI x)];exact iD (hp.mono x_) (hq.mono x_) (hK _ h)
 . rw[if_neg x]at h;rw[if_neg (by simp[x])];exact iD (p:=0) (RB.zero.mono x_) (hq.mono x_) (hK _ h)
theorem D1{R:aO}{ps:List Rat}(h:cU R ps){k:Nat}(hk:k<ps.length)(w:Bool):RB 5703 (cF R ps k w):=by
 have a:RB 1900 (if w=tI R k then R.sz k else 0):=by
  split
  . exact(h.sz_rb hk).mono x_
  . exact RB.zero.mono x_
 have b:RB 3802 (if tI R k=true then ps.getD k 0 else R.sz k-ps.getD k 0):=by
  split
  . exact(h.rb hk).mono x_
  . exact((h.sz_rb hk).sub (h.rb hk)).mono x_
 exact(a.sub b).mono x_
theorem AC{R:aO}{ps:List Rat}{D:Nat}(hl:ps.length=R.asks.length)(d0:0<D)(da:∀a∈R.asks,a.size.den∣D)(dp:∀p∈ps,p.den∣D){k:Nat}(hk:k<ps.length)(w:Bool):(cF R ps k w).den∣D:=by
 have s:(R.sz k).den∣D:=by rw[g9 xL];exact da _ (TV _)
 have p:(ps.getD k 0).den∣D:=by rw[bu hk];exact dp _ (TV _)
 unfold cF;refine oY d0 ?_ ?_
 .
  split
  . exact s
  . exact⟨D,(Nat.one_mul D).symm⟩
 .
  split
  . exact p
  . exact oY d0 s p
theorem zh:∀ls so,ls.length=4->fX ls so->su (ls++List.replicate 2 .un) (aS ls so):=by
 rintro ls so - ⟨R,ps,k,w,rfl,hk,hp,b1,b2,h⟩;unfold su;walk_at "w";refine⟨_,aY hk,?_⟩;walk_at "w";refine⟨R,k,rfl,hk,?_⟩;walk_at "w";unfold cF at h;rw[<- yK hk];by_cases c:tI R k=true
 . rw[if_pos c]at h ⊢;refine⟨_,aY hp,?_⟩;rw[<- mn hp];refine⟨R,k,rfl,hk,?_⟩;refine⟨dJ _,dJ _,?_⟩;rw[Mv];exact AB b1 (b2.mono x_) h _ λr hr=>⟨_,aj (aj (aj (aj aP))),hr⟩
 . rw[if_neg c]at h ⊢;refine⟨_,aY hp,?_⟩;rw[<- mn hp];refine iD (b1.mono x_) (b2.mono x_) ?_;refine⟨R,k,rfl,hk,?_⟩;refine⟨dJ _,dJ _,?_⟩;rw[Mv];exact AB b1 ((b1.sub b2).mono x_) h _ λr hr=>⟨_,aj (aj (aj (aj aP))),hr⟩
def gy:FS:=λls so=>∃(R:aO)(ps:List Rat)(ks:List Nat)(ws:List Bool),ls=[.d (aK R),.d (.lst (ps.map Qq)),.d (.lst (ks.map λ(k:Nat)=>D.int (k:Int))),.d (.lst (ws.map gQ))]/\cU R ps/\ws.length=R.asks.length/\ks.length<=20/\(∀k∈ks,k<R.asks.length) /\
 ∀os:List Nat,os.Perm ks->os.Pairwise (λi j=>Rp R i<=Rp R j)->so (.d (.bl (Rw (bP R ks) 0 (Rx R ps ws os)))) ls
def ju:W Fl:=(aQ (bq 5 (bp (aG kd (ar (ao 5) (ar (bp (aG fX (ar (ao 0) (ar (ao 1) (ar (ao 6) (ar (ax aM (ao 3) (ao 6)) aF)))))) aF)))))
  (Qa (P7 (aT (aG dQ (ar (ao 4) (ar (ao 5) aF)))) (aT (aG dQ (ar (ao 5) (ar (bp (aG eR (ar (wC (.tup [(.int 0),(.int 1)])) (ar (ao 4) aF)))) aF))))) (bN (wC (.bl false))) ck))
def ia:W Fl:=(aQ (bq 4 (bp (aG b8 (ar (ao 0) (ar (ao 2) aF)))))
  (aQ (bq 5 (wC (.tup [(.int 0),(.int 1)])))
  (aQ (qT (AZ (aG cz (ar (ao 0) (ar (ao 2) aF)))) (bJ 6) ju)
  (bN (wC (.bl true))))))
theorem GM(hf t g:Rat)(gs:List Rat):Rw hf t (g::gs)=(!(decide (hf<t+g) ||decide (t+g<0-hf)) && Rw hf (t+g) gs):=rfl
theorem qp:∀ls so,ls.length=4->gy ls so->ia (ls++List.replicate 3 .un) (aS ls so):=by
 rintro ls so - ⟨R,ps,ks,ws,rfl,hS,hw,h20,hk,h⟩;have hb:=DZ hS.ok hk;obtain⟨M,d0,d1,da,dp⟩:=hS.cd;have hl:=hS.len;unfold ia;walk_at "w";refine⟨R,ks,rfl,hS.ok,hk,?_⟩;walk_at "w";refine⟨R,ks,rfl,h20,hk,λa os op ow=>?_⟩;walk_at "w";have h:=h os op ow;have hko:∀k∈os,k<R.asks.length:=λk m=>hk k (op.mem_iff.mp m);have hol:os.length<=20:=by rw[op.length_eq];exact h20
 refine dh _ (λj Z=>∃(t:Rat)(x:L),Z=[.d (aK R),.d (.lst (ps.map Qq)),.d (.lst (ks.map λ(k:Nat)=>D.int (k:Int))),.d (.lst (ws.map gQ)),.d (Qq (bP R ks)),.d (Qq t),x]/\RB (5704*j+1) t/\t.den∣M/\Rw (bP R ks) t (Rx R ps ws (os.drop j))=Rw (bP R ks) 0 (Rx R ps ws os)) _ ⟨0,_,rfl,RB.zero,⟨M,(Nat.one_mul M).symm⟩,rfl⟩ ?_ ?_
 .
  rintro j x Z hj ⟨t,x6,rfl,ht,td,e⟩ Q h1 h2 h3 h4;rw[Ui]at hj
  have hj':j<os.length:=by
   rcases Nat.lt_or_ge j os.length with q|q
   . exact q
   . rw[VA q]at hj;exact absurd hj v6
  rw[TM hj']at hj;cases hj;have hk':=hko _ (TV hj');have hkp:os[j]<ps.length:=by omega
  rw[UH hj']at e;have gr:=D1 hS hkp (ws.getD os[j] true);have gd:=AC hl d0 da dp hkp (ws.getD os[j] true);have sr:=ht.add gr;have sd:=rF d0 td gd;unfold ju;walk_at "w";have ew:ws[os[j]]'(by omega)=ws.getD os[j] true:=by rw[TX,TM xL];rfl
  refine⟨_,aY xL,?_⟩;rw[ew];have b6:5704*(j+1)+1<=114081:=by omega
  have tn:t.den*(cF R ps os[j] (ws.getD os[j] true)).den<2^9000 :=
   TU (bB (Ug (V6 d0 td) d1) (Ug (V6 d0 gd) d1)) (Uh x_ x_)
  refine⟨R,ps,_,_,rfl,hk',hkp,(hS.sz_rb hkp).mono x_,(hS.rb hkp).mono x_,?_⟩;refine⟨t,_,rfl,ht.mono xL,gr.mono x_,tn,?_⟩;have e:Rw (bP R ks) t (cF R ps os[j] (ws.getD os[j] true)::Rx R ps ws (os.drop (j+1)))=Rw (bP R ks) 0 (Rx R ps ws os):=e;rw[GM]at e;refine⟨_,_,rfl,hb.mono x_,sr.mono xL,?_⟩
  show if _ then _ else _
  by_cases c1:bP R ks<t+cF R ps os[j] (ws.getD os[j] true)
  . rw[if_pos (UI c1)];rw[UI c1,Bool.true_or,Bool.not_true,VR]at e;refine h4 _ _ ⟨_,aj (aj (aj (aj aP))),?_⟩;rw[<- e]at h;exact h
  rw[if_neg (by rw[Ul c1];decide)];refine iD (p:=0) (RB.zero.mono x_) (hb.mono x_) ?_;have mb:RB 1544 (0-bP R ks):=(RB.zero.sub hb).mono x_;refine⟨_,_,rfl,sr.mono xL,mb.mono x_,?_⟩
  show if _ then _ else _
  by_cases c2:t+cF R ps os[j] (ws.getD os[j] true)<0-bP R ks
  . rw[if_pos (UI c2)];rw[UI c2,Bool.or_true,Bool.not_true,VR]at e;refine h4 _ _ ⟨_,aj (aj (aj (aj aP))),?_⟩;rw[<- e]at h;exact h
  . rw[if_neg (by rw[Ul c2];decide)];rw[Ul c1,Ul c2,Bool.or_self,Bool.not_false,VL]at e;exact h1 _ ⟨_,_,rfl,sr.mono xL,sd,e⟩
 . rintro Z ⟨t,x,rfl,_,_,e⟩;rw[TY,V9]at e;walk_at "w";rw[<- e]at h;exact⟨_,aj (aj (aj (aj aP))),h⟩
def bQ:FS:=λls so=>∃(R:aO)(ps:List Rat)(d:D)(M:Nat),ls=[.d (aK R),.d (.lst (ps.map Qq)),.d d]/\cU R ps/\(0<M/\M<2^1500/\(∀a∈R.asks,a.size.den∣M)/\(∀p∈ps,p.den∣M)) /\
 (∀x y,d=.tup [x,y]->(∀xs,y=.lst xs->xs.length<=99)/\∃ss,x=.lst ss/\ss.length<=99/\∀u∈ss,∀s,m8 u=some s->RB 4000 s.am/\s.am.den∣M) /\
 ((∀(ss:List D)(ws:List Bool),d=.tup [.lst ss,.lst (ws.map gQ)]->ws.length=R.asks.length->mQ R 0 ps ss=none->Rj (Ri R) (Rl R (gW R ps ss))=none->False)->so (.d (.bl false)) ls) /\
 ∀(ss:List D)(ws:List Bool)(os:List Nat),d=.tup [.lst ss,.lst (ws.map gQ)]->ws.length=R.asks.length->mQ R 0 ps ss=none->Rj (Ri R) (Rl R (gW R ps ss))=none->os.Perm (Rl R (gW R ps ss))->os.Pairwise (λi j=>Rp R i<=Rp R j) ->
  so (.d (.bl ((List.range R.asks.length).all (Rv R (gW R ps ss) (Rl R (gW R ps ss)) ws) && Rw (bP R (Rl R (gW R ps ss))) 0 (Rx R (gW R ps ss) ws os)))) ls
def iE:W Fl:=(bN (nq (aG dC (ar (ao 0) (ar (ao 3) (ar (ao 4) (ar (ax aM (ao 2) (wC (.int 1))) aF))))) (aG gy (ar (ao 0) (ar (ao 3) (ar (ao 4) (ar (ax aM (ao 2) (wC (.int 1))) aF)))))))
def iF:W Fl:=(aQ (Qa (aT (ax qX (aG aW (ar (ao 0) (ar (ao 4) aF))) (wC .non))) (bN (wC (.bl false))) ck)
  iE)
def iG:W Fl:=(aQ (bq 4 (bp (aG bX (ar (ao 0) (ar (ao 3) aF)))))
  iF)
def iH:W Fl:=(aQ (Ko (λxt=>(bq 3 (bp (rm cP xt (ar (ao 0) (ar (ao 1) (ar (ax aM (ao 2) (wC (.int 0))) aF))))))) "NoSlide" (bN (wC (.bl false))))
  iG)
def gz:W Fl:=(aQ (Qa (P7 (vO (aT (P9 (qa "tuple") (ao 2)))) (P7 (aT (ax BC (br fj (ar (ao 2) aF)) (wC (.int 2)))) (vO (aT (aG iZ (ar (ao 0) (ar (ax aM (ao 2) (wC (.int 1))) aF))))))) (bN (wC (.bl false))) ck)
  iH)
theorem J7{n:Nat}{d:D}(h:Hq n d=true):∃ws:List Bool,d=.lst (ws.map gQ)/\ws.length=n:=by
 unfold Hq at h
 cases d with
 | lst xs =>
  rw[Uc,Ua]at h;obtain⟨h1,h2⟩:=h;refine⟨xs.map λx=>(mq x).getD true,?_,by rw[TY];exact h1⟩
  congr 1
  rw[UP]
  conv=>lhs;rw[<- List.map_id xs]
  refine Vx λx hx=>?_;have:=UW.mp h2 x hx;rw[u4]at this;obtain⟨w,e⟩:=Option.isSome_iff_exists.mp this;show x=gQ ((mq x).getD true);rw[e];exact u3 e
 |_=>cases h
theorem GN{n:Nat}{ws:List Bool}(h:ws.length=n):Hq n (.lst (ws.map gQ))=true:=by unfold Hq;rw[Uc,Ua,TY];refine⟨h,?_⟩;rw[List.all_map,UW];intro w _;show vR (.str (gj w))=true;rw[u4,rH];rfl
theorem AD{R:aO}{M:Nat}:∀(ss:List D)(i:Nat)(ps:List Rat),Tn R ps M->(∀u∈ss,∀s,m8 u=some s->RB 4000 s.am/\s.am.den∣M)->mQ R i ps ss=none->Tn R (gW R ps ss) M
 |[],_,_,h,_,_=>h
 | d::ss,i,ps,h,ha,hb=>by
  unfold mQ at hb
  cases e:Rm R ps d with
  |false=>rw[e]at hb;cases hb
  | true =>
   rw[e,if_pos rfl]at hb;obtain⟨s,es,hk,hl,e'⟩:=Av e;have es':m8 d=some s:=by rw[es];exact gm s
   have st:Tj ps d=Re ps s:=by unfold Tj;rw[es']
   show Tn R (gW R (Tj ps d) ss) M;rw[st]at hb ⊢;exact AD ss (i+1) _ (h.slid (vq h.ok hk hl e') (ha d TQ s es').2) (λu hu=>ha u (TL _ hu)) hb
theorem zi{as bs:List D}{x y:D}(e:D.tup [.lst as,x]=.tup [.lst bs,y]):as=bs:=by injection e with e;injection e with e _;injection e
theorem Mw(R:aO)(ks:List Nat):∃os:List Nat,os.Perm ks/\os.Pairwise λi j=>Rp R i<=Rp R j:=by refine⟨ks.mergeSort λi j=>decide (Rp R i<=Rp R j),List.mergeSort_perm _ _,?_⟩;have:=List.pairwise_mergeSort (le:=λi j=>decide (Rp R i<=Rp R j)) (λa b c h1 h2=>by simp only[Ua]at *;omega) (λa b=>by simp only[Bool.or_eq_true,Ua];omega) ks;exact this.imp λh=>by simpa using h
theorem NU{k:W Fl}{R:aO}{P d x3 x4:D}{so:Fl->Ev->Prop}(hy:∀x y,d=.tup [x,y]->∀xs,y=.lst xs->xs.length<=99)
  (h1:(∀(x:D)(ws:List Bool),d=.tup [x,.lst (ws.map gQ)]->ws.length=R.asks.length->False)->so (.rt (.d (.bl false))) [.d (aK R),.d P,.d d,.un,.un])
  (h2:∀(x:D)(ws:List Bool),d=.tup [x,.lst (ws.map gQ)]->ws.length=R.asks.length->k [.d (aK R),.d P,.d d,.un,.un] so) :
  aQ (Qa (P7 (vO (aT (P9 (qa "tuple") (ao 2)))) (P7 (aT (ax BC (br fj (ar (ao 2) aF)) (wC (.int 2)))) (vO (aT (aG iZ (ar (ao 0) (ar (ax aM (ao 2) (wC (.int 1))) aF))))))) (bN (wC (.bl false))) ck) k [.d (aK R),.d P,.d d,.un,.un] so:=by
 by_cases ht:∃xs,d=.tup xs
 .
  obtain⟨xs,rfl⟩:=ht;by_cases hl:xs.length=2
  .
   match xs,hl with
   | [x,y],_ =>
    walk_at "w";refine⟨R,y,rfl,hy x y rfl,?_⟩;walk_at "w"
    cases e:Hq R.asks.length y with
    | false =>
     walk_at "w";refine h1 λx' ws ed hw=>?_;cases ed;rw[GN hw]at e;cases e
    | true =>
     obtain⟨ws,ew,hw⟩:=J7 e;walk_at "w";exact h2 x ws (by rw[ew]) hw
  .
   have hn:¬((xs.length:Int)=2):=by omega
   walk_at "w";rw[if_pos (by simpa using hn)];refine h1 λx' ws ed hw=>?_;cases ed;exact hl rfl
 .
  have ei:nE "tuple" d=false:=by
   cases d<;>first
    |exact absurd ⟨_,rfl⟩ ht
    |rfl
  walk_at "w";rw[ei];walk_at "w";refine h1 λx' ws ed hw=>ht ⟨_,ed⟩
theorem Mx{k:W Fl}{R:aO}{ps:List Rat}{ss:List D}{y:D}{M:Nat}{so:Fl->Ev->Prop}(hS:cU R ps)(h99:ss.length<=99)(ha:∀u∈ss,∀s,m8 u=some s->RB 4000 s.am/\s.am.den∣M)(hD:0<M/\M<2^1500/\(∀a∈R.asks,a.size.den∣M)/\(∀p∈ps,p.den∣M))
  (h1:mQ R 0 ps ss=none->k [.d (aK R),.d (.lst (ps.map Qq)),.d (.tup [.lst ss,y]),.d (.lst ((gW R ps ss).map Qq)),.un] so) (h2:∀i,mQ R 0 ps ss=some i->so (.rt (.d (.bl false))) [.d (aK R),.d (.lst (ps.map Qq)),.d (.tup [.lst ss,y]),.un,.un]) :
  aQ (Ko (λxt=>(bq 3 (bp (rm cP xt (ar (ao 0) (ar (ao 1) (ar (ax aM (ao 2) (wC (.int 0))) aF))))))) "NoSlide" (bN (wC (.bl false)))) k [.d (aK R),.d (.lst (ps.map Qq)),.d (.tup [.lst ss,y]),.un,.un] so:=by
 walk_at "w";refine⟨R,ps,ss,M,rfl,hS,h99,ha,hD,λe a=>?_,λi e=>⟨by rw[beq_self_eq_true,Bool.true_or],h2 i e⟩⟩;walk_at "w";exact h1 e
theorem J8{k:W Fl}{R:aO}{ps qs:List Rat}{d:D}{so:Fl->Ev->Prop}(hS:cU R qs)
  (h:k [.d (aK R),.d (.lst (ps.map Qq)),.d d,.d (.lst (qs.map Qq)),.d (.lst ((Rl R qs).map λ(k:Nat)=>D.int (k:Int)))] so) :
  aQ (bq 4 (bp (aG bX (ar (ao 0) (ar (ao 3) aF))))) k [.d (aK R),.d (.lst (ps.map Qq)),.d d,.d (.lst (qs.map Qq)),.un] so:=by
 walk_at "w";refine⟨R,qs,4000,rfl,hS.ok,hS.len,Hu hS,x_,λa=>?_⟩;walk_at "w";exact h
theorem D2{R:aO}{qs:List Rat}(hS:cU R qs):(Rl R qs).length<=20/\∀k∈Rl R qs,k<R.asks.length:=by refine⟨?_,λk hk=>by rw[<- hS.len];exact(gR hk).1⟩;unfold Rl;refine T9 (U5 _ _) ?_;rw[UB,hS.len];exact hS.ok.few
theorem J9{k:W Fl}{R:aO}{ps qs:List Rat}{d:D}{so:Fl->Ev->Prop}(hS:cU R qs)
  (h1:Rj (Ri R) (Rl R qs)=none->k [.d (aK R),.d (.lst (ps.map Qq)),.d d,.d (.lst (qs.map Qq)),.d (.lst ((Rl R qs).map λ(k:Nat)=>D.int (k:Int)))] so)
  (h2:Rj (Ri R) (Rl R qs)≠none->so (.rt (.d (.bl false))) [.d (aK R),.d (.lst (ps.map Qq)),.d d,.d (.lst (qs.map Qq)),.d (.lst ((Rl R qs).map λ(k:Nat)=>D.int (k:Int)))]) :
  aQ (Qa (aT (ax qX (aG aW (ar (ao 0) (ar (ao 4) aF))) (wC .non))) (bN (wC (.bl false))) ck) k [.d (aK R),.d (.lst (ps.map Qq)),.d d,.d (.lst (qs.map Qq)),.d (.lst ((Rl R qs).map λ(k:Nat)=>D.int (k:Int)))] so:=by
 walk_at "w";refine⟨R,_,rfl,(D2 hS).1,(D2 hS).2,?_⟩
 cases e:Rj (Ri R) (Rl R qs)with
 | none =>
  unfold yO;walk_at "w";exact h1 e
 | some p =>
  obtain⟨a,b⟩:=p;unfold yO;walk_at "w";exact h2 (by rw[e];exact λz=>nomatch z)
theorem sx{R:aO}{D:Nat}:∀(m i:Nat)(qs:List Rat),Tn R qs D->mQ R i qs ((qf R m qs).map Q9)=none/\gW R qs ((qf R m qs).map Q9)=mr R m qs/\Tn R (mr R m qs) D
 |0,_,_,h=>⟨rfl,rfl,h⟩
 | m+1,i,qs,h=>by
  unfold qf mr
  cases e:xc R qs with
  |none=>exact⟨rfl,rfl,h⟩
  | some u =>
   obtain⟨h1,h2,_⟩:=nR h.ok e;have ha:=Dy h.ok e h.d0 h.da h.dp;have st:Tj qs (Q9 u)=Re qs u:=by unfold Tj;rw[gm]
   obtain⟨r1,r2,r3⟩:=sx m (i+1) (Re qs u) (h.slid h1 ha);refine⟨?_,?_,r3⟩
   .
    show(if Rm R qs (Q9 u)then mQ R (i+1) (Tj qs (Q9 u)) _ else some i)=none
    rw[Dv h1.k h1.l,h2,if_pos rfl,st];exact r1
   . show gW R (Tj qs (Q9 u)) _=_;rw[st];exact r2
theorem xF{R:aO}{D:Nat}:∀(m:Nat)(qs:List Rat),Tn R qs D->∀s∈qf R m qs,RB 4000 s.am/\s.am.den∣D
 |0,_,_,s,hs=>by cases hs
 | m+1,qs,h,s,hs=>by
  unfold qf at hs
  cases e:xc R qs with
  |none=>rw[e]at hs;cases hs
  | some u =>
   rw[e]at hs;obtain⟨h1,_,_,_,h5,_⟩:=nR h.ok e;have ha:=Dy h.ok e h.d0 h.da h.dp;rcases Ue.mp hs with rfl|hs
   . exact⟨h5,ha⟩
   . exact xF m (Re qs u) (h.slid h1 ha) s hs
theorem Ka{as bs:List Bool}(h:as.map gQ=bs.map gQ):as=bs:=by
 have e:∀l:List Bool,(l.map gQ).map (λd=>(mq d).getD true)=l:=λl=>by
  rw[UP]
  conv=>rhs;rw[<- List.map_id l]
  exact Vx λw _=>by show(mq (.str (gj w))).getD true=w;rw[rH];rfl
 rw[<- e as,<- e bs,h]
theorem GO{x y:D}{as bs:List Bool}(e:D.tup [x,.lst (as.map gQ)]=.tup [y,.lst (bs.map gQ)]):as=bs:=by injection e with e;injection e with _ e;injection e with e _;injection e with e;exact Ka e
theorem AE{R:aO}{ps:List Rat}{ss:List D}{ws:List Bool}{M:Nat}{so:L->List L->Prop}(hD:Tn R ps M)(h99:ss.length<=99)(ha:∀u∈ss,∀s,m8 u=some s->RB 4000 s.am/\s.am.den∣M)(hw:ws.length=R.asks.length)
  (h0:(mQ R 0 ps ss=none->Rj (Ri R) (Rl R (gW R ps ss))=none->False)->so (.d (.bl false)) [.d (aK R),.d (.lst (ps.map Qq)),.d (.tup [.lst ss,.lst (ws.map gQ)])])
  (h1:∀os:List Nat,mQ R 0 ps ss=none->Rj (Ri R) (Rl R (gW R ps ss))=none->os.Perm (Rl R (gW R ps ss))->os.Pairwise (λi j=>Rp R i<=Rp R j) ->
   so (.d (.bl ((List.range R.asks.length).all (Rv R (gW R ps ss) (Rl R (gW R ps ss)) ws) && Rw (bP R (Rl R (gW R ps ss))) 0 (Rx R (gW R ps ss) ws os)))) [.d (aK R),.d (.lst (ps.map Qq)),.d (.tup [.lst ss,.lst (ws.map gQ)])]) :
  bQ [.d (aK R),.d (.lst (ps.map Qq)),.d (.tup [.lst ss,.lst (ws.map gQ)])] so:=by
 refine⟨R,ps,_,M,rfl,hD.ok,⟨hD.d0,hD.d1,hD.da,hD.dp⟩,λx y e=>?_,λno=>h0 λa b=>no ss ws rfl hw a b,λss' ws' os e hw' hb hc op ow=>?_⟩
 . cases e;have:=hD.ok.ok.few;exact⟨λxs e=>by cases e;rw[TY];omega,ss,rfl,h99,ha⟩
 . obtain rfl:=GO e;obtain rfl:=zi e;exact h1 os hb hc op ow
theorem xG{R:aO}{ps:List Rat}(hS:cU R ps):Rj (Ri R) (Rl R (mr R 20 ps))=none:=by refine Gq (Ax 20 ps hS ?_);refine T9 (U5 _ _) ?_;rw[UB,hS.len];exact hS.ok.few
theorem Hv{R:aO}{ps:List Rat}(hS:cU R ps):(qf R 20 ps).length<=20:=by refine T9 (u0 20 ps hS) (T9 (U5 _ _) ?_);rw[UB,hS.len];exact hS.ok.few
theorem D3{ss:List dM}{M:Nat}(h:∀s∈ss,RB 4000 s.am/\s.am.den∣M):∀u∈ss.map Q9,∀s,m8 u=some s->RB 4000 s.am/\s.am.den∣M:=λu hu s es=>by obtain⟨x,hx,rfl⟩:=UY.mp hu;rw[gm]at es;cases es;exact h _ hx
theorem GP{R:aO}{ps:List Rat}{M:Nat}{os:List Nat}{so:L->List L->Prop}(hD:Tn R ps M)(op:os.Perm (Rl R (mr R 20 ps)))(ow:os.Pairwise λi j=>Rp R i<=Rp R j)
  (h:so (.d (.bl true)) [.d (aK R),.d (.lst (ps.map Qq)),.d (.tup [.lst ((qf R 20 ps).map Q9),.lst ((Rt R (mr R 20 ps) (bP R (Rl R (mr R 20 ps))) 0 (Ru R (mr R 20 ps)) os).map gQ)])]) :
  bQ [.d (aK R),.d (.lst (ps.map Qq)),.d (.tup [.lst ((qf R 20 ps).map Q9),.lst ((Rt R (mr R 20 ps) (bP R (Rl R (mr R 20 ps))) 0 (Ru R (mr R 20 ps)) os).map gQ)])] so:=by
 obtain⟨r1,r2,r3⟩:=sx 20 0 ps hD;have hc:=xG hD.ok;refine AE hD (by rw[TY];exact T9 (Hv hD.ok) x_) (D3 (xF 20 ps hD)) (by rw[DC,DI r3.ok]) (λno=>(no r1 (by rw[r2];exact hc)).elim) λos' _ _ op' ow'=>?_;rw[r2]at op' ⊢;obtain rfl:=JY hc op ow op' ow';rw[DH r3.ok op,DJ r3.ok op];exact h
theorem AF{R:aO}{M:Nat}{t:Nat}(ht:t<R.n):∀(ss:List D)(i:Nat)(ps:List Rat),Tn R ps M->(∀u∈ss,∀s,m8 u=some s->RB 4000 s.am/\s.am.den∣M)->mQ R i ps ss=none->bH R.n R.asks (gW R ps ss) t<=bH R.n R.asks ps t
 |[],_,_,_,_,_=>Wd
 | d::ss,i,ps,h,ha,hb=>by
  unfold mQ at hb
  cases e:Rm R ps d with
  |false=>rw[e]at hb;cases hb
  | true =>
   rw[e,if_pos rfl]at hb;obtain⟨s,es,hk,hl,e'⟩:=Av e;have es':m8 d=some s:=by rw[es];exact gm s
   have st:Tj ps d=Re ps s:=by unfold Tj;rw[es']
   show bH R.n R.asks (gW R (Tj ps d) ss) t<=_;rw[st]at hb ⊢;have ln:=h.ok.len;refine VI (AF ht ss (i+1) _ (h.slid (vq h.ok hk hl e') (ha d TQ s es').2) (λu hu=>ha u (TL _ hu)) hb) (Wf.mp (Dx h.ok xL xL e' ht))
theorem pC:∀ls so,ls.length=3->bQ ls so->gz (ls++List.replicate 2 .un) (aS ls so):=by
 rintro ls so - ⟨R,ps,d,M,rfl,hS,hM,hd,hf,ht⟩;have bk:∀(b:Bool)(x y:L),so (.d (.bl b)) [.d (aK R),.d (.lst (ps.map Qq)),.d d]->aS [.d (aK R),.d (.lst (ps.map Qq)),.d d] so (.rt (.d (.bl b))) [.d (aK R),.d (.lst (ps.map Qq)),.d d,x,y]:=λb x y h=>⟨_,aj (aj (aj aP)),h⟩;unfold gz;refine NU (x3:=.non) (x4:=.non) (λx y e=>(hd x y e).1) (λno=>bk _ _ _ (hf λss ws e hw _ _=>no _ ws e hw)) λx ws e hw=>?_;subst e;obtain⟨_,ss,rfl,h99,ha⟩:=hd _ _ rfl;unfold iH;refine Mx hS h99 ha hM (λhb=>?_) λi hb=>bk _ _ _ (hf λss' ws' e hw' hb' _=>?_)
 .
  have hQ:cU R (gW R ps ss):=(AD ss 0 ps ⟨hS,hM.1,hM.2.1,hM.2.2.1,hM.2.2.2⟩ ha hb).ok;unfold iG;refine J8 hQ ?_;unfold iF;refine J9 hQ (λhc=>?_) λhc=>bk _ _ _ (hf λss' ws' e hw' hb' hc'=>?_)
  .
   unfold iE;walk_at "w";obtain⟨p1,p2⟩:=D2 hQ;refine⟨R,_,_,ws,rfl,hQ.len,hw,p1,hQ.ok.few,?_⟩;have ht:=ht ss ws;generalize gW R ps ss=qs at *
   cases e:(List.range R.asks.length).all (Rv R qs (Rl R qs) ws)with
   | false =>
    walk_at "w";obtain⟨os,op,ow⟩:=Mw R (Rl R qs);have:=ht os rfl hw hb hc op ow;rw[e,VR]at this;exact bk _ _ _ this
   | true =>
    walk_at "w";refine⟨R,_,_,ws,rfl,hQ,hw,p1,p2,λos op ow=>?_⟩;have:=ht os rfl hw hb hc op ow;rw[e,VL]at this;exact bk _ _ _ this
  . obtain rfl:=zi e;exact hc hc'
 . obtain rfl:=zi e;rw[hb]at hb';cases hb'
def gA:FS:=λls so=>∃(R:aO)(ps:List Rat),ls=[.d (aK R),.d (.lst (ps.map Qq))]/\cU R ps /\
 ∀(a:Addr)(os:List Nat),os.Perm (fE R ps)->os.Pairwise (λi j=>Rp R i<=Rp R j)->so (.own a ((Rt R ps (bP R (fE R ps)) 0 (Ru R ps) os).map gQ)) ls
def jv:W Fl:=(aQ (sY 3 (ao 6) (aG dW (ar (ao 0) (ar (ao 6) aF))))
  (aQ (Qa (aT (aG dQ (ar (ao 4) (ar (bp (aG kd (ar (ao 5) (ar (bp (aG fX (ar (ao 0) (ar (ao 1) (ar (ao 6) (ar (fm 3 (yl 3 (ao 6)) (ax aM (ao 3) (ao 6))) aF)))))) aF)))) aF)))) (sY 3 (ao 6) (aG kf (ar (fm 3 (yl 3 (ao 6)) (ax aM (ao 3) (ao 6))) aF))) ck)
  (bq 5 (bp (aG kd (ar (ao 5) (ar (bp (aG fX (ar (ao 0) (ar (ao 1) (ar (ao 6) (ar (fm 3 (yl 3 (ao 6)) (ax aM (ao 3) (ao 6))) aF)))))) aF)))))))
def jw:W L:=(aG eT (ar (ao 0) (ar (ao 1) aF)))
def ib:W Fl:=(aQ (bq 2 (bp (aG bX (ar (ao 0) (ar (ao 1) aF)))))
  (aQ (bq 3 (oR 2 [] (MJ (ax aM (ao 0) (wC (.int 1))) (ao 1)) (ff [0,1]) mi jw))
  (aQ (bq 4 (bp (aG b8 (ar (ao 0) (ar (ao 2) aF)))))
  (aQ (bq 5 (wC (.tup [(.int 0),(.int 1)])))
  (aQ (qT (AZ (aG cz (ar (ao 0) (ar (ao 2) aF)))) (bJ 6) jv)
  (bN (jL 3)))))))
theorem qq:∀ls so,ls.length=2->gA ls so->ib (ls++List.replicate 5 .un) (aS ls so):=by
 rintro ls so - ⟨R,ps,rfl,hS,h⟩;have hl:=hS.len;have few:=hS.ok.few;have prb:∀p∈ps,RB 1800 p:=λp hp=>by obtain⟨i,hi,rfl⟩:=UJ hp;rw[<- bu hi];exact hS.rb hi
 unfold ib;walk_at "w";refine⟨R,ps,1800,rfl,hS.ok,hl,prb,x_,λa0=>?_⟩;walk_at "w";have e:Eo (R.asks.map m6) (ps.map Qq)=(R.asks.zip ps).map λx=>D.tup [m6 x.1,Qq x.2]:=by unfold Eo;rw[List.zip_map,UP];rfl
 rw[e];refine⟨by rw[TY,U7];exact T9 (show min R.asks.length ps.length<=20 by omega) x_,?_⟩;refine wO (h:=λx=>gQ (decide (x.2=x.1.size))) _ _ _ _ (λx hx Q q=>?_) λl m a=>?_
 . unfold jw;walk_at "w";exact⟨_,_,rfl,q⟩
 have hkp:∀k∈fE R ps,k<ps.length:=λk hk=>by unfold fE at hk;simpa using(Vf.mp hk).1
 have pl:(fE R ps).length<=20:=by unfold fE;refine T9 (U5 _ _) ?_;rw[UB];omega
 have hkr:∀k∈fE R ps,k<R.asks.length:=λk hk=>by have:=hkp k hk;omega
 refine⟨R,_,rfl,hS.ok,hkr,?_⟩;refine⟨R,_,rfl,pl,hkr,λb os op ow=>?_⟩;walk_at "w";have h:=h a os op ow;have hko:∀k∈os,k<R.asks.length:=λk m=>hkr k (op.mem_iff.mp m);have hol:os.length<=20:=by rw[op.length_eq];exact pl
 have hb:=DZ hS.ok hkr;obtain⟨M,d0,d1,da,dp⟩:=hS.cd;have en:(R.asks.zip ps).map (λx=>gQ (decide (x.snd=x.fst.size)))=(Ru R ps).map gQ:=by unfold Ru;rw[UP];rfl
 rw[en];have nl:(Ru R ps).length=R.asks.length:=by unfold Ru;rw[TY,U7];omega
 generalize bP R (fE R ps)=hf at hb h ⊢;refine dh _ (λj Z=>∃(t:Rat)(ws:List Bool)(x:L),Z=[.d (aK R),.d (.lst (ps.map Qq)),.d (.lst ((fE R ps).map λ(k:Nat)=>D.int (k:Int))),.own a (ws.map gQ),.d (Qq hf),.d (Qq t),x]/\ws.length=R.asks.length/\RB (5704*j+1) t/\t.den∣M/\Rt R ps hf t ws (os.drop j)=Rt R ps hf 0 (Ru R ps) os) _ ⟨0,_,_,rfl,nl,RB.zero,⟨M,(Nat.one_mul M).symm⟩,rfl⟩ ?_ ?_
 .
  rintro j x Z hj ⟨t,ws,x6,rfl,wl,ht,td,e⟩ Q h1 h2 h3 h4;rw[Ui]at hj
  have hj':j<os.length:=by
   rcases Nat.lt_or_ge j os.length with q|q
   . exact q
   . rw[VA q]at hj;exact absurd hj v6
  rw[TM hj']at hj;cases hj;have hk':=hko _ (TV hj');rw[UH hj']at e;generalize os[j]=k at hk' e ⊢;have hkp:k<ps.length:=by omega
  have gr:=λw=>D1 hS hkp w;have gd:=λw=>AC hl d0 da dp hkp w;have sr:=λw=>ht.add (gr w);have sd:=λw=>rF d0 td (gd w);have b6:5704*(j+1)+1<=114081:=by omega
  have tn:∀w,t.den*(cF R ps k w).den<2^9000:=λw =>
   TU (bB (Ug (V6 d0 td) d1) (Ug (V6 d0 (gd w)) d1)) (Uh x_ x_)
  have kl:k<ws.length:=by omega
  have ix:∀{n:Nat},k<n->Py n (k:Int)=some k:=λ{n} hn=>by unfold Py;rw[if_pos (by omega),if_pos (by omega),UZ]
  have st:∀(us:List Bool)(w:Bool),(us.map gQ).set k (.str (gj w))=(us.set k w).map gQ:=λus w=>by rw[List.map_set];rfl
  have at1:∀(us:List Bool)(w:Bool),k<us.length->Pz ((us.set k w).map gQ) (k:Int)=some (gQ w):=λus w hu=>by rw[aY (by rw[Vo];exact hu),List.getElem_set_self]
  have pls:∀(w:Bool)(so:L->List L->Prop),so (.d (Qq (t+cF R ps k w))) [.d (Qq t),.d (Qq (cF R ps k w))]->kd [.d (Qq t),.d (Qq (cF R ps k w))] so:=λw so q=>⟨t,_,rfl,ht.mono xL,(gr w).mono x_,tn w,q⟩;have gns:∀(w:Bool)(so:L->List L->Prop),so (.d (Qq (cF R ps k w))) [.d (aK R),.d (.lst (ps.map Qq)),.d (.int (k:Int)),.d (gQ w)]->fX [.d (aK R),.d (.lst (ps.map Qq)),.d (.int (k:Int)),.d (gQ w)] so:=λw so q=>⟨R,ps,k,w,rfl,hk',hkp,(hS.sz_rb hkp).mono x_,(hS.rb hkp).mono x_,q⟩;have e:Rt R ps hf (t+cF R ps k (Rr R ps hf t k)) (ws.set k (Rr R ps hf t k)) (os.drop (j+1))=_:=e;unfold jv;walk_at "w";refine⟨R,k,rfl,hk',?_⟩;dsimp only;refine⟨k,ix kl,?_⟩;rw[st];refine⟨_,at1 _ _ kl,gns _ _ (pls _ _ ⟨hf,_,rfl,hb.mono x_,(sr _).mono xL,?_⟩)⟩;dsimp only;by_cases c:hf<t+cF R ps k (tI R k)
  . have ew:Rr R ps hf t k=!tI R k:=if_pos c;rw[ew]at e;rw[if_pos (UI c)];refine⟨_,at1 _ _ kl,_,rfl,?_⟩;dsimp only;refine⟨k,ix (by simpa using kl),?_⟩;rw[st];refine⟨_,at1 _ _ (by simpa using kl),gns _ _ (pls _ _ ?_)⟩;rw[VH];exact h1 _ ⟨_,_,_,rfl,by rw[Vo];exact wl,(sr _).mono xL,sd _,e⟩
  . have ew:Rr R ps hf t k=tI R k:=if_neg c;rw[ew]at e;rw[if_neg (by rw[Ul c];decide)];refine⟨_,at1 _ _ kl,gns _ _ (pls _ _ ?_)⟩;exact h1 _ ⟨_,_,_,rfl,by rw[Vo];exact wl,(sr _).mono xL,sd _,e⟩
 . rintro Z ⟨t,ws,x,rfl,_,_,_,e⟩;rw[TY,V9]at e;have e:ws=_:=e;walk_at "w";rw[<- e]at h;exact⟨_,aj (aj aP),h⟩
def ic:FS:=λls so=>∃(R:aO)(ps:List Rat),ls=[.d (aK R),.d (.lst (ps.map Qq))]/\cU R ps /\
 ∀(a b:Addr)(os:List Nat),os.Perm (fE R (mr R 20 ps))->os.Pairwise (λi j=>Rp R i<=Rp R j) ->
  so (.bx none [.own a ((qf R 20 ps).map Q9),.own b ((Rt R (mr R 20 ps) (bP R (fE R (mr R 20 ps))) 0 (Ru R (mr R 20 ps)) os).map gQ)]) ls
def i8:W Fl:=(aQ (bq 2 (aG fR (ar (ao 0) (ar (ao 1) aF))))
  (bN (Jo 2 (jE 2 (ar (aG gA (ar (ao 0) (ar (bp (Fu 2 (ug cP (λ_=>False) (ar (ao 0) (ar (ao 1) (ar (ao 2) aF)))))) aF))) aF)))))
theorem sy:∀ls so,ls.length=2->ic ls so->i8 (ls++List.replicate 1 .un) (aS ls so):=by
 rintro ls so - ⟨R,ps,rfl,hS,h⟩;obtain⟨M,d0,d1,da,dp⟩:=hS.cd;have hD:Tn R ps M:=⟨hS,d0,d1,da,dp⟩;obtain⟨r1,r2,r3⟩:=sx 20 0 ps hD;unfold i8;walk_at "w";refine⟨R,ps,rfl,hS,λa=>?_⟩;walk_at "w";have len:((qf R 20 ps).map Q9).length<=99:=by rw[TY];refine T9 (u0 20 ps hS) (T9 (U5 _ _) ?_);rw[UB,hS.len];exact T9 hS.ok.few x_
 refine⟨R,ps,_,M,rfl,hS,len,λd hd s es=>?_,⟨d0,d1,da,dp⟩,λ_ b=>?_,λi hi=>?_⟩
 . obtain⟨u,hu,rfl⟩:=UY.mp hd;rw[gm]at es;cases es;exact xF 20 ps hD _ hu
 . rw[r2];refine⟨by walk_at "w",?_⟩;refine⟨R,mr R 20 ps,rfl,r3.ok,λc os op ow=>?_⟩;exact⟨x_,⟨_,_,rfl⟩,_,aj (aj aP),h a c os op ow⟩
 . rw[r1]at hi;cases hi
def b9:FS:=λls so=>∃(ns:List Int)(k:Int),ls=[.d (.lst (ns.map .int)),.d (.int k)]/\0<=k/\k<=100/\∀a xs,m7 xs->so (.own a xs) ls
def kq:W Fl:=(aQ (bq 2 (wC (.int 0)))
  (aQ (Qa (aT (ax vP (ao 1) (br fj (ar (ao 0) aF)))) (bq 2 (ax aM (ao 0) (ao 1))) ck)
  (bN (oM (ar (ao 2) (ar (ax fO (ax cV (ax cV (ax fO (ao 2) (wC (.int 2147483587))) (ax bF (ax bF (wC (.int 48271)) (ao 1)) (ao 1))) (wC (.int 13))) (wC (.int 2147483587))) (ar (ax K2 (ao 2) (ax A1 (wC (.int 10)) (wC (.int 18)))) aF)))))))
theorem tP:∀ls so,ls.length=2->b9 ls so->kq (ls++List.replicate 1 .un) (aS ls so):=by
 rintro ls so - ⟨ns,k,rfl,h0,h1,h⟩;unfold kq
 have Pb:∀(c:Int)(Z:Ev)(e:Z=[.d (.lst (ns.map .int)),.d (.int k),.d (.int c)]),∀a:Addr,aS [.d (.lst (ns.map .int)),.d (.int k)] so (.rt (.own a [.int c,.int ((c.fmod 2147483587+48271*k*k+13).fmod 2147483587),.bl (decide ((10:Int)^18<=c))])) Z:=λc Z e a=>by
  refine⟨_,aj (aj aP),h a _ ⟨_,_,_,rfl,?_,?_⟩⟩
  . rw[Uu _ x_];exact VX _ x_
  . rw[Uu _ x_];have:=VS (c.fmod 2147483587+48271*k*k+13) (b:=2147483587) x_;omega
 have hb1:c9 48271:=bj x_;have hb2:c9 k:=bj (Ug (show k.natAbs<=100 by omega) x_);have hb3:c9 (48271*k):=bj (Ug (show(48271*k).natAbs<=4827100 by omega) x_);walk_at "w"
 try rw[TY]
 split
 .
  rename_i hk;have hk:k<(ns.length:Int):=by simpa using hk
  have hi:k.toNat<ns.length:=by omega
  refine⟨.int ns[k.toNat],Hb h0 (by rw[Ui,TM hi];rfl),?_⟩;exact⟨x_,hb1,hb2,hb3,hb2,x_,x_,x_,x_,x_,Pb _ _ rfl⟩
 . exact⟨x_,hb1,hb2,hb3,hb2,x_,x_,x_,x_,x_,Pb _ _ rfl⟩
def aJ:FS:=λls so=>∃(a:Addr)(xs:List D)(m:Int),ls=[.own a xs,.d (.int m)]/\m7 xs/\0<m/\m<=10^60/\∀(r:Int)(ys:List D),m7 ys->0<=r->r<m->so (.d (.int r)) [.own a ys,.d (.int m)]
def i9:W Fl:=(aQ (sY 0 (wC (.int 1)) (ax fO (ax cV (ax bF (fm 0 (yl 0 (wC (.int 1))) (ax aM (ao 0) (wC (.int 1)))) (wC (.int 39373))) (wC (.int 17))) (wC (.int 2147483647))))
  (bq 3 (bp (ax cV (ax bF (ao 3) (wC (.int 2147483629))) (ax fO (ax bF (fm 0 (yl 0 (wC (.int 1))) (ax aM (ao 0) (wC (.int 1)))) (fm 0 (yl 0 (wC (.int 1))) (ax aM (ao 0) (wC (.int 1))))) (wC (.int 2147483629)))))))
def mS:W Fl:=(aQ (Qa (aT (fm 0 (yl 0 (wC (.int 2))) (ax aM (ao 0) (wC (.int 2))))) (aQ (bq 2 (ax fO (fm 0 (yl 0 (wC (.int 0))) (ax aM (ao 0) (wC (.int 0)))) (ao 1)))
  (aQ (sY 0 (wC (.int 0)) (ax sV (fm 0 (yl 0 (wC (.int 0))) (ax aM (ao 0) (wC (.int 0)))) (ao 1)))
  (aQ (sY 0 (wC (.int 2)) (ax Il (fm 0 (yl 0 (wC (.int 0))) (ax aM (ao 0) (wC (.int 0)))) (wC (.int 0))))
  (bN (jL 2))))) ck)
  (aQ (bq 3 (wC (.int 0)))
  (aQ (qT (sU (ax cV (wC (.int 1)) (ax bF (wC (.int 8)) (br wo (ar (ax Il (ao 1) (ax A1 (wC (.int 10)) (wC (.int 6)))) aF))))) (bJ 4) i9)
  (bN (ax fO (ax sV (ao 3) (wC (.int 64))) (ao 1))))))
theorem xH{a:Addr}{c:Int}{m x2:L}{so:Fl->Ev->Prop}:∀(items:List D)(sd dr:Int)(j:Nat)(x4:L),j+items.length<=100->0<=sd->sd<2147483647->0<=dr->dr<2^(40*j) ->
  (∀sd' dr' x',0<=sd'->sd' < 2147483647->0<=dr'->so .nx [.own a [.int c,.int sd',.bl false],m,x2,.d (.int dr'),x']) ->
  fg (bJ 4) i9 items [.own a [.int c,.int sd,.bl false],m,x2,.d (.int dr),x4] so
 |[],sd,dr,j,x4,_,h0,h1,h2,h3,h=>h sd dr x4 h0 h1 h2
 | y::items,sd,dr,j,x4,hl,h0,h1,h2,h3,h=>by
  unfold fg i9;walk_at "w";obtain⟨r0,r1⟩:=gO (sd*39373+17) (m:=2147483647) x_;generalize (sd*39373+17).fmod 2147483647=s' at r0 r1 ⊢;obtain⟨q0,q1⟩:=gO (s'*s') (m:=2147483629) x_;generalize (s'*s').fmod 2147483629=t' at q0 q1 ⊢;have hl':j+(items.length+1)<=100:=hl;have b1:c9 sd:=yy (n:=40) h0 xL x_;have b2:c9 s':=yy (n:=40) r0 xL x_;have b3:c9 dr:=yy (n:=40*j) h2 h3 xL;have b4:c9 39373:=bj x_;have b5:c9 2147483629:=bj x_;refine⟨b1,b4,x_,b3,b5,b2,b2,x_,?_⟩;refine xH items s' (dr*2147483629+t') (j+1) _ xL r0 r1 xL ?_ h;have e:(2:Int)^(40*(j+1))=2^(40*j)*1099511627776:=by rw[Nat.mul_succ,Int.pow_add];rfl
  omega
theorem vt:∀ls so,ls.length=2->aJ ls so->mS (ls++List.replicate 3 .un) (aS ls so):=by
 rintro ls so - ⟨a,xs,m,rfl,⟨c,sd,t,rfl,h0,h1⟩,hm,hM,h⟩;unfold mS;have hm0:m≠0:=by omega
 have hmz:=wR xL hM
 cases t with
 | true =>
  walk_at "w";obtain⟨r0,r1⟩:=gO c hm;exact⟨hm0,hm0,hmz,_,eM TQ (aj aP),h _ _ ⟨_,_,_,rfl,h0,h1⟩ r0 r1⟩
 | false =>
  walk_at "w";refine⟨x_,x_,x_,bj x_,bj (by split<;>decide),⟨by split<;>decide,by split<;>decide⟩,?_⟩;refine xH (c:=c) _ sd 0 0 _ (by simp only[wj,TY,UB];split<;>decide) h0 h1 x_ x_ λsd' dr' x' g0 g1 g2=>?_;walk_at "w";obtain⟨r0,r1⟩:=gO (dr'.fdiv 64) hm;exact⟨x_,x_,hm0,_,eM TQ (aj aP),h _ _ ⟨_,_,_,rfl,g0,g1⟩ r0 r1⟩
def ja:FS:=λls so=>∃(a:Addr)(xs:List D)(many:Nat),ls=[.own a xs,.d (.int many)]/\m7 xs/\many<=26 /\
 ∀(zs:List Str)(c:Addr)(ys:List D),m7 ys->zs.length=many->(∀z∈zs,Hg z)->zs.Nodup->so (.own c (zs.map .str)) [.own a ys,.d (.int many)]
def lG:W L:=(ax cV (ax cV (Lf (ao 1) none (some (ao 2))) (ax aM (ao 3) (ax fO (ax cV (ao 4) (ao 0)) (wC (.int 26))))) (Lf (ao 1) (some (ax cV (ao 2) (wC (.int 1)))) none))
def lH:W Fl:=(bN (oR 1 [3,4,2,5] (sU (ao 1)) (bJ 0) mi lG))
def lI:W Fl:=(aQ (bq 5 (bp (bE aJ 0 0 (jE 0 (ar (wC (.int 26)) aF)))))
  lH)
def lJ:W L:=(ax aM (ao 1) (bE aJ 0 2 (jE 2 (ar (wC (.int 26)) aF))))
def lK:W Fl:=(aQ (bq 4 (bp (bE aJ 0 0 (jE 0 (ar (bp (br fj (ar (ao 3) aF))) aF)))))
  lI)
def lL:W Fl:=(aQ (bq 3 (bp (IM "" (oR 1 [2,0] (sU (ax cV (wC (.int 1)) (bE aJ 0 0 (jE 0 (ar (wC (.int 8)) aF))))) (bJ 0) mi lJ))))
  lK)
def kr:W Fl:=(aQ (bq 2 (wC (.str "abcdefghijklmnopqrstuvwxyz")))
  lL)
theorem tQ:∀ls so,ls.length=2->ja ls so->kr (ls++List.replicate 4 .un) (aS ls so):=by
 rintro ls so - ⟨a,xs,many,rfl,hx,hm,h⟩;unfold kr;walk_at "w";unfold lL;walk_at "w";refine⟨a,xs,8,rfl,hx,x_,x_,λr ys hy r0 r1=>⟨ys,rfl,?_⟩⟩;walk_at "w";refine⟨⟨xL,xL⟩,?_⟩;rw[nL];refine⟨by rw[TY,UB];exact T9 (show(1+r).toNat<=8 by omega) x_,?_⟩;refine z8 _ (λj Z acc=>∃(l:L)(ys:List D)(cs:List Nat),Z=[l,.d (.str uT),.own a ys]/\m7 ys/\acc=cs.map (λc=>D.str ⟨#[c]⟩)/\cs.length=j/\∀c∈cs,rq c) _ _ ⟨_,ys,[],rfl,hy,rfl,rfl,λc hc=>by simp at hc⟩ ?_ ?_
 .
  rintro j x Z acc hx ⟨l,ys,cs,rfl,hy,rfl,hl,hc⟩ Q hQ;unfold mi lJ;walk_at "w";refine⟨a,ys,26,rfl,hy,x_,x_,λq ws hw q0 q1=>⟨ws,rfl,x_,_,uj q0 q1,?_⟩⟩;refine hQ _ _ ⟨_,ws,cs++[q.toNat+97],rfl,hw,v6,by simp[hl],λc hm=>?_⟩;rcases Uw.mp hm with hm|hm
  . exact hc c hm
  . rw[U0.mp hm];unfold rq;omega
 .
  rintro Z acc ⟨l,ys,cs,rfl,hy,rfl,hl,hc⟩;rw[TY,UB]at hl;walk_at "w";intro aa;refine⟨cs.map λc=>⟨#[c]⟩,v6,by rw[Ad,TY];show cs.length+cs.length*0<=_;omega,?_⟩
  have hb:Hg (Txt.join "" (cs.map λc=>(⟨#[c]⟩:Str))):=by
   refine⟨?_,?_,?_⟩
   . rw[oW];omega
   . rw[oW];omega
   . rw[oW];exact hc
  generalize Txt.join "" (cs.map λc=>(⟨#[c]⟩:Str))=base at hb ⊢;have hbl:=kX base;have hb1:=hb.lo;have hb2:=hb.hi;unfold lK;walk_at "w";refine⟨T9 (show base.length<=8 by omega) x_,a,ys,base.length,rfl,hy,xL,xL,λp ws hw p0 p1=>⟨ws,rfl,?_⟩⟩;unfold lI;walk_at "w";refine⟨a,ws,26,rfl,hw,x_,x_,λt vs hv t0 t1=>⟨vs,rfl,?_⟩⟩;unfold lH;walk_at "w";refine⟨⟨xL,xL⟩,?_⟩;rw[nL];refine⟨by rw[TY,UB];exact T9 (show((many:Int)).toNat<=26 by omega) x_,?_⟩;refine nK (h:=λk=>D.str (nameAt base p.toNat t.toNat k)) _ _ _ (λk hk Q q=>?_) λl'=>?_
  .
   have hk:k<many:=by have:=Uy.mp hk;omega
   unfold lG;walk_at "w";refine⟨T9 (show base.length<=8 by omega) x_,x_,x_,_,uj (i:=(t+(k:Int)).fmod 26) (gO _ x_).1 (gO _ x_).2,?_⟩;have e1:=Gc (x:=base) p0 xL;have e2:=Bj (x:=base) (i:=p+1) xL xL;have l1:(Txt.slice base none (some p)).length<=8:=by rw[kX,e1,Va];omega
   have l2:(Txt.slice base (some (p+1)) none).length<=8:=by rw[kX,e2,Vh];omega
   have e3:((t+(k:Int)).fmod 26).toNat=(t.toNat+k) % 26:=by rw[Uu _ x_];omega
   have e4:Txt.slice base none (some p)++(⟨#[((t+(k:Int)).fmod 26).toNat+97]⟩:Str)++Txt.slice base (some (p+1)) none=nameAt base p.toNat t.toNat k:=by
    apply JD;rw[nN,nN,e1,e2,e3];have:(p+1).toNat=p.toNat+1:=by omega
    simp[L2.nameAt,this]
   have one:∀c:Nat,(⟨#[c]⟩:Str).length=1:=λ_=>rfl;have lc:(Txt.slice base none (some p)++(⟨#[((t+(k:Int)).fmod 26).toNat+97]⟩:Str)).length<=9:=by rw[kX,nN,Us,<- kX,<- kX,one];omega
   refine⟨T9 (show _<=9 by rw[one];omega) x_,T9 (show base.length<=8 by omega) x_,T9 (Nat.add_le_add lc l2) x_,?_⟩;rw[e4];exact q
  .
   walk_at "w";intro c;refine⟨_,eM (ys:=vs) v6 (aj aP),?_⟩;have e:List.map (λk=>D.str (nameAt base p.toNat t.toNat k)) (List.range ((many:Int)).toNat)=((List.range many).map λk=>nameAt base p.toNat t.toNat k).map D.str:=by rw[UP,UZ];rfl
   rw[e];refine h _ c vs hv v6 (λz hz=>?_) (w4 List.nodup_range λx hx y hy=>?_)
   . obtain⟨k,_,rfl⟩:=UY.mp hz;exact De hb xL
   . exact Bk xL (by have:=Uy.mp hx;omega) (by have:=Uy.mp hy;omega)
def cK:FS:=λls so=>∃t b:Int,ls=[.d (.int t),.d (.int b)]/\b≠0/\b.natAbs<2^9000/\so (.d (Qq (Rat.divInt t b))) ls
def pY:W Fl:=(MH 2 3 (ax fO (ao 3) (ao 2)) (ao 2))
def pD:W Fl:=(aQ (bq 2 (bp (br A2 (ar (ao 0) aF))))
  (aQ (bq 3 (bp (br A2 (ar (ao 1) aF))))
  (aQ (qS (aT (ax BC (ao 2) (wC (.int 0)))) pY)
  (aQ (Qa (aT (ax vP (ao 1) (wC (.int 0)))) (bq 3 (ax jQ (wC (.int 0)) (ao 3))) ck)
  (bN (nB (ar (ax sV (ao 0) (ao 3)) (ar (ax sV (ao 1) (ao 3)) aF))))))))
theorem xI:∀ls so,ls.length=2->cK ls so->pD (ls++List.replicate 2 .un) (aS ls so):=by
 rintro ls so - ⟨t,b,rfl,hb,hz,h⟩;unfold pD;walk_at "w";have h1:=zM (t:=t) hb;have h2:=Ug (zN (t:=t) hb) hz
 have Pb:∀{g:Int}{Z:Ev},g=cW t b->g≠0/\g.natAbs<2^9000/\g≠0/\g.natAbs<2^9000/\2<=sizeLine/\aS [.d (.int t),.d (.int b)] so (.rt (.d (.tup [.int (t.fdiv g),.int (b.fdiv g)]))) Z:=λ{g Z} e=>by
  have e1:g≠0:=by rw[e];exact h1
  have e2:g.natAbs<2^9000:=by rw[e];exact h2
  refine⟨e1,e2,e1,e2,x_,_,aj (aj aP),?_⟩;rw[Aa hb e];exact h
 refine⟨λn Z=>∃x y:Int,Z=[.d (.int t),.d (.int b),.d (.int x),.d (.int y)]/\0<=x/\0<=y/\Int.gcd x y=Int.gcd t b/\n=x.natAbs,⟨_,_,_,rfl,by split<;>omega,by split<;>omega,?_,rfl⟩,?_⟩
 .
  have e1:(if t<0 then -t else t)=(t.natAbs:Int):=by split<;>omega
  have e2:(if b<0 then -b else b)=(b.natAbs:Int):=by split<;>omega
  rw[e1,e2];simp[Int.gcd]
 .
  rintro n Z ⟨x,y,rfl,x0,y0,hg,rfl⟩;unfold pY;walk_at "w";split
  .
   rename_i hx;have hx:x≠0:=by simpa using hx
   refine⟨hx,_,lA y hx,_,_,rfl,(gO y xL).1,x0,?_,rfl⟩;rw[Int.gcd_comm,zL,Int.gcd_comm];exact hg
  .
   rename_i hx;have hx:x=0:=by simpa using hx
   subst hx;have hy:y=(Int.gcd t b:Int):=by rw[<- hg,Int.gcd_zero_left];omega
   split
   . rename_i hlt;exact Pb (by simp[cW,hlt,hy])
   . rename_i hlt;exact Pb (by simp[cW,hlt,hy])
def dg:FS:=λls so=>∃(a:Addr)(xs:List D)(least kind:Int),ls=[.own a xs,.d (.int least),.d (.int kind)]/\m7 xs/\0<=least/\least<=1/\0<=kind/\kind<5 /\
 ∀(q:Rat)(ys:List D),m7 ys->0<=q->(least=1->0<q)->RB 60 q->so (.d (Qq q)) [.own a ys,.d (.int least),.d (.int kind)]
def ku:W Fl:=(bN (aG cK (ar (ao 4) (ar (ao 3) aF))))
def kx:W Fl:=(aQ (bq 4 (bp (ax cV (ao 1) (bE aJ 0 0 (jE 0 (ar (ax aM (oM (ar (wC (.int 3)) (ar (wC (.int 10)) (ar (wC (.int 10)) (ar (wC (.int 40)) (ar (ax A1 (wC (.int 10)) (wC (.int 12))) aF)))))) (ao 2)) aF))))))
  ku)
def jb:W Fl:=(aQ (bq 3 (bp (ax cV (wC (.int 1)) (bE aJ 0 0 (jE 0 (ar (ax aM (oM (ar (wC (.int 1)) (ar (wC (.int 1)) (ar (wC (.int 4)) (ar (wC (.int 12)) (ar (wC (.int 12)) aF)))))) (ao 2)) aF))))))
  kx)
theorem D4{t b:Int}(h0:0<=t)(h1:t<2^59)(h2:0<b)(h3:b<2^59):0<=Rat.divInt t b/\(0<t->0<Rat.divInt t b)/\RB 60 (Rat.divInt t b):=by
 have e:=Rat.divInt_nonneg (a:=t) (b:=b) h0 xL;refine⟨e,λht=>?_,RB.of_divInt xL ?_ ?_⟩
 .
  refine Rat.lt_of_le_of_ne e λz=>?_;have:Rat.divInt 0 1=Rat.divInt t b:=by rw[<- z];rfl
  rw[Rat.divInt_eq_divInt_iff x_ xL]at this;omega
 .
  have:(2:Int)^59=((2^59:Nat):Int):=by decide
  have:(2:Nat)^59<2^60:=by decide
  omega
 .
  have:(2:Int)^59=((2^59:Nat):Int):=by decide
  have:(2:Nat)^59<2^60:=by decide
  omega
theorem NV{k:Int}(h0:0<=k)(h1:k<5):∃m:Int,Pz [D.int 1,.int 1,.int 4,.int 12,.int 12] k=some (.int m)/\1<=m/\m<=12:=by
 obtain rfl|rfl|rfl|rfl|rfl:k=0∨k=1∨k=2∨k=3∨k=4:=by omega
 all_goals exact⟨_,rfl,x_,x_⟩
theorem NW{k:Int}(h0:0<=k)(h1:k<5):∃m:Int,Pz [D.int 3,.int 10,.int 10,.int 40,.int (10^12)] k=some (.int m)/\1<=m/\m<=10^12:=by
 obtain rfl|rfl|rfl|rfl|rfl:k=0∨k=1∨k=2∨k=3∨k=4:=by omega
 all_goals exact⟨_,rfl,x_,x_⟩
theorem sD:∀ls so,ls.length=3->dg ls so->jb (ls++List.replicate 2 .un) (aS ls so):=by rintro ls so - ⟨a,xs,least,kind,rfl,hx,l0,l1,k0,k1,h⟩;obtain⟨m1,e1,m10,m11⟩:=NV k0 k1;obtain⟨m2,e2,m20,m21⟩:=NW k0 k1;unfold jb;walk_at "w";refine⟨x_,λ_=>⟨_,e1,a,xs,m1,rfl,hx,xL,xL,λr ys hy r0 r1=>⟨ys,rfl,?_⟩⟩⟩;unfold kx;walk_at "w";refine⟨x_,x_,x_,x_,λ_=>⟨_,e2,a,ys,m2,rfl,hy,xL,xL,λs zs hz s0 s1=>⟨zs,rfl,?_⟩⟩⟩;unfold ku;walk_at "w";obtain⟨a1,a2,a3⟩:=D4 (t:=least+s) (b:=1+r) xL xL xL xL;exact⟨_,_,rfl,xL,wR xL xL,_,eM v6 (aj (aj aP)),h _ zs hz a1 (λe=>a2 xL) a3⟩
def jc:FS:=λls so=>∃(a:Addr)(xs:List D)(n:Nat)(kind:Int),ls=[.own a xs,.d (.int n),.d (.int kind)]/\m7 xs/\1<=n/\n<=1000/\0<=kind/\kind<5 /\
 ∀(qs:List Rat)(c:Addr)(ys:List D),m7 ys->qs.length=n->(∀q∈qs,0<q/\RB 60 q)->so (.own c (qs.map Qq)) [.own a ys,.d (.int n),.d (.int kind)]
def lM:W Fl:=(aQ (bq 6 (bp (bE dg 0 0 (jE 0 (ar (wC (.int 1)) (ar (ao 2) aF))))))
  (sT (En 5 (ax aM (oM (ar (ao 4) (ar (ao 6) aF))) (br wo (ar (ax sW (ao 3) (wC (.int 2))) aF))))))
def lN:W Fl:=(bN (jL 5))
def lO:W Fl:=(aQ (qS (aT (ax vP (fm 5 (Iy 5) (br fj (ar (ao 5) aF))) (ao 1))) lM)
  lN)
def ie:W Fl:=(aQ (bq 5 (oM (ar (ao 4) aF)))
  lO)
def lP:W Fl:=(aQ (Qa (aT (ax sW (ao 3) (wC (.int 0)))) (bq 4 (nB (ar (wC (.int 1)) (ar (wC (.int 1)) aF)))) ck)
  ie)
def lQ:W Fl:=(aQ (bq 4 (bp (bE dg 0 0 (jE 0 (ar (wC (.int 1)) (ar (ao 2) aF))))))
  lP)
def ky:W Fl:=(aQ (bq 3 (bp (bE aJ 0 0 (jE 0 (ar (wC (.int 3)) aF)))))
  lQ)
theorem tR:∀ls so,ls.length=3->jc ls so->ky (ls++List.replicate 4 .un) (aS ls so):=by
 rintro ls so - ⟨a,xs,n,kind,rfl,hx,n1,n2,k0,k1,h⟩;have one:Qq 1=.tup [.int 1,.int 1]:=rfl
 have rest:∀(alike:Int)(p:Rat)(ys:List D),m7 ys->0<p->RB 60 p ->
   ie [.own a ys,.d (.int n),.d (.int kind),.d (.int alike),.d (Qq p),.un,.un] (aS [.own a xs,.d (.int n),.d (.int kind)] so):=by
  intro alike p ys hy hp hb;unfold ie;walk_at "w";refine⟨x_,λc=>?_⟩;unfold lO;walk_at "w";refine⟨λm Z=>∃(qs:List Rat)(zs:List D)(l:L),Z=[.own a zs,.d (.int n),.d (.int kind),.d (.int alike),.d (Qq p),.own c (qs.map Qq),l]/\m7 zs/\qs.length<=n/\m=n-qs.length/\∀q∈qs,0<q/\RB 60 q,⟨_,[p],ys,_,rfl,hy,n1,rfl,by intro q hq;rw[U0.mp hq];exact⟨hp,hb⟩⟩,?_⟩;rintro m Z ⟨qs,zs,l,rfl,hz,hl,rfl,hq⟩;walk_at "w"
  try rw[TY]
  split
  .
   rename_i hlt;unfold lM;walk_at "w";refine⟨a,zs,1,kind,rfl,hz,x_,x_,k0,k1,λq ws hw q0 q1 qb=>⟨ws,rfl,?_⟩⟩;walk_at "w";have hs:qs.length<sizeLine:=by exact Ug (show qs.length<=1000 by omega) x_
   have more:∀q':Rat,0<q'->RB 60 q'->∃m,m<n-qs.length/\∃(qs':List Rat)(zs:List D)(l:L),[L.own a ws,.d (.int n),.d (.int kind),.d (.int alike),.d (Qq p),.own c (qs.map Qq++[Qq q']),.d (Qq q)]=[.own a zs,.d (.int n),.d (.int kind),.d (.int alike),.d (Qq p),.own c (qs'.map Qq),l]/\m7 zs/\qs'.length<=n/\m=n-qs'.length/\∀q∈qs',0<q/\RB 60 q:=by
    intro q' p0 pb;refine⟨n-(qs++[q']).length,by rw[Us];simp only[List.length_singleton];omega,qs++[q'],ws,.d (Qq q),by rw[UE];rfl,hw,by rw[Us];simp only[List.length_singleton];omega,rfl,λz hz=>?_⟩;rcases Uw.mp hz with hz|hz
    . exact hq z hz
    . rw[U0.mp hz];exact⟨p0,pb⟩
   refine⟨x_,λ_=>?_⟩;by_cases h2:alike=2
   . refine⟨Qq q,?_,hs,more q (q1 rfl) qb⟩;simp[h2,tE]
   . refine⟨Qq p,?_,hs,more p hp hb⟩;simp[h2,uR]
  .
   have e:qs.length=n:=by omega
   unfold lN;walk_at "w";exact⟨_,eM v6 (aj (aj aP)),h qs c zs hz e hq⟩
 unfold ky;walk_at "w";refine⟨a,xs,3,rfl,hx,x_,x_,λr ys hy r0 r1=>⟨ys,rfl,?_⟩⟩;unfold lQ;walk_at "w";refine⟨a,ys,1,kind,rfl,hy,x_,x_,k0,k1,λq zs hz q0 q1 qb=>⟨zs,rfl,?_⟩⟩;unfold lP;walk_at "w";split
 . exact⟨x_,rest r 1 zs hz x_ ⟨x_,x_⟩⟩
 . exact rest r q zs hz (q1 rfl) qb
def kB:FS:=λls so=>∃(a:Addr)(xs:List D)(shape k:Int)(n:Nat),ls=[.own a xs,.d (.int shape),.d (.int n),.d (.int k)]/\m7 xs/\2<=n/\n<=1000/\0<=k/\k<=1000 /\
 ∀(i j:Nat)(ys:List D),m7 ys->i<n->j<n->i≠j->so (.d (.tup [.int i,.int j])) [.own a ys,.d (.int shape),.d (.int n),.d (.int k)]
def nY:W Fl:=(bN (nB (ar (ao 4) (ar (ao 5) aF))))
def nZ:W Fl:=(aQ (Qa (aT (ax sW (ao 1) (wC (.int 3)))) (bN (nB (ar (wC (.int 0)) (ar (bp (ax cV (wC (.int 1)) (ax fO (ao 5) (ax jQ (ao 2) (wC (.int 1)))))) aF)))) ck)
  nY)
def n4:W Fl:=(aQ (Qa (aT (ax sW (ao 1) (wC (.int 2)))) (bN (nB (ar (bp (ax bF (ax fO (ao 3) (wC (.int 2))) (ax jQ (ao 2) (wC (.int 1))))) (ar (bp (ax bF (ax jQ (wC (.int 1)) (ax fO (ao 3) (wC (.int 2)))) (ax jQ (ao 2) (wC (.int 1))))) aF)))) ck)
  nZ)
def n5:W Fl:=(aQ (Qa (aT (ax sW (ao 1) (wC (.int 1)))) (bN (nB (ar (ax fO (ao 3) (ao 2)) (ar (ax fO (ax cV (ao 3) (ax sV (ao 2) (wC (.int 2)))) (ao 2)) aF)))) ck)
  n4)
def n6:W Fl:=(aQ (bq 5 (ax fO (ax cV (ax cV (ao 4) (wC (.int 1))) (bE aJ 0 0 (jE 0 (ar (ax jQ (ao 2) (wC (.int 1))) aF)))) (ao 2)))
  n5)
def mT:W Fl:=(aQ (bq 4 (bp (bE aJ 0 0 (jE 0 (ar (ao 2) aF)))))
  n6)
theorem vw:∀ls so,ls.length=4->kB ls so->mT (ls++List.replicate 2 .un) (aS ls so):=by
 rintro ls so - ⟨a,xs,shape,k,n,rfl,hx,n2,n3,k0,k1,h⟩;have Pb:∀(ys:List D)(i j:Int)(Z:Ev),m7 ys->0<=i->i<n->0<=j->j<n->i≠j->.own a ys∈Z->aS [.own a xs,.d (.int shape),.d (.int n),.d (.int k)] so (.rt (.d (.tup [.int i,.int j]))) Z:=by intro ys i j Z hy i0 i1 j0 j1 hij hm;have:=h i.toNat j.toNat ys hy xL xL xL;rw[Int.toNat_of_nonneg i0,Int.toNat_of_nonneg j0]at this;exact⟨_,eM hm (aj (aj (aj aP))),this⟩
 unfold mT;walk_at "w";refine⟨a,xs,n,rfl,hx,xL,xL,λr ys hy r0 r1=>⟨ys,rfl,?_⟩⟩;unfold n6;walk_at "w";refine⟨a,ys,n-1,rfl,hy,xL,xL,λs zs hz s0 s1=>⟨zs,rfl,?_⟩⟩;walk_at "w";refine⟨xL,?_⟩;have e1:=Uu (r+1+s) (b:=n) xL;have e2:=Uu k (b:=n) xL;have e3:=Int.fdiv_eq_ediv_of_nonneg (n:Int) (b:=2) xL;have e4:=Uu (k+(n:Int) / 2) (b:=n) xL;have e5:=Uu k (b:=2) xL;have e6:=Uu ((r+1+s) % (n:Int)) (b:=(n:Int)-1) xL;rw[e1];have o0:=VX (r+1+s) (b:=n) xL;have o1:=VS (r+1+s) (b:=n) xL
 have o2:(r+1+s) % (n:Int)≠r:=λz=>by
  by_cases q:r+1+s<n
  . rw[Int.emod_eq_of_lt xL q]at z;omega
  .
   have:(r+1+s) % (n:Int)=r+1+s-n:=by rw[<- Int.sub_emod_right,Int.emod_eq_of_lt xL xL]
   omega
 unfold n5;walk_at "w";split
 .
  rw[e2,e3,e4];refine⟨xL,x_,x_,xL,x_,Pb zs _ _ _ hz (VX _ xL) (VS _ xL) (VX _ xL) (VS _ xL) (λz=>?_) v6⟩;have h1:(k+(n:Int) / 2-k) % n=0:=Int.emod_eq_emod_iff_emod_sub_eq_zero.mp z.symm;have e9:k+(n:Int) / 2-k=n / 2:=by omega
  rw[e9,Int.emod_eq_of_lt xL xL]at h1;omega
 .
  unfold n4;walk_at "w";split
  .
   rw[e5];have m0:=Int.emod_two_eq k;refine⟨x_,bj xL,bj xL,x_,bj xL,bj xL,x_,?_⟩;rcases m0 with m0|m0
   . rw[m0];exact Pb zs _ _ _ hz xL xL xL xL xL v6
   . rw[m0];exact Pb zs _ _ _ hz xL xL xL xL xL v6
  .
   unfold nZ;walk_at "w";split
   . rw[e6];have p0:=VX ((r+1+s) % (n:Int)) (b:=(n:Int)-1) xL;have p1:=VS ((r+1+s) % (n:Int)) (b:=(n:Int)-1) xL;exact⟨xL,x_,Pb zs _ _ _ hz xL xL xL xL xL v6⟩
   . unfold nY;walk_at "w";exact⟨x_,Pb zs _ _ _ hz xL xL xL xL (U3 o2) v6⟩
structure Drawn (most count:Nat) (R:aO):Prop where
 ok:R.Ok
 hi:R.n<=most
 few:R.asks.length<=count
 nms:(∀a∈R.asks,Hg a.nm)/\(R.asks.map (·.nm)).Nodup
 tt:∀a∈R.asks,RB 60 a.size
def kC:FS:=λls so=>∃(ns:List Int)(at_ most count:Nat),ls=[.d (.lst (ns.map .int)),.d (.int at_),.d (.int most),.d (.int count)]/\at_<=90/\2<=most/\most<=12/\count<=20 /\
 ∀R:aO,Drawn most count R->so (.d (aK R)) ls
def jd:W Fl:=(aQ (Cq [13,14] (bE kB 0 4 (jE 4 (ar (ao 8) (ar (ao 5) (ar (ao 12) aF))))))
  (sT (En 11 (nB (ar (ax aM (ao 9) (ao 12)) (ar (ao 13) (ar (ao 14) (ar (bp (bE dg 0 4 (jE 4 (ar (wC (.int 0)) (ar (ax aM (ao 7) (wC (.int 1))) aF))))) aF))))))))
def n8:W Fl:=(bN (nB (ar (ao 10) (ar (ao 11) aF))))
def n9:W Fl:=(aQ (qT (sU (ao 6)) (bJ 12) jd)
  n8)
def oa:W Fl:=(aQ (bq 11 (oM aF))
  n9)
def oe:W Fl:=(aQ (bq 4 (aG b9 (ar (ao 0) (ar (bp (ax cV (ao 1) (wC (.int 2)))) aF))))
  oa)
def og:W Fl:=(aQ (bq 10 (bp (aG jc (ar (aG b9 (ar (ao 0) (ar (bp (ax cV (ao 1) (wC (.int 1)))) aF))) (ar (ao 5) (ar (ax aM (ao 7) (wC (.int 0))) aF))))))
  oe)
def oh:W Fl:=(aQ (bq 9 (bp (bE ja 0 4 (jE 4 (ar (ao 6) aF)))))
  og)
def oj:W Fl:=(aQ (bq 8 (bp (bE aJ 0 4 (jE 4 (ar (wC (.int 6)) aF)))))
  oh)
def om:W Fl:=(aQ (bq 7 (bp (oM (ar (bp (bE aJ 0 4 (jE 4 (ar (wC (.int 5)) aF)))) (ar (bp (bE aJ 0 4 (jE 4 (ar (wC (.int 5)) aF)))) aF)))))
  oj)
def oo:W Fl:=(aQ (bq 6 (bp (bE aJ 0 4 (jE 4 (ar (bp (ax cV (ao 3) (wC (.int 1)))) aF)))))
  om)
def ou:W Fl:=(aQ (bq 5 (bp (ax cV (wC (.int 2)) (bE aJ 0 4 (jE 4 (ar (ax jQ (ao 2) (wC (.int 1))) aF))))))
  oo)
def mU:W Fl:=(aQ (bq 4 (aG b9 (ar (ao 0) (ar (ao 1) aF))))
  ou)
theorem D5{S a1 m3 c3 rms:D}{b c:Addr}{n shape kind:Nat}{zs:List Str}{so:Fl->Ev->Prop}(hn:2<=n)(hn2:n<=12)(hk:kind<5)(k0:Nat)(hzl:zs.length<=20)(hz:∀z∈zs,Hg z)(xs:List D)(hx:m7 xs)(x13 x14:L)
  (Pb:∀(as:List QW)(ys:List D)(x12 x13 x14:L),(∀a∈as,jV n a/\RB 60 a.size)->as.map (·.nm)=zs->so .nx [.d S,.d a1,.d m3,.d c3,.own b ys,.d (.int n),.d (.int (zs.length:Int)),.d (.lst [.int k0,.int kind]),.d (.int shape),.d (.lst (zs.map .str)),.d rms,.own c (as.map m6),x12,x13,x14]) :
  fg (bJ 12) jd ((List.range zs.length).map λ(i:Nat)=>D.int (i:Int)) [.d S,.d a1,.d m3,.d c3,.own b xs,.d (.int n),.d (.int (zs.length:Int)),.d (.lst [.int k0,.int kind]),.d (.int shape),.d (.lst (zs.map .str)),.d rms,.own c [],.un,x13,x14] so:=by
 refine dh _ (λj Z=>∃(as:List QW)(ys:List D)(x12 x13 x14:L),Z=[.d S,.d a1,.d m3,.d c3,.own b ys,.d (.int n),.d (.int (zs.length:Int)),.d (.lst [.int k0,.int kind]),.d (.int shape),.d (.lst (zs.map .str)),.d rms,.own c (as.map m6),x12,x13,x14]/\m7 ys/\(∀a∈as,jV n a/\RB 60 a.size)/\as.map (·.nm)=zs.take j) _ ⟨[],xs,_,_,_,rfl,hx,λa ha=>by simp at ha,rfl⟩ ?_ ?_
 .
  rintro j x Z hj ⟨as,ys,x12,x13,x14,rfl,hy,ha,hn'⟩ Q h1 h2 h3 h4;have hj':j<zs.length:=by have:=(TR.mp hj).1;simpa using this
  have ex:x=.int (j:Int):=by rw[Ui,Vj hj']at hj;exact(Uq hj).symm
  subst ex;unfold jd;walk_at "w";refine⟨b,ys,shape,j,n,rfl,hy,hn,xL,xL,xL,λi k ws hw i1 k1 hik=>⟨ws,rfl,?_⟩⟩;walk_at "w";refine⟨.str zs[j],aY hj',?_⟩;refine⟨b,ws,0,kind,rfl,hw,x_,x_,xL,xL,λq vs hv q0 _ qb=>⟨vs,rfl,?_⟩⟩;walk_at "w";have p4:as.length=j:=by have:=congrArg List.length hn';rw[TY,Va]at this;omega
  refine⟨x_,by rw[p4];exact TU hj' (T9 hzl x_),h1 _ ⟨as++[⟨zs[j],i,k,q⟩],vs,_,_,_,by rw[UE];rfl,hv,λa hm=>?_,?_⟩⟩
  .
   rcases Uw.mp hm with hm|hm
   . exact ha a hm
   . rw[U0.mp hm];exact⟨⟨i1,k1,hik,q0,Ge qb,(hz _ (TV hj')).ok⟩,qb⟩
  . rw[UE,hn',List.take_succ,TM hj'];rfl
 . rintro Z ⟨as,ys,x12,x13,x14,rfl,hy,ha,hn'⟩;rw[TY,UB,UM (Ud _)]at hn';exact Pb as ys x12 x13 x14 ha hn'
theorem vx:∀ls so,ls.length=4->kC ls so->mU (ls++List.replicate 11 .un) (aS ls so):=by
 rintro ls so - ⟨ns,at_,most,count,rfl,ha,m2,m12,c20,h⟩;unfold mU;walk_at "w";refine⟨ns,at_,rfl,xL,xL,λb xs hx=>?_⟩;unfold ou;walk_at "w";refine⟨b,xs,(most:Int)-1,rfl,hx,xL,xL,λr ys hy r0 r1=>⟨ys,rfl,?_⟩⟩;unfold oo;walk_at "w";refine⟨b,ys,(count:Int)+1,rfl,hy,xL,xL,λs zs hz s0 s1=>⟨zs,rfl,?_⟩⟩;unfold om;walk_at "w";refine⟨b,zs,5,rfl,hz,x_,x_,λk1 ws hw k10 k11=>⟨ws,rfl,?_⟩⟩;walk_at "w";refine⟨b,ws,5,rfl,hw,x_,x_,λk2 vs hv k20 k21=>⟨vs,rfl,?_⟩⟩;walk_at "w";refine⟨x_,λkk=>?_⟩;unfold oj;walk_at "w";refine⟨b,vs,6,rfl,hv,x_,x_,λsh us hu sh0 sh1=>⟨us,rfl,?_⟩⟩;unfold oh;walk_at "w";obtain⟨many,rfl⟩:=UO s0;obtain⟨pl,epl⟩:∃pl:Nat,2+r=(pl:Int):=UO xL;obtain⟨sh',rfl⟩:=UO sh0;obtain⟨k1',rfl⟩:=UO k10;obtain⟨k2',rfl⟩:=UO k20;rw[epl];refine⟨b,us,many,rfl,hu,xL,λnms c ts ht hnl hnm hnd=>⟨ts,rfl,?_⟩⟩;unfold og;walk_at "w";refine⟨ns,at_+1,rfl,xL,xL,λb2 xs2 hx2=>?_⟩;refine⟨b2,xs2,pl,k1',rfl,hx2,xL,xL,xL,xL,λqs c2 ys2 hy2 hql hq=>?_⟩;unfold oe;walk_at "w";refine⟨ns,at_+2,rfl,xL,xL,λb3 xs3 hx3=>?_⟩;unfold oa;walk_at "w";refine⟨x_,λc3=>?_⟩;unfold n9;walk_at "w";refine⟨⟨xL,xL⟩,?_⟩;rw[nL,UZ,<- hnl];refine D5 (n:=pl) xL xL xL k1' xL hnm xs3 hx3 _ _ λas ys' x12 x13 x14 hao han=>?_;walk_at "w";unfold n8;walk_at "w";refine⟨x_,_,aj (aj (aj (aj aP))),h ⟨qs,as⟩ ?_⟩;have hal:as.length=nms.length:=by rw[<- han,TY]
 refine⟨⟨?_,?_,?_,hq,?_,Nx (λa ha=>(hao a ha).2) (by show as.length<=20;omega)⟩,?_,?_,⟨?_,?_⟩,λa ha=>(hao a ha).2⟩
 . show 2<=qs.length;omega
 . show qs.length<=12;omega
 . show as.length<=20;omega
 . show ∀a∈as,jV qs.length a;rw[hql];exact λa ha=>(hao a ha).1
 . show qs.length<=most;omega
 . show as.length<=count;omega
 . intro a ha;exact hnm _ (by rw[<- han];exact List.mem_map_of_mem ha)
 . show(as.map (·.nm)).Nodup;rw[han];exact hnd
structure D6 (R:aO) (ps:List Rat):Prop extends JG R ps 70 where
 tw:Tw R ps
def je:FS:=λls so=>∃(a:Addr)(xs:List D)(R:aO),ls=[.own a xs,.d (aK R)]/\m7 xs/\R.Ok/\(∀a∈R.asks,RB 60 a.size)/\∀(ps:List Rat)(c:Addr)(ys:List D),m7 ys->D6 R ps->so (.own c (ps.map Qq)) [.own a ys,.d (aK R)]
def lR:W Fl:=(aQ (bq 7 (bp (bE aJ 0 0 (jE 0 (ar (wC (.int 4)) aF)))))
  (aQ (bq 8 (bp (bE aJ 0 0 (jE 0 (ar (wC (.int 13)) aF)))))
  (sT (En 2 (ax aM (oM (ar (nB (ar (wC (.int 0)) (ar (wC (.int 1)) aF))) (ar (ao 6) (ar (bp (aG cK (ar (bp (ax bF (ax aM (ao 6) (wC (.int 0))) (ao 8))) (ar (bp (ax bF (ax aM (ao 6) (wC (.int 1))) (wC (.int 12)))) aF)))) aF)))) (br A4 (ar (ao 7) (ar (wC (.int 2)) aF))))))))
def kD:W Fl:=(aQ (bq 2 (oM aF))
  (aQ (qT (AZ (ax aM (ao 1) (wC (.int 1)))) (ff [3,4,5,6]) lR)
  (bN (jL 2))))
def To(z p:Rat):Prop:=∃v:Int,0<=v/\v<=12/\p=z*Rat.divInt v 12
theorem NX{R:aO}{ps:List Rat}(hl:ps.length=R.asks.length)(h:∀x∈R.asks.zip ps,To x.1.size x.2):Tw R ps:=λk hk=>by
 have h1:k<ps.length:=by omega
 have:=h (R.asks[k],ps[k]) (by
  rw[List.mem_iff_getElem]
  exact⟨k,by rw[U7];omega,by rw[VB]⟩)
 rw[mn h1,yK hk];exact this
theorem D7{s:Rat}{v:Int}(h0:0<=s)(hb:RB 60 s)(v0:0<=v)(v1:v<13):(0<=Rat.divInt (s.num*v) ((s.den:Int)*12)/\Rat.divInt (s.num*v) ((s.den:Int)*12)<=s)/\RB 70 (Rat.divInt (s.num*v) ((s.den:Int)*12)):=by
 have e:Rat.divInt (s.num*v) ((s.den:Int)*12)=s*Rat.divInt v 12:=by rw[<- Vb,UF]
 have f0:0<=Rat.divInt v 12:=Rat.divInt_nonneg v0 x_
 have f1:0<=1-Rat.divInt v 12:=by
  have e1:1-Rat.divInt v 12=Rat.divInt (12-v) 12:=by have:(1:Rat)=Rat.divInt 12 12:=rfl;rw[this,Rat.divInt_sub_divInt _ _ x_ x_,Rat.divInt_eq_divInt_iff x_ x_];omega
  rw[e1];exact Rat.divInt_nonneg xL x_
 have m0:=Rat.mul_nonneg h0 f0;have m1:=Rat.mul_nonneg h0 f1;have hd:=den_pos s;refine⟨⟨by rw[e];exact m0,by rw[e];grind⟩,RB.of_divInt (Int.mul_ne_zero xL x_) ?_ ?_⟩
 . rw[Vm];exact TU (bB (n:=10) hb.1 (show v.natAbs<2^10 by omega)) (Ud _)
 . rw[Vm];exact TU (bB (m:=60) (n:=10) (by rw[UA];exact hb.2) (show(12:Int).natAbs<2^10 by decide)) (Ud _)
theorem tS:∀ls so,ls.length=2->je ls so->kD (ls++List.replicate 7 .un) (aS ls so):=by
 rintro ls so - ⟨a,xs,R,rfl,hx,hR,hT,h⟩;have hfew:=hR.few;unfold kD;walk_at "w";refine⟨x_,λc=>?_⟩;refine nJ (enc:=m6) R.asks (λpre Z=>∃(ps:List Rat)(ys:List D)(x3 x4 x5 x6 x7 x8:L),Z=[.own a ys,.d (aK R),.own c (ps.map Qq),x3,x4,x5,x6,x7,x8]/\m7 ys/\ps.length=pre.length/\(∀x∈pre.zip ps,0<=x.2/\x.2<=x.1.size)/\(∀p∈ps,RB 70 p)/\∀x∈pre.zip ps,To x.1.size x.2) _ ⟨[],xs,_,_,_,_,_,_,rfl,hx,rfl,(λx hx=>by simp at hx),(λx hx=>by simp at hx),λx hx=>by simp at hx⟩ ?_ ?_
 .
  rintro pre A suf Z hsp ⟨ps,ys,x3,x4,x5,x6,x7,x8,rfl,hy,hl,hlo,hb,hw1⟩ Q h1 h2 h3 h4;have hA:jV R.n A:=hR.ask A (by rw[hsp];simp);have hAb:RB 60 A.size:=hT A (by rw[hsp];simp);have p4:pre.length<20:=by have:=congrArg List.length hsp;rw[Us,U9]at this;omega
  unfold lR;walk_at "w";refine⟨a,ys,4,rfl,hy,x_,x_,λr zs hz r0 r1=>⟨zs,rfl,?_⟩⟩;walk_at "w";refine⟨a,zs,13,rfl,hz,x_,x_,λv ws hw v0 v1=>⟨ws,rfl,?_⟩⟩;walk_at "w";obtain⟨p1,p2⟩:=D7 hA.size hAb v0 v1;have hd:=den_pos A.size
  have Pb:∀p:Rat,(0<=p/\p<=A.size)->RB 70 p->To A.size p->Q .nx [.own a ws,.d (aK R),.own c (ps.map Qq++[Qq p]),.d (.str A.nm),.d (.int A.one),.d (.int A.other),.d (Qq A.size),.d (.int r),.d (.int v)]:=by
   intro p hp hpb hpw;refine h1 _ ⟨ps++[p],ws,_,_,_,_,_,_,by rw[UE];rfl,hw,by rw[Us,Us,hl];rfl,λx hx=>?_,λq hq=>?_,λx hx=>?_⟩
   .
    rw[U6 xL]at hx;rcases Uw.mp hx with hx|hx
    . exact hlo x hx
    .
     have:x=(A,p):=by simpa using hx
     subst this;exact hp
   .
    rcases Uw.mp hq with hq|hq
    . exact hb q hq
    . rw[U0.mp hq];exact hpb
   .
    rw[U6 xL]at hx;rcases Uw.mp hx with hx|hx
    . exact hw1 x hx
    .
     have:x=(A,p):=by simpa using hx
     subst this;exact hpw
  have hsz:ps.length<sizeLine:=TU (show ps.length<20 by omega) x_;refine⟨x_,hAb.bn x_,bj xL,hAb.bd x_,bj x_,A.size.num*v,(A.size.den:Int)*12,rfl,Int.mul_ne_zero xL x_,?_,?_⟩
  . rw[Vm];exact TU (bB (m:=60) (n:=10) (by rw[UA];exact hAb.2) (show(12:Int).natAbs<2^10 by decide)) (Uh x_ x_)
  .
   walk_at "w";refine⟨x_,λ_=>?_⟩;have hr:r=0∨r=1∨r=2∨r=3:=by omega
   rcases hr with rfl|rfl|rfl|rfl
   . exact⟨Qq 0,uR,hsz,Pb 0 ⟨x_,hA.size⟩ (RB.zero.mono x_) ⟨0,x_,x_,by rw[show Rat.divInt 0 12=0 from rfl,Rat.mul_zero]⟩⟩
   . exact⟨Qq A.size,tE,hsz,Pb A.size ⟨hA.size,Wd⟩ (hAb.mono x_) ⟨12,x_,x_,by rw[show Rat.divInt 12 12=1 from rfl,Rat.mul_one]⟩⟩
   . exact⟨_,FO,hsz,Pb _ p1 p2 ⟨v,v0,xL,by rw[<- Vb,UF]⟩⟩
   . exact⟨_,FO,hsz,Pb _ p1 p2 ⟨v,v0,xL,by rw[<- Vb,UF]⟩⟩
 . rintro Z ⟨ps,ys,x3,x4,x5,x6,x7,x8,rfl,hy,hl,hlo,hb,hw1⟩;walk_at "w";exact⟨_,eM (ys:=ys) v6 (aj aP),h ps c ys hy ⟨⟨hl,hlo,hb⟩,NX hl hw1⟩⟩
noncomputable def vz(n:Nat)(a:QW)(w:Bool):List Nat:=if w then QY n a.one a.other else QY n a.other a.one
def kE:FS:=λls so=>∃(R:aO)(k:Nat)(w:Bool)(hk:k<R.asks.length),ls=[.d (aK R),.d (.int k),.d (.str (gj w))]/\R.Ok/\∀c,so (.own c ((vz R.n R.asks[k] w).map λ(t:Nat)=>D.int (t:Int))) ls
def jf:W Fl:=(aQ (sT (En 7 (ao 4)))
  (bq 4 (ax fO (ax cV (ao 4) (wC (.int 1))) (br fj (ar (ax aM (ao 0) (wC (.int 0))) aF)))))
def mV:W Fl:=(aQ (Cq [3,4,5,6] (ax aM (ax aM (ao 0) (wC (.int 1))) (ao 1)))
  (aQ (Qa (aT (ax sW (ao 2) (wC (.str "back")))) (MH 4 5 (ao 5) (ao 4)) ck)
  (aQ (bq 7 (oM aF))
  (aQ (qS (aT (ax BC (ao 4) (ao 5))) jf)
  (bN (jL 7))))))
theorem tT{f:Nat->Nat}{s m:Nat}(h:s<m):((List.range m).map f).take (s+1)=((List.range m).map f).take s++[f s]:=by rw[List.take_succ,Ui,Vj h];rfl
theorem xJ{R:aO}(hR:R.Ok){x1 x2 x3 x6:L}{i j:Nat}(hi:i<R.n)(hj:j<R.n)(c:Addr){so:Fl->Ev->Prop}(Pb:so .nx [.d (aK R),x1,x2,x3,.d (.int j),.d (.int j),x6,.own c ((QY R.n i j).map λ(t:Nat)=>D.int (t:Int))]) :
  qS (aT (ax BC (ao 4) (ao 5))) jf [.d (aK R),x1,x2,x3,.d (.int i),.d (.int j),x6,.own c []] so:=by
 have hhi:=hR.hi;have hlo:=hR.lo;refine⟨λm Z=>∃s,Z=[.d (aK R),x1,x2,x3,.d (.int (((i+s) % R.n:Nat):Int)),.d (.int j),x6,.own c (((QY R.n i j).take s).map λ(t:Nat)=>D.int (t:Int))]/\s<=QZ R.n i j/\m=QZ R.n i j-s,⟨_,0,by rw[Nat.add_zero,Nat.mod_eq_of_lt hi];rfl,Vr _,rfl⟩,?_⟩;rintro m Z ⟨s,rfl,hs,rfl⟩;have hf:QZ R.n i j<R.n:=V4 _ xL;have hfe:=pT hi hj
 have hm:(i+s) % R.n=if i+s<R.n then i+s else i+s-R.n:=nO xL
 walk_at "w";by_cases hne:(i+s) % R.n=j
 .
  have hs':s=QZ R.n i j:=by rw[hm]at hne;rw[hfe]at hs ⊢;split at hne<;>split at hs<;>split<;>omega
  rw[if_neg (λz=>z (by rw[hne]))];rw[UM (by rw[Ag];omega),hne];exact Pb
 .
  have hs':s<QZ R.n i j:=by refine Nat.lt_of_le_of_ne hs λz=>hne ?_;rw[z,hfe]at hm;rw[z,hfe,hm];split<;>split<;>omega
  rw[if_pos (λz=>hne (Int.ofNat_inj.mp z))];unfold jf;walk_at "w";refine⟨?_,xL,?_⟩
  . rw[Va];exact Ug (Nat.min_le_left _ _) (TU (show s<12 by omega) x_)
  refine⟨QZ R.n i j-(s+1),xL,s+1,?_,hs',rfl⟩;have e1:(QY R.n i j).take (s+1)=(QY R.n i j).take s++[(i+s) % R.n]:=tT hs';have e2:((((i+s) % R.n:Nat):Int)+1).fmod (R.n:Int)=(((i+(s+1)) % R.n:Nat):Int):=by have:=Af (n:=R.n) (i:=(i+s) % R.n) (s:=1);rw[Nat.mod_add_mod,Nat.add_assoc]at this;exact this
  rw[e1,UE];rw[e2];rfl
theorem vA:∀ls so,ls.length=3->kE ls so->mV (ls++List.replicate 5 .un) (aS ls so):=by
 rintro ls so - ⟨R,k,w,hk,rfl,hR,h⟩;have ha:=hR.ask _ (TV hk);unfold mV;walk_at "w";refine⟨m6 R.asks[k],aY hk,?_⟩;walk_at "w"
 cases w with
 | true =>
  simp only[Bool.true_eq_false,V8];refine⟨x_,λc=>?_⟩;refine xJ hR ha.one ha.other c ?_;walk_at "w";exact⟨_,aj (aj (aj aP)),h c⟩
 | false =>
  simp only[Wg];refine⟨x_,λc=>?_⟩;refine xJ hR ha.other ha.one c ?_;walk_at "w";exact⟨_,aj (aj (aj aP)),h c⟩
def cQ:FS:=λls so=>∃p q:Rat,ls=[.d (Qq p),.d (Qq q)]/\RB 4400 p/\RB 4400 q/\so (.d (Qq (p-q))) ls
def kF:W Fl:=(bN (aG cK (ar (ax jQ (ax bF (ax aM (ao 0) (wC (.int 0))) (ax aM (ao 1) (wC (.int 1)))) (ax bF (ax aM (ao 1) (wC (.int 0))) (ax aM (ao 0) (wC (.int 1))))) (ar (bp (ax bF (ax aM (ao 0) (wC (.int 1))) (ax aM (ao 1) (wC (.int 1))))) aF))))
theorem tU:∀ls so,ls.length=2->cQ ls so->kF (ls++List.replicate 0 .un) (aS ls so):=by
 rintro ls so - ⟨p,q,rfl,hp,hq,h⟩;unfold kF;walk_at "w";refine⟨hp.bn x_,hq.bd x_,hq.bn x_,hp.bd x_,hp.bd x_,hq.bd x_,_,_,rfl,oV p q,?_,_,aj (aj aP),?_⟩
 . rw[kW];exact TU (bB hp.2 hq.2) (Uh x_ x_)
 . rw[G6];exact h
def fu:FS:=λls so=>∃p q:Rat,ls=[.d (Qq p),.d (Qq q)]/\RB 400000 p/\RB 400000 q/\p.den*q.den<2^9000/\so (.d (Qq (p+q))) ls
def mW:W Fl:=(bN (aG cK (ar (bp (ax cV (ax bF (ax aM (ao 0) (wC (.int 0))) (ax aM (ao 1) (wC (.int 1)))) (ax bF (ax aM (ao 1) (wC (.int 0))) (ax aM (ao 0) (wC (.int 1)))))) (ar (bp (ax bF (ax aM (ao 0) (wC (.int 1))) (ax aM (ao 1) (wC (.int 1))))) aF))))
theorem vB:∀ls so,ls.length=2->fu ls so->mW (ls++List.replicate 0 .un) (aS ls so):=by rintro ls so - ⟨p,q,rfl,hp,hq,hz,h⟩;unfold mW;walk_at "w";refine⟨hp.bn x_,hq.bd x_,hq.bn x_,hp.bd x_,hp.bd x_,hq.bd x_,_,_,rfl,oV p q,by rw[kW];exact hz,_,aj (aj aP),?_⟩;rw[zO];exact h
theorem xK{p q:Rat}{so:L->List L->Prop}(hp:RB 4400 p)(hq:RB 4400 q)(h:so (.d (Qq (p+q))) [.d (Qq p),.d (Qq q)]):fu [.d (Qq p),.d (Qq q)] so :=
 ⟨p,q,rfl,hp.mono x_,hq.mono x_,TU (bB hp.2 hq.2) (Uh x_ x_),h⟩
def fS:FS:=λls so=>∃(R:aO)(ps:List Rat),ls=[.d (aK R),.d (.lst (ps.map Qq))]/\cU R ps/\∀a,so (.own a (QX R.n (bH R.n R.asks ps))) ls
def ig:W Fl:=(sY 2 (ao 7) (aG fu (ar (fm 2 (yl 2 (ao 7)) (ax aM (ao 2) (ao 7))) (ar (ao 6) aF))))
def ij:W Fl:=(qT (AZ (aG kE (ar (ao 0) (ar (ao 3) (ar (ao 5) aF))))) (bJ 7) ig)
def lS:W Fl:=(qT (AZ (oM (ar (nB (ar (wC (.str "on")) (ar (ao 4) aF))) (ar (nB (ar (wC (.str "back")) (ar (bp (aG cQ (ar (ax aM (ax aM (ax aM (ao 0) (wC (.int 1))) (ao 3)) (wC (.int 3))) (ar (ao 4) aF)))) aF))) aF)))) (ff [5,6]) ij)
def kG:W Fl:=(aQ (bq 2 (Ng (oM (ar (nB (ar (wC (.int 0)) (ar (wC (.int 1)) aF))) aF)) (br fj (ar (ax aM (ao 0) (wC (.int 0))) aF))))
  (aQ (qT (tj (ao 1)) (ff [3,4]) lS)
  (bN (jL 2))))
theorem Kb{r:aO}{P:D}{c:Addr}{n k:Nat}{x4 x5:L}{f:Nat->Rat}{v:Rat}{so:Fl->Ev->Prop}(T:List Nat)(hT:T.Nodup)(ht:∀t∈T,t<n)(hf:∀t,t<n->RB 4400 (f t))(hv:RB 4400 v)(x7:L)
  (Pb:∀x7,so .nx [.d (aK r),.d P,.own c (QX n λs=>if s∈T then f s+v else f s),.d (.int k),x4,x5,.d (Qq v),x7]) :
  fg (bJ 7) ig (T.map λ(t:Nat)=>D.int (t:Int)) [.d (aK r),.d P,.own c (QX n f),.d (.int k),x4,x5,.d (Qq v),x7] so:=by
 refine nJ (enc:=λ(t:Nat)=>D.int (t:Int)) T (λpre Z=>∃x7,Z=[.d (aK r),.d P,.own c (QX n λs=>if s∈pre then f s+v else f s),.d (.int k),x4,x5,.d (Qq v),x7]) _ ⟨_,by simp;rfl⟩ ?_ λZ ⟨x7,e⟩=>by rw[e];exact Pb x7
 rintro pre t suf Z hsp ⟨x7,rfl⟩ Q h1 h2 h3 h4;have htn:t<n:=ht t (by rw[hsp];simp);have hni:t∉pre:=by rw[hsp]at hT;intro hm;exact(UC.mp hT).2.2 t hm t v6 rfl
 unfold ig;walk_at "w";refine⟨_,Hf htn,?_⟩;walk_at "w";rw[if_neg hni];refine xK (hf t htn) hv ?_;walk_at "w"
 have:=LW (n:=n) (f:=λs=>if s∈pre then f s+v else f s) htn
 rw[yG]at this;refine⟨t,this,?_⟩;rw[Jv];refine h1 _ ⟨.d (.int t),?_⟩
 congr 4
 refine wV λs hs=>?_;by_cases e:s=t
 . subst e;simp
 . simp[e]
theorem AG{n:Nat}{a:QW}(h:jV n a)(w:Bool){t:Nat}(ht:t<n):t∈vz n a w↔(qe n a t == w)=true:=by
 cases w with
 |true=>exact oX h true ht
 | false =>
  have e:vz n a false=(tF n a.one a.other).reverse:=LY h.one h.other h.ne;rw[e,List.mem_reverse];exact oX h false ht
theorem Bx{n:Nat}{a:QW}(h:jV n a)(w:Bool):(vz n a w).Nodup:=by
 cases w with
 |true=>exact Al h.one
 |false=>exact Al h.other
theorem Kc{n:Nat}{a:QW}(hn:0<n)(w:Bool){t:Nat}(h:t∈vz n a w):t<n:=by
 cases w with
 |true=>exact LX hn h
 |false=>exact LX hn h
theorem Kd(n:Nat)(f:Nat->Rat)(h:∀t,f t=0):(List.replicate n [D.tup [.int 0,.int 1]]).flatten=QX n f:=by
 unfold QX;refine V7 v6 λj h1 h2=>?_
 have e:(List.replicate n [D.tup [.int 0,.int 1]]).flatten=List.replicate n (Qq 0):=by
  clear h1 h2
  induction n with
  |zero=>rfl
  |succ n ih=>rw[UK,UK,Vv,ih];rfl
 simp only[e,List.getElem_replicate,List.getElem_map,h]
theorem tV:∀ls so,ls.length=2->fS ls so->kG (ls++List.replicate 6 .un) (aS ls so):=by
 rintro ls so - ⟨R,ps,rfl,hS,h⟩;have hR:=hS.ok;have hl:=hS.len;have hfew:=hR.few;have hlo:=hR.lo;have hhi:=hR.hi;unfold kG;walk_at "w";have es:(sizeLine:Nat)=16777216:=by decide
 refine⟨x_,x_,λa0=>⟨⟨xL,xL⟩,by rw[UZ];omega,λa=>?_⟩⟩;rw[UZ,Kd R.n (bH R.n (R.asks.take 0) (ps.take 0)) (λt=>rfl),qH];refine uo _ (λk Z=>∃x3 x4 x5 x6 x7,Z=[.d (aK R),.d (.lst (ps.map Qq)),.own a (QX R.n (bH R.n (R.asks.take k) (ps.take k))),x3,x4,x5,x6,x7]) _ ⟨_,_,_,_,_,rfl⟩ ?_ ?_
 .
  rintro k Z hk ⟨x3,x4,x5,x6,x7,rfl⟩ Q h1 h2 h3 h4;have hk2:k<R.asks.length:=by omega
  have ha:=hR.ask _ (TV hk2);have hpb:RB 1800 ps[k]:=by rw[<- bu hk];exact hS.rb hk
  have hab:RB 1800 R.asks[k].size:=by rw[<- g9 hk2];exact hS.sz_rb hk
  have hf:∀t,RB 1900 (bH R.n (R.asks.take k) (ps.take k) t):=λt=>(JP hS).1 k t;unfold lS;rw[mn hk];walk_at "w";refine⟨x_,_,aY hk2,?_⟩;walk_at "w";refine⟨_,_,rfl,hab.mono x_,hpb.mono xL,?_⟩;walk_at "w";refine⟨x_,x_,λa4=>?_⟩
  have step:∀(w:Bool)(v:Rat)(f:Nat->Rat)(x5 x6 x7:L)(post':Fl->Ev->Prop),(∀t,t<R.n->RB 4400 (f t))->RB 4400 v->(∀x7,post' .nx [.d (aK R),.d (.lst (ps.map Qq)),.own a (QX R.n λs=>if s∈vz R.n R.asks[k] w then f s+v else f s),.d (.int k),.d (Qq ps[k]),.d (.str (gj w)),.d (Qq v),x7]) ->
    ij [.d (aK R),.d (.lst (ps.map Qq)),.own a (QX R.n f),.d (.int k),.d (Qq ps[k]),.d (.str (gj w)),.d (Qq v),x7] post':=by
   intro w v f x5 x6 x7 post' hf' hv Pb;unfold ij;walk_at "w";refine⟨R,k,w,hk2,rfl,hR,λc5=>?_⟩;walk_at "w";exact Kb _ (Bx ha w) (λt ht=>Kc xL w ht) hf' hv _ Pb
  have unf:∀(x y:D)(x5 x6:L)(Z':List L)(post':Fl->Ev->Prop),True:=λ_ _ _ _ _ _=>trivial;unfold fg;rw[nM];walk_at "w";refine step true ps[k] _ .un .un x7 _ (λt _=>(hf t).mono xL) (hpb.mono xL) λx7=>?_;dsimp only;unfold fg;rw[nM];walk_at "w";refine step false (R.asks[k].size-ps[k]) _ .un .un x7 _ (λt _=>?_) ((hab.sub hpb).mono xL) λx7=>?_
  .
   split
   . exact((hf t).add hpb).mono xL
   . exact(hf t).mono xL
  dsimp only;unfold fg
  have ef:(QX R.n λs=>if s∈vz R.n R.asks[k] false then(if s∈vz R.n R.asks[k] true then bH R.n (R.asks.take k) (ps.take k) s+ps[k]else bH R.n (R.asks.take k) (ps.take k) s)+(R.asks[k].size-ps[k])else if s∈vz R.n R.asks[k] true then bH R.n (R.asks.take k) (ps.take k) s+ps[k]else bH R.n (R.asks.take k) (ps.take k) s)=QX R.n (bH R.n (R.asks.take (k+1)) (ps.take (k+1))):=by
   refine wV λt ht=>?_;rw[Bm hk2 hk];have m1:=AG ha true ht;have m2:=AG ha false ht;unfold tG;cases e:qe R.n R.asks[k] t
   . rw[e]at m1 m2;rw[if_pos (by rw[m2];rfl),if_neg (by rw[m1];decide)];rfl
   . rw[e]at m1 m2;rw[if_neg (by rw[m2];decide),if_pos (by rw[m1];rfl)];rfl
  rw[ef];exact h1 _ ⟨_,_,_,_,_,rfl⟩
 . rintro Z ⟨x3,x4,x5,x6,x7,rfl⟩;walk_at "w";rw[UM xL,UM xL];exact⟨_,aj (aj aP),h a⟩
def cR:FS:=λls so=>∃p q:Rat,ls=[.d (Qq p),.d (Qq q)]/\RB 400000 p/\RB 400000 q/\so (.d (.bl (decide (p<q)))) ls
def kH:W Fl:=(bN (ax vP (ax bF (ax aM (ao 0) (wC (.int 0))) (ax aM (ao 1) (wC (.int 1)))) (ax bF (ax aM (ao 1) (wC (.int 0))) (ax aM (ao 0) (wC (.int 1))))))
theorem tX:∀ls so,ls.length=2->cR ls so->kH (ls++List.replicate 0 .un) (aS ls so):=by rintro ls so - ⟨p,q,rfl,hp,hq,h⟩;unfold kH;walk_at "w";refine⟨hp.bn x_,hq.bd x_,hq.bn x_,hp.bd x_,_,aj (aj aP),?_⟩;rw[LR];exact h
def fG:FS:=λls so=>∃(R:aO)(ks:List Nat),ls=[.d (aK R),.d (.lst (ks.map λ(k:Nat)=>D.int (k:Int)))]/\R.Ok/\(∀k∈ks,k<R.asks.length)/\so (.d (Qq (Rq R ks 0))) ls
def iI:W Fl:=(Qa (aT (aG cR (ar (ao 2) (ar (ax aM (ax aM (ax aM (ao 0) (wC (.int 1))) (ao 3)) (wC (.int 3))) aF)))) (bq 2 (ax aM (ax aM (ax aM (ao 0) (wC (.int 1))) (ao 3)) (wC (.int 3)))) ck)
def gB:W Fl:=(aQ (bq 2 (nB (ar (wC (.int 0)) (ar (wC (.int 1)) aF))))
  (aQ (qT (AZ (ao 1)) (bJ 3) iI)
  (bN (jL 2))))
theorem pE:∀ls so,ls.length=2->fG ls so->gB (ls++List.replicate 2 .un) (aS ls so):=by
 rintro ls so - ⟨R,ks,rfl,hR,hk,h⟩;unfold gB;walk_at "w";refine⟨x_,dh _ (λj Z=>∃(g:Rat)(x:L),Z=[.d (aK R),.d (.lst (ks.map λ(k:Nat)=>D.int (k:Int))),.d (Qq g),x]/\RB 1540 g/\Rq R (ks.drop j) g=Rq R ks 0) _ ⟨0,_,rfl,RB.zero.mono x_,rfl⟩ ?_ ?_⟩
 .
  rintro j x Z hj ⟨g,x3,rfl,hg,e⟩ Q h1 h2 h3 h4;rw[Ui]at hj
  have hj':j<ks.length:=by
   rcases Nat.lt_or_ge j ks.length with q|q
   . exact q
   . rw[VA q]at hj;exact absurd hj v6
  rw[TM hj']at hj;cases hj;have hk':=hk _ (TV hj');have rb:=hR.rb (TV hk');rw[UH hj']at e
  have e':Rq R (ks.drop (j+1)) (if g<R.sz ks[j]then R.sz ks[j]else g)=Rq R ks 0:=e
  rw[yK hk']at e';unfold iI;walk_at "w";refine⟨_,aY hk',?_⟩;walk_at "w";refine⟨_,_,rfl,hg.mono x_,rb.mono x_,?_⟩;walk_at "w";by_cases c:g<R.asks[ks[j]].size
  . rw[if_pos c]at e' ⊢;refine⟨_,aY hk',?_⟩;walk_at "w";exact h1 _ ⟨_,_,rfl,rb,e'⟩
  . rw[if_neg c]at e' ⊢;exact h1 _ ⟨_,_,rfl,hg,e'⟩
 . rintro Z ⟨g,x,rfl,hg,e⟩;rw[TY,V9]at e;walk_at "w";have e':g=Rq R ks 0:=e;rw[e'];exact⟨_,aj (aj aP),h⟩
def eU:FS:=λls so=>∃(R:aO)(ps:List Rat)(c:Nat),ls=[.d (aK R),.d (.lst (ps.map Qq))]/\R.Ok/\ps.length=R.asks.length/\(∀p∈ps,RB c p)/\c<=400000/\∀a,so (.own a (((List.range ps.length).filter λk=>decide (0<ps.getD k 0) && decide (ps.getD k 0<R.sz k)).map λ(k:Nat)=>D.int (k:Int))) ls
def kI:W Fl:=(Qa (Ii (aT (ax Il (ax aM (ao 4) (wC (.int 0))) (wC (.int 0)))) (aT (aG cR (ar (ao 4) (ar (ax aM (ax aM (ax aM (ao 0) (wC (.int 1))) (ao 3)) (wC (.int 3))) aF))))) (sT (En 2 (ao 3))) ck)
def jg:W Fl:=(aQ (bq 2 (oM aF))
  (aQ (qT (tj (ao 1)) (ff [3,4]) kI)
  (bN (jL 2))))
theorem sE:∀ls so,ls.length=2->eU ls so->jg (ls++List.replicate 3 .un) (aS ls so):=by
 rintro ls so - ⟨R,ps,c,rfl,hR,hl,hb,hc,h⟩;unfold jg;walk_at "w";refine⟨x_,λa=>?_⟩;rw[qH];have few:=hR.few;refine nJ (enc:=λ(t:Nat)=>D.tup [.int (t:Int),Qq (ps.getD t 0)]) (List.range ps.length) (λpre Z=>∃x3 x4,Z=[.d (aK R),.d (.lst (ps.map Qq)),.own a ((pre.filter λk=>decide (0<ps.getD k 0) && decide (ps.getD k 0<R.sz k)).map λ(k:Nat)=>D.int (k:Int)),x3,x4]) _ ⟨_,_,rfl⟩ ?_ ?_
 .
  rintro pre k suf Z hsp ⟨x3,x4,rfl⟩ Q h1 h2 h3 h4
  have hk:k<ps.length:=by
   have:k∈List.range ps.length:=by rw[hsp];simp
   simpa using this
  have hpl:pre.length<20:=by have:=congrArg List.length hsp;simp at this;omega
  have hb':=hb _ (TV hk);rw[<- mn hk]at hb';unfold kI;walk_at "w";rw[List.filter_append,Vg,List.filter_nil]at h1;have e0:(0<(ps.getD k 0).num)=(0<ps.getD k 0):=by exact propext (yL _)
  by_cases h0:0<ps.getD k 0
  .
   rw[if_pos (by rw[e0];exact h0)];refine⟨_,aY xL,?_⟩;walk_at "w";refine⟨_,_,rfl,hb'.mono hc,(hR.rb (TV _)).mono x_,?_⟩;walk_at "w";rw[yK xL]at h1;by_cases h5:ps.getD k 0<R.asks[k].size
   . rw[if_pos h5];refine⟨Ug (U5 _ _) (TU hpl x_),h1 _ ⟨.d (.int k),.d (Qq (ps.getD k 0)),?_⟩⟩;rw[if_pos (by simp only[h0,h5];decide),UE];rfl
   . rw[if_neg h5];refine h1 _ ⟨.d (.int k),.d (Qq (ps.getD k 0)),?_⟩;rw[if_neg (by simp only[h0,h5];decide),US]
  . rw[if_neg (by rw[e0];exact h0)];refine h1 _ ⟨.d (.int k),.d (Qq (ps.getD k 0)),?_⟩;rw[if_neg (by simp only[h0];simp),US]
 . rintro Z ⟨x3,x4,rfl⟩;walk_at "w";exact⟨_,aj (aj aP),h a⟩
noncomputable def Tp(R:aO)(ws:List Bool):List Rat:=(R.asks.zip ws).map λx=>if x.2 then x.1.size else 0
def fT:FS:=λls so=>∃(R:aO)(ps qs:List Rat)(ws:List Bool),ls=[.d (aK R),.d (.lst (QX R.n (bH R.n R.asks ps))),.d (.lst (qs.map Qq)),.d (.lst (ws.map gQ))]/\cU R ps/\cU R qs/\ws.length=R.asks.length /\
 (∀t,t<R.n->bH R.n R.asks (Tp R ws) t<=bH R.n R.asks ps t+(bP R (Rl R qs)+bP R (Rl R qs)+bP R (Rl R qs)))/\so (.d (.bl true)) ls
def lT:W Fl:=(Qa (aT (aG cR (ar (bp (aG fu (ar (ax aM (ao 1) (ao 6)) (ar (bp (aG cK (ar (bp (ax bF (wC (.int 3)) (ax aM (ao 5) (wC (.int 0))))) (ar (bp (ax bF (wC (.int 2)) (ax aM (ao 5) (wC (.int 1))))) aF)))) aF)))) (ar (ao 7) aF)))) (bN (wC (.bl false))) ck)
def lU:W L:=(ax aM (oM (ar (nB (ar (wC (.int 0)) (ar (wC (.int 1)) aF))) (ar (ax aM (ao 0) (wC (.int 3))) aF))) (br wo (ar (ax sW (ao 1) (wC (.str "on"))) aF)))
def kJ:W Fl:=(aQ (bq 4 (oR 2 [] (MJ (ax aM (ao 0) (wC (.int 1))) (ao 3)) (ff [0,1]) mi lU))
  (aQ (bq 5 (bp (aG fG (ar (ao 0) (ar (bp (aG eU (ar (ao 0) (ar (ao 2) aF)))) aF)))))
  (aQ (qT (tj (aG fS (ar (ao 0) (ar (ao 4) aF)))) (ff [6,7]) lT)
  (bN (wC (.bl true))))))
theorem Mz{R:aO}{ws:List Bool}(h:ws.length=R.asks.length){k:Nat}(hk:k<R.asks.length):(Tp R ws).getD k 0=if ws.getD k true then R.sz k else 0:=by unfold Tp;rw[TX,Ui,TM (by rw[U7];omega),VB,g9 hk,TX,TM (show k<ws.length by omega)];rfl
theorem D8{R:aO}{ws:List Bool}(h:ws.length=R.asks.length):(Tp R ws).length=R.asks.length:=by unfold Tp;rw[TY,U7];omega
theorem MA{R:aO}{qs:List Rat}{ws:List Bool}(hS:cU R qs)(h:ws.length=R.asks.length):cU R (Tp R ws):=by
 obtain⟨D,d0,d1,da,dp⟩:=hS.cd;refine⟨hS.ok,D8 h,λk hk=>?_,D,d0,d1,da,λp hp=>?_⟩
 .
  rw[D8 h]at hk;rw[Mz h hk];have:=hS.lo k (by rw[hS.len];exact hk);have s0:=VI this.1 this.2;split
  . exact⟨s0,Wd⟩
  . exact⟨Wd,s0⟩
 .
  unfold Tp at hp;obtain⟨x,hx,rfl⟩:=UY.mp hp;have:=da x.1 (List.of_mem_zip hx).1;split
  . exact this
  . exact Nat.one_dvd _
theorem tY:∀ls so,ls.length=4->fT ls so->kJ (ls++List.replicate 4 .un) (aS ls so):=by
 rintro ls so - ⟨R,ps,qs,ws,rfl,hS,hQ,hw,hb,h⟩;have few:=hS.ok.few;unfold kJ;walk_at "w";have e:Eo (R.asks.map m6) (ws.map gQ)=(R.asks.zip ws).map λx=>D.tup [m6 x.1,gQ x.2]:=by unfold Eo;rw[List.zip_map,UP];rfl
 rw[e];refine⟨by rw[TY,U7];exact T9 (show min R.asks.length ws.length<=20 by omega) x_,?_⟩
 refine wO (h:=λx=>Qq (if x.2 then x.1.size else 0)) _ _ _ _ (λx hx Q q=>?_) λl m a=>?_
 .
  unfold lU;walk_at "w";obtain⟨a,w⟩:=x
  cases w with
  |true=>exact⟨x_,x_,λ_=>⟨dJ _,_,rfl,q⟩⟩
  |false=>exact⟨x_,x_,λ_=>⟨dJ _,_,rfl,q⟩⟩
 rw[Vy]
 have ew:(R.asks.zip ws).map (λx=>Qq (if x.2=true then x.1.size else 0))=(Tp R ws).map Qq:=by unfold Tp;rw[UP];rfl
 rw[ew];have hk:∀k∈Rl R qs,k<R.asks.length:=λk m=>by have:=(gR m).1;have:=hQ.len;omega
 refine⟨R,qs,1800,rfl,hQ.ok,hQ.len,λp hp=>?_,x_,λ_=>?_⟩
 . obtain⟨i,hi,rfl⟩:=UJ hp;rw[<- bu hi];exact hQ.rb hi
 refine⟨R,Rl R qs,rfl,hQ.ok,hk,?_⟩;dsimp only;have gb:=DY hQ.ok (Rl R qs) 0 hk (RB.zero.mono x_);have two:=u6 R (Rl R qs);refine⟨R,Tp R ws,rfl,MA hQ hw,λ_=>?_⟩;dsimp only;rw[JJ];generalize Rq R (Rl R qs) 0=g at *;have lq:=(JP hS).2;have lw:=(JP (MA hQ hw)).2;refine nJ (enc:=λ(t:Nat)=>D.tup [.int (t:Int),Qq (bH R.n R.asks (Tp R ws) t)]) (List.range R.n) (λ_ Z=>∃x6 x7,Z=[.d (aK R),.d (.lst (QX R.n (bH R.n R.asks ps))),.d (.lst (qs.map Qq)),.d (.lst (ws.map gQ)),.d (.lst ((Tp R ws).map Qq)),.d (Qq g),x6,x7]) _ ⟨_,_,rfl⟩ ?_ ?_
 .
  rintro pre t suf Z hsp ⟨x6,x7,rfl⟩ Q h1 h2 h3 h4
  have ht:t<R.n:=by
   have:t∈List.range R.n:=by rw[hsp];simp
   simpa using this
  have hb:=hb t ht
  have e3:Rat.divInt (3*g.num) (2*(g.den:Int))=bP R (Rl R qs)+bP R (Rl R qs)+bP R (Rl R qs):=by
   have:Rat.divInt (3*g.num) (2*(g.den:Int))=Rat.divInt 3 2*g:=by rw[<- Vb,UF]
   rw[this];have:Rat.divInt 3 2=3 / 2:=by decide +kernel
   rw[this];grind
  have dp:=g.den_pos;unfold lT;walk_at "w";refine⟨_,Hf ht,bj x_,gb.bn x_,bj x_,gb.bd x_,_,_,rfl,xL,?_,?_⟩
  .
   rw[Vm,UA];have e:(2:Nat)*2^1540<=2^9000:=by rw[<- Nat.pow_succ'];exact Uh x_ x_
   refine TU ?_ e;exact Nat.mul_lt_mul_of_pos_left gb.2 x_
  have rb3:RB 1545 (Rat.divInt (3*g.num) (2*(g.den:Int))):=by
   have:Rat.divInt (3*g.num) (2*(g.den:Int))=Rat.divInt 3 2*g:=by rw[<- Vb,UF]
   rw[this];exact((show RB 2 (Rat.divInt 3 2)from⟨y_,y_⟩).mul gb).mono x_
  rw[e3]at rb3 ⊢;dsimp only;refine xK ((lq t).mono x_) (rb3.mono x_) ?_;dsimp only;refine⟨_,_,rfl,((lq t).add rb3).mono x_,(lw t).mono x_,?_⟩;dsimp only;rw[if_neg (by rw[Ua];exact Wf.mpr hb)];exact h1 _ ⟨_,_,rfl⟩
 . rintro Z ⟨x6,x7,rfl⟩;exact⟨_,aj (aj (aj (aj aP))),h⟩
def gX:FS:=λls so=>∃(R:aO)(ps:List Rat)(k:Nat)(w:Bool),ls=[.d (aK R),.d (.lst (ps.map Qq)),.d (.int (k:Int)),.d (.str (gj w))]/\cU R ps/\k<ps.length/\so (.d (Qq (Ra R ps k (!w)))) ls
def mX:W Fl:=(aQ (Qa (aT (ax sW (ao 3) (wC (.str "on")))) (bN (ax aM (ao 1) (ao 2))) ck)
  (bN (aG cQ (ar (ax aM (ax aM (ax aM (ao 0) (wC (.int 1))) (ao 2)) (wC (.int 3))) (ar (ax aM (ao 1) (ao 2)) aF)))))
theorem vC:∀ls so,ls.length=4->gX ls so->mX (ls++List.replicate 0 .un) (aS ls so):=by
 rintro ls so - ⟨R,ps,k,w,rfl,hS,hk,h⟩;have hk':k<R.asks.length:=by rw[<- hS.len];exact hk
 have r1:=hS.sz_rb hk;have r2:=hS.rb hk;rw[g9 hk']at r1;rw[bu hk]at r2;unfold Ra at h;rw[g9 hk',bu hk]at h;unfold mX;walk_at "w"
 cases w with
 | true =>
  walk_at "w";exact⟨_,aY hk,_,aj (aj (aj (aj aP))),h⟩
 | false =>
  walk_at "w";refine⟨_,aY hk',?_⟩;walk_at "w";refine⟨_,aY hk,?_⟩;walk_at "w";exact⟨_,_,rfl,r1.mono x_,r2.mono x_,_,aj (aj (aj (aj aP))),h⟩
def jh:FS:=λls so=>∃(a:Addr)(xs:List D)(R:aO)(ps:List Rat),ls=[.own a xs,.d (aK R),.d (.lst (ps.map Qq))]/\m7 xs/\cU R ps/\0<ps.length /\
 ∀(s:dM)(v:Nat)(ys:List D),m7 ys->s.k<ps.length->s.l<ps.length->1<=v->v<=12->s.am=Rat.divInt ((Rb R ps s.k s.kw s.l s.lw).num*v) (((Rb R ps s.k s.kw s.l s.lw).den:Int)*12)->so (.d (Q9 s)) [.own a ys,.d (aK R),.d (.lst (ps.map Qq))]
def lV:W Fl:=(bN (nB (ar (ao 4) (ar (ao 6) (ar (ao 5) (ar (ao 7) (ar (bp (aG cK (ar (bp (ax bF (ax aM (ao 10) (wC (.int 0))) (ao 11))) (ar (bp (ax bF (ax aM (ao 10) (wC (.int 1))) (wC (.int 12)))) aF)))) aF)))))))
def lW:W Fl:=(aQ (bq 11 (ax aM (oM (ar (wC (.int 12)) (ar (bp (ax cV (wC (.int 1)) (bE aJ 0 0 (jE 0 (ar (wC (.int 12)) aF))))) aF))) (bE aJ 0 0 (jE 0 (ar (wC (.int 2)) aF)))))
  lV)
def lX:W Fl:=(aQ (bq 10 (ax aM (oM (ar (ao 8) (ar (ao 9) aF))) (br wo (ar (bp (aG cR (ar (ao 9) (ar (ao 8) aF)))) aF))))
  lW)
def lY:W Fl:=(aQ (bq 9 (bp (aG cQ (ar (ax aM (ax aM (ax aM (ao 1) (wC (.int 1))) (ao 5)) (wC (.int 3))) (ar (bp (aG gX (ar (ao 1) (ar (ao 2) (ar (ao 5) (ar (ao 7) aF)))))) aF)))))
  lX)
def lZ:W Fl:=(aQ (bq 8 (bp (aG cQ (ar (ax aM (ax aM (ax aM (ao 1) (wC (.int 1))) (ao 4)) (wC (.int 3))) (ar (bp (aG gX (ar (ao 1) (ar (ao 2) (ar (ao 4) (ar (ao 6) aF)))))) aF)))))
  lY)
def l3:W Fl:=(aQ (bq 7 (ax aM (oM (ar (wC (.str "on")) (ar (wC (.str "back")) aF))) (bE aJ 0 0 (jE 0 (ar (wC (.int 2)) aF)))))
  lZ)
def l4:W Fl:=(aQ (bq 6 (ax aM (oM (ar (wC (.str "on")) (ar (wC (.str "back")) aF))) (bE aJ 0 0 (jE 0 (ar (wC (.int 2)) aF)))))
  l3)
def l5:W Fl:=(aQ (bq 5 (ax fO (ax cV (ax cV (ao 4) (wC (.int 1))) (bE aJ 0 0 (jE 0 (ar (bp (br A3 (ar (wC (.int 1)) (ar (ax jQ (ao 3) (wC (.int 1))) aF)))) aF)))) (ao 3)))
  l4)
def l6:W Fl:=(aQ (bq 4 (bp (bE aJ 0 0 (jE 0 (ar (ao 3) aF)))))
  l5)
def kK:W Fl:=(aQ (bq 3 (bp (br fj (ar (ax aM (ao 1) (wC (.int 1))) aF))))
  l6)
theorem Hw{r:Int}(h0:0<=r)(h1:r < 2):∃ w:Bool,Pz [D.str (Str.ofString "on"),D.str (Str.ofString "back")] r=some (.str (gj w)):=by
 have:r=0∨r=1:=by omega
 rcases this with rfl|rfl
 . exact⟨true,rfl⟩
 . exact⟨false,rfl⟩
theorem NY{x y:Rat}:Pz [Qq x,Qq y] (if y<x then 1 else 0)=some (Qq (if y<x then y else x)):=by rw[CY];split<;>rfl
theorem GQ{r5 r6:Int}(h0:0<=r5)(h1:r5<12)(g0:0<=r6)(g1:r6<2):∃v:Nat,Pz [D.int 12,D.int (1+r5)] r6=some (.int (v:Int))/\1<=v/\v<=12:=by
 have:r6=0∨r6=1:=by omega
 rcases this with rfl|rfl
 . exact⟨12,rfl,x_,x_⟩
 . obtain⟨v,e⟩:=UO (show 0<=1+r5 by omega);exact⟨v,by rw[tE,e],xL,xL⟩
theorem tZ:∀ls so,ls.length=3->jh ls so->kK (ls++List.replicate 9 .un) (aS ls so):=by
 rintro ls so - ⟨a,xs,R,ps,rfl,hx,hS,hp,h⟩;have hfew:=hS.ok.few;have hl:=hS.len;unfold kK;walk_at "w";unfold l6;walk_at "w";refine⟨a,xs,(R.asks.length:Int),rfl,hx,xL,xL,λk x1 hx1 k0 k1=>⟨x1,rfl,?_⟩⟩;walk_at "w";unfold l5;walk_at "w";refine⟨a,x1,_,rfl,hx1,by split<;>omega,by split<;>omega,λm x2 hx2 m0 m1=>⟨x2,rfl,?_⟩⟩;walk_at "w";refine⟨xL,?_⟩;obtain⟨k',rfl⟩:=UO k0;have lr:=gO ((k':Int)+1+m) (m:=(R.asks.length:Int)) xL;obtain⟨l',el⟩:=UO lr.1;rw[el]at lr ⊢;have hk:k' < R.asks.length:=by omega
 have hll:l' < R.asks.length:=by omega
 have hk2:k' < ps.length:=by omega
 have hl2:l' < ps.length:=by omega
 unfold l4;walk_at "w";refine⟨x_,λ_=>⟨a,x2,2,rfl,hx2,x_,x_,λr3 x3 hx3 r30 r31=>⟨x3,rfl,?_⟩⟩⟩;obtain⟨kw,ekw⟩:=Hw r30 r31;walk_at "w";refine⟨_,ekw,?_⟩;walk_at "w";unfold l3;walk_at "w";refine⟨x_,λ_=>⟨a,x3,2,rfl,hx3,x_,x_,λr4 x4 hx4 r40 r41=>⟨x4,rfl,?_⟩⟩⟩;obtain⟨lw,elw⟩:=Hw r40 r41;walk_at "w";refine⟨_,elw,?_⟩;walk_at "w";unfold lZ;walk_at "w";refine⟨_,aY hk,?_⟩;walk_at "w";refine⟨R,ps,k',kw,rfl,hS,hk2,?_⟩;walk_at "w";have sk:=hS.sz_rb hk2;have sl:=hS.sz_rb hl2;rw[g9 hk]at sk;rw[g9 hll]at sl;have tk:=Dp (R:=R) (ps:=ps) (k:=k') kw;have tl:=Dp (R:=R) (ps:=ps) (k:=l') lw;rw[g9 hk]at tk;rw[g9 hll]at tl;refine⟨_,_,rfl,sk.mono x_,(nQ hS hk2 _).mono x_,?_⟩;rw[tk];walk_at "w";unfold lY;walk_at "w";refine⟨_,aY hll,?_⟩;walk_at "w";refine⟨R,ps,l',lw,rfl,hS,hl2,?_⟩;walk_at "w";refine⟨_,_,rfl,sl.mono x_,(nQ hS hl2 _).mono x_,?_⟩;rw[tl];walk_at "w";unfold lX;walk_at "w";refine⟨x_,λ_=>⟨_,_,rfl,(nQ hS hl2 _).mono x_,(nQ hS hk2 _).mono x_,?_⟩⟩;walk_at "w";refine⟨_,NY,?_⟩;walk_at "w";unfold lW;walk_at "w";refine⟨a,x4,12,rfl,hx4,x_,x_,λr5 x5 hx5 r50 r51=>⟨x5,rfl,?_⟩⟩;walk_at "w";refine⟨x_,λ_=>⟨a,x5,2,rfl,hx5,x_,x_,λr6 x6 hx6 r60 r61=>⟨x6,rfl,?_⟩⟩⟩;obtain⟨v,ev,v1,v2⟩:=GQ r50 r51 r60 r61;walk_at "w";refine⟨_,ev,?_⟩;walk_at "w";unfold lV
 rw[show(if Ra R ps l' lw<Ra R ps k' kw then Ra R ps l' lw else Ra R ps k' kw)=Rb R ps k' kw l' lw from rfl]
 have hm:RB 3700 (Rb R ps k' kw l' lw):=by
  rcases(hS.ms hk2 hl2 kw lw).2.2.2 with z|z
  . rw[z];exact nQ hS hk2 _
  . rw[z];exact nQ hS hl2 _
 walk_at "w";have dpos:=(Rb R ps k' kw l' lw).den_pos;have hden:=hm.2;refine⟨hm.bn x_,bj (by have:(2:Nat)^4<=2^200:=Uh x_ x_;simp;omega),hm.bd x_,bj x_,_,_,rfl,xL,?_,?_⟩
 .
  rw[Vm,UA];have e:(2:Nat)^3700*2^4<=2^9000:=by rw[<- Nat.pow_add];exact Uh x_ x_
  refine TU ?_ e;show(Rb R ps k' kw l' lw).den*12<_;exact Nat.mul_lt_mul_of_lt_of_le hden x_ x_
 walk_at "w";refine⟨x_,_,eM (ys:=x6) TQ (aj (aj aP)),?_⟩;exact h ⟨k',kw,l',lw,_⟩ v x6 hx6 hk2 hl2 v1 v2 rfl
def ik:FS:=λls so=>∃(R:aO)(ps:List Rat)(d:D)(D:Nat),ls=[.d (aK R),.d (.lst (ps.map Qq)),.d d]/\cU R ps/\(∀s,m8 d=some s->RB 4000 s.am/\s.am.den∣D)/\(0<D/\D<2^1500/\(∀a∈R.asks,a.size.den∣D)/\(∀p∈ps,p.den∣D)) /\
 (∀s,m8 d=some s->Rm R ps d=true->∀a,so (.own a ((Re ps s).map Qq)) ls)/\(Rm R ps d=false->so (.d .non) ls)
def ji:W Fl:=(aQ (bq 3 (wC .non))
  (aQ (Ko (λxt=>(bq 3 (rm cP xt (ar (ao 0) (ar (ao 1) (ar (bp (oM (ar (ao 2) aF))) aF)))))) "NoSlide" (bq 3 (wC .non)))
  (bN (jL 3))))
theorem MB{k:W Fl}{R:aO}{ps:List Rat}{d:D}{D:Nat}{so:Fl->Ev->Prop}(hS:cU R ps)(ha:∀s,m8 d=some s->RB 4000 s.am/\s.am.den∣D)(hD:0<D/\D<2^1500/\(∀a∈R.asks,a.size.den∣D)/\(∀p∈ps,p.den∣D))
  (h1:∀s,m8 d=some s->Rm R ps d=true->∀a,k [.d (aK R),.d (.lst (ps.map Qq)),.d d,.own a ((Re ps s).map Qq)] so) (h2:Rm R ps d=false->k [.d (aK R),.d (.lst (ps.map Qq)),.d d,.d .non] so) :
  aQ (Ko (λxt=>(bq 3 (rm cP xt (ar (ao 0) (ar (ao 1) (ar (bp (oM (ar (ao 2) aF))) aF)))))) "NoSlide" (bq 3 (wC .non))) k [.d (aK R),.d (.lst (ps.map Qq)),.d d,.d .non] so:=by
 walk_at "w";refine⟨x_,λ_=>⟨R,ps,[d],D,rfl,hS,v6,λu hu=>?_,hD,λe a=>?_,λi e=>?_⟩⟩
 . rw[U0.mp hu];exact ha
 .
  unfold mQ mQ at e
  cases q:Rm R ps d with
  | true =>
   obtain⟨s,es,_⟩:=Av q;have es':m8 d=some s:=by rw[es];exact gm s
   have er:gW R ps [d]=Re ps s:=by show Tj ps d=_;unfold Tj;rw[es']
   rw[er];exact h1 s es' q a
  |false=>rw[q]at e;cases e
 .
  unfold mQ mQ at e
  cases q:Rm R ps d with
  |true=>rw[q]at e;cases e
  |false=>exact⟨by rw[beq_self_eq_true,Bool.true_or],h2 q⟩
theorem Ke{k:W Fl}{x y z:L}{so:Fl->Ev->Prop}(h:k [x,y,z,.d .non] so):aQ (bq 3 (wC .non)) k ([x,y,z]++List.replicate 1 .un) so:=by walk_at "w";exact h
theorem sF:∀ls so,ls.length=3->ik ls so->ji (ls++List.replicate 1 .un) (aS ls so):=by
 rintro ls so - ⟨R,ps,d,D,rfl,hS,ha,hD,h1,h2⟩;unfold ji;refine Ke ?_;refine MB hS ha hD (λs es e a=>?_) λe=>?_
 . walk_at "w";exact⟨_,aj (aj (aj aP)),h1 s es e a⟩
 . walk_at "w";exact⟨_,aj (aj (aj aP)),h2 e⟩
def dD:FS:=λls so=>∃(a:Addr)(xs:List D)(R:aO)(ps:List Rat)(E:Nat),ls=[.own a xs,.d (aK R),.d (.lst (ps.map Qq))]/\m7 xs/\Tn R ps E/\E*20736<2^1500 /\
 ∀(c:Addr)(ss:List dM)(ys:List D),m7 ys->ss.length<=24->mQ R 0 ps (ss.map Q9)=none->(∀s∈ss,RB 4000 s.am/\s.am.den∣E*20736)->so (.own c (ss.map Q9)) [.own a ys,.d (aK R),.d (.lst (ps.map Qq))]
def fN:W Fl:=(Qa (aT (ax Il (br fj (ar (ax aM (ao 1) (wC (.int 1))) aF)) (wC (.int 1)))) (aQ (bq 6 (bp (bE jh 0 0 (jE 0 (ar (ao 1) (ar (ao 3) aF))))))
  (aQ (bq 7 (bp (aG ik (ar (ao 1) (ar (ao 3) (ar (ao 6) aF))))))
  (Qa (aT (ax qX (ao 7) (wC .non))) (aQ (sT (En 4 (ao 6)))
  (bq 3 (ao 7))) ck))) ck)
def dX:W Fl:=(aQ (bq 3 (bp (br uc (ar (ao 2) aF))))
  (aQ (bq 4 (oM aF))
  (aQ (qT (sU (bE aJ 0 0 (jE 0 (ar (wC (.int 5)) aF)))) (bJ 5) fN)
  (bN (ax cV (ao 4) (aG fR (ar (ao 1) (ar (ao 3) aF))))))))
theorem zj{R:aO}:∀(as bs:List D)(i:Nat)(ps:List Rat),mQ R i ps as=none->mQ R (i+as.length) (gW R ps as) bs=none->mQ R i ps (as++bs)=none
 |[],bs,i,ps,_,h=>h
 | a::as,bs,i,ps,h,g=>by
  rw[VM];unfold mQ at h ⊢;split
  . rename_i e;rw[e,if_pos rfl]at h;refine zj as bs (i+1) _ h ?_;rw[show i+1+as.length=i+(a::as).length by simp only[U9];omega];exact g
  . rename_i e;rw[if_neg e]at h;exact h
theorem Kg{R:aO}(as bs:List D)(ps:List Rat):gW R ps (as++bs)=gW R (gW R ps as) bs:=List.foldl_append
theorem Tn.upp{R:aO}{ps:List Rat}{D E:Nat}(h:Tn R ps D)(e0:0<E)(e1:E<2^1500)(hd:D∣E):Tn R ps E:=⟨h.ok,e0,e1,λa ha=>VD (h.da a ha) hd,λp hp=>VD (h.dp p hp) hd⟩
theorem Tq{E j:Nat}(h:E*20736<2^1500)(hj:j<=4):E*12^j<2^1500:=Ug (Nat.mul_le_mul_left E (show 12^j<=20736 from T9 (Uh x_ hj) x_)) h
theorem lp:∀ls so,ls.length=3->dD ls so->dX (ls++List.replicate 5 .un) (aS ls so):=by
 rintro ls so - ⟨a,xs,R,ps,E,rfl,hx,hD,hE,h⟩;have d0:=hD.d0;unfold dX;walk_at "w";refine λ_=>⟨x_,λb=>?_⟩;refine⟨a,xs,5,rfl,hx,x_,x_,λr x1 hx1 r0 r1=>⟨x1,rfl,?_⟩⟩;walk_at "w";obtain⟨n,rfl⟩:=UO r0;refine⟨⟨xL,xL⟩,?_⟩;rw[UZ];refine wQ _ (λj Z=>∃(ss:List dM)(qs:List Rat)(ys:List D)(x5 x6 x7:L),Z=[.own a ys,.d (aK R),.d (.lst (ps.map Qq)),.d (.lst (qs.map Qq)),.own b (ss.map Q9),x5,x6,x7]/\m7 ys/\ss.length<=j/\mQ R 0 ps (ss.map Q9)=none/\gW R ps (ss.map Q9)=qs/\Tn R qs (E*12^j)/\∀s∈ss,RB 4000 s.am/\s.am.den∣E*12^j) _ ⟨[],ps,x1,_,_,_,rfl,hx1,v6,rfl,rfl,by simpa using hD,v6⟩ ?_ ?_
 .
  rintro j Z hj ⟨ss,qs,ys,x5,x6,x7,rfl,hy,hl,hb,hr,hq,ha⟩ Q h1 h2 h3 h4;have e12:E*12^(j+1)=E*12^j*12:=by rw[Nat.pow_succ,Nat.mul_assoc]
  have lt:=Tq (j:=j+1) hE xL;have dv:E*12^j∣E*12^(j+1):=⟨12,e12⟩;have p0:0<E*12^(j+1):=Nat.mul_pos d0 (Nat.pos_of_ne_zero v6);have up:=hq.upp p0 lt dv;have hav:∀s∈ss,RB 4000 s.am/\s.am.den∣E*12^(j+1):=λs hs=>⟨(ha s hs).1,VD (ha s hs).2 dv⟩;unfold fN;walk_at "w";by_cases c:1<R.asks.length
  .
   rw[if_pos (by omega)];refine⟨a,ys,R,qs,rfl,hy,hq.ok,by rw[hq.ok.len];omega,λs v zs hz hk hl' v1 v2 e=>⟨zs,rfl,?_⟩⟩;obtain⟨a1,a2⟩:=Gy hq.ok hq.d0 (by rw[<- e12];exact lt) hq.da hq.dp hk hl' v1 v2 e;rw[<- e12]at a2;walk_at "w";refine⟨R,qs,Q9 s,E*12^(j+1),rfl,up.ok,λu hu=>?_,⟨up.d0,up.d1,up.da,up.dp⟩,λu hu e a'=>?_,λe=>?_⟩
   . rw[gm]at hu;cases hu;exact⟨a1.mono x_,a2⟩
   .
    rw[gm]at hu;cases hu;have e':=e;rw[Dv hk hl']at e';walk_at "w";refine⟨Ug (show ss.length<=4 by omega) x_,?_⟩;walk_at "w";refine h1 _ ⟨ss++[s],Re qs s,zs,_,_,_,by rw[UE];rfl,hz,by rw[Us];simp;omega,?_,?_,up.slid (vq up.ok hk hl' e') a2,λu hu=>?_⟩
    .
     rw[UE];refine zj _ _ _ _ hb ?_;rw[hr]
     show(if Rm R qs (Q9 s)then mQ R _ (Tj qs (Q9 s)) []else some _)=none
     rw[e];rfl
    . rw[UE,Kg,hr];show Tj qs (Q9 s)=_;unfold Tj;rw[gm]
    .
     rcases Uw.mp hu with hu|hu
     . exact hav u hu
     . rw[U0.mp hu];exact⟨a1.mono x_,a2⟩
   . walk_at "w";exact h1 _ ⟨ss,qs,zs,_,_,_,rfl,hz,xL,hb,hr,up,hav⟩
  . rw[if_neg (by omega)];exact h1 _ ⟨ss,qs,ys,_,_,_,rfl,hy,xL,hb,hr,up,hav⟩
 .
  rintro Z ⟨ss,qs,ys,x5,x6,x7,rfl,hy,hl,hb,hr,hq,ha⟩;have dv:E*12^n∣E*20736:=by refine Nat.mul_dvd_mul_left E ?_;exact VD (Nat.pow_dvd_pow 12 (show n<=4 by omega)) x_
  walk_at "w";refine⟨R,qs,rfl,hq.ok,λc=>?_⟩;walk_at "w";have ln:(qf R 20 qs).length<=20:=by refine T9 (u0 20 qs hq.ok) (T9 (U5 _ _) ?_);rw[UB,hq.ok.len];exact hq.ok.ok.few
  refine⟨T9 (show ss.length+(qf R 20 qs).length<=24 by omega) x_,λc=>?_⟩;rw[<- UE];refine⟨_,eM (ys:=ys) TQ (aj (aj aP)),h c (ss++qf R 20 qs) ys hy (by rw[Us];omega) ?_ λs hs=>?_⟩
  . rw[UE];refine zj _ _ _ _ hb ?_;rw[hr];exact(sx 20 _ qs hq).1
  .
   rcases Uw.mp hs with hs|hs
   . exact⟨(ha s hs).1,VD (ha s hs).2 dv⟩
   . have:=xF 20 qs hq s hs;exact⟨this.1,VD this.2 dv⟩
def eI:FS:=λls so=>∃(a:Addr)(xs:List D)(R:aO)(ps:List Rat),ls=[.own a xs,.d (aK R),.d (.lst (ps.map Qq))]/\m7 xs/\cU R ps /\
 ∀(c:Addr)(ws:List Bool)(ys:List D),m7 ys->ws.length=R.asks.length->so (.own c (ws.map gQ)) [.own a ys,.d (aK R),.d (.lst (ps.map Qq))]
def gY:W Fl:=(aQ (bq 7 (ax aM (oM (ar (wC (.str "back")) (ar (wC (.str "on")) aF))) (br wo (ar (ax sW (ao 6) (ax aM (ax aM (ax aM (ao 1) (wC (.int 1))) (ao 5)) (wC (.int 3)))) aF))))
  (aQ (Qa (aT (ax (yn false) (ao 5) (ao 3))) (bq 7 (ax aM (oM (ar (wC (.str "on")) (ar (wC (.str "back")) aF))) (bE aJ 0 0 (jE 0 (ar (wC (.int 2)) aF))))) ck)
  (sT (En 4 (ao 7)))))
def fH:W Fl:=(aQ (bq 3 (bp (aG eU (ar (ao 1) (ar (ao 2) aF)))))
  (aQ (bq 4 (oM aF))
  (aQ (qT (tj (ao 2)) (ff [5,6]) gY)
  (bN (jL 4)))))
theorem Kh{r:Int}(h0:0<=r)(h1:r < 2):∃ w:Bool,Pz [D.str (Str.ofString "on"),D.str (Str.ofString "back")] r=some (gQ w):=by
 have:r=0∨r=1:=by omega
 rcases this with rfl|rfl
 . exact⟨true,rfl⟩
 . exact⟨false,rfl⟩
theorem MC(p:Prop)[Decidable p]:∃ w:Bool,Pz [D.str (Str.ofString "back"),D.str (Str.ofString "on")] (if p then 1 else 0)=some (gQ w):=by
 split
 . exact⟨true,rfl⟩
 . exact⟨false,rfl⟩
theorem oy:∀ls so,ls.length=3->eI ls so->fH (ls++List.replicate 5 .un) (aS ls so):=by
 rintro ls so - ⟨a,xs,R,ps,rfl,hx,hS,h⟩;have hl:=hS.len;have few:=hS.ok.few;unfold fH;walk_at "w";refine⟨R,ps,1800,rfl,hS.ok,hS.len,λp hp=>?_,x_,λ_=>?_⟩
 . obtain⟨i,hi,rfl⟩:=UJ hp;rw[<- bu hi];exact hS.rb hi
 walk_at "w";refine⟨x_,λb=>?_⟩;rw[qH];refine uo _ (λj Z=>∃(ws:List Bool)(ys:List D)(x5 x6 x7:L),Z=[.own a ys,.d (aK R),.d (.lst (ps.map Qq)),.d (.lst ((Rl R ps).map λ(k:Nat)=>D.int (k:Int))),.own b (ws.map gQ),x5,x6,x7]/\m7 ys/\ws.length=j) _ ⟨[],xs,_,_,_,rfl,hx,rfl⟩ ?_ ?_
 .
  rintro j Z hj ⟨ws,ys,x5,x6,x7,rfl,hy,hw⟩ Q h1 h2 h3 h4;have hj2:j<R.asks.length:=by omega
  unfold gY;have few':ws.length<sizeLine:=TU (show ws.length<20 by omega) x_;walk_at "w";refine⟨x_,λ_=>⟨_,aY hj2,?_⟩⟩;walk_at "w";obtain⟨w,ew⟩:=MC (ps.getD j 0=R.asks[j].size);refine⟨_,ew,rfl,w5 _,?_⟩;split
  . refine⟨x_,λ_=>⟨a,ys,2,rfl,hy,x_,x_,λr zs hz r0 r1=>⟨zs,rfl,?_⟩⟩⟩;obtain⟨w2,ew2⟩:=Kh r0 r1;walk_at "w";refine⟨_,ew2,?_⟩;walk_at "w";exact⟨few',h1 _ ⟨ws++[w2],zs,_,_,_,by rw[UE];rfl,hz,by rw[Us];simp;omega⟩⟩
  . exact⟨few',h1 _ ⟨ws++[w],ys,_,_,_,by rw[UE];rfl,hy,by rw[Us];simp;omega⟩⟩
 . rintro Z ⟨ws,ys,x5,x6,x7,rfl,hy,hw⟩;walk_at "w";exact⟨_,eM (ys:=ys) TQ (aj (aj aP)),h b ws ys hy xL⟩
def fs_law:FS:=λls so=>∃ns:List Int,ls=[.d (.lst (ns.map .int))]/\ns.length<=63/\so (.d (.bl true)) ls
theorem D9{ns:List Int}(hl:ns.length<=63):fs_law [.d (.lst (ns.map .int))] (λr _=>r=.d (.bl true)):=⟨ns,rfl,hl,rfl⟩
def Ea:W Fl:=(aQ (bq 5 (bp (bE eI 0 7 (jE 7 (ar (ao 1) (ar (ao 8) aF))))))
  (Qa (Ii (aT (aG bQ (ar (ao 1) (ar (ao 2) (ar (nB (ar (ao 4) (ar (ao 5) aF))) aF))))) (vO (aT (aG fT (ar (ao 1) (ar (ao 3) (ar (ao 8) (ar (ao 5) aF)))))))) (bN (wC (.bl false))) ck))
def Eb:W Fl:=(aQ (bq 7 (aG b9 (ar (ao 0) (ar (ao 6) aF))))
  (aQ (bq 4 (bp (bE dD 0 7 (jE 7 (ar (ao 1) (ar (ao 2) aF))))))
  (aQ (bq 8 (bp (ug cP (λ_=>False) (ar (ao 1) (ar (ao 2) (ar (ao 4) aF))))))
  (qT (sU (wC (.int 3))) (bJ 9) Ea))))
def Ec:W Fl:=(bN (wC (.bl true)))
def Ed:W Fl:=(aQ (qT (Ik (wC (.int 4)) (br A3 (ar (wC (.int 5)) (ar (bp (br A4 (ar (bp (br fj (ar (ao 0) aF))) (ar (wC (.int 24)) aF)))) aF)))) (bJ 6) Eb)
  Ec)
def Ee:W Fl:=(aQ (Qa (vO (aT (aG fT (ar (ao 1) (ar (ao 3) (ar (bp (ug cP (λ_=>False) (ar (ao 1) (ar (ao 2) (ar (ao 4) aF))))) (ar (ao 5) aF))))))) (bN (wC (.bl false))) ck)
  Ed)
def Ef:W Fl:=(aQ (Qa (vO (aT (aG bQ (ar (ao 1) (ar (ao 2) (ar (nB (ar (ao 4) (ar (ao 5) aF))) aF)))))) (bN (wC (.bl false))) ck)
  Ee)
def Eg:W Fl:=(aQ (Cq [4,5] (aG ic (ar (ao 1) (ar (ao 2) aF))))
  Ef)
def Eh:W Fl:=(aQ (bq 3 (bp (aG fS (ar (ao 1) (ar (ao 2) aF)))))
  Eg)
def Ei:W Fl:=(aQ (bq 2 (bp (aG je (ar (aG b9 (ar (ao 0) (ar (wC (.int 3)) aF))) (ar (ao 1) aF)))))
  Eh)
def Ki:W Fl:=(aQ (bq 1 (bp (aG kC (ar (ao 0) (ar (wC (.int 0)) (ar (wC (.int 8)) (ar (wC (.int 7)) aF)))))))
  Ei)
theorem GR{R:aO}{ps:List Rat}(hR:R.Ok)(hT:∀a∈R.asks,RB 60 a.size)(h8:R.asks.length<=20)(h:D6 R ps):∃D:Nat,Tn R ps D/\D<=2^1210:=by
 have d2:Bl R.asks<=2^1200:=T9 (yI hT) (Uh x_ xL);have d3:Bl R.asks*12<=2^1210:=T9 (Nat.mul_le_mul d2 (show 12<=2^10 by decide)) (by rw[<- Nat.pow_add];exact Ud _);have d4:Bl R.asks*12<2^1500:=Ug d3 (Nat.pow_lt_pow_right x_ x_);have d0:0<Bl R.asks*12:=Nat.mul_pos (uU _) x_;have da:∀a∈R.asks,a.size.den∣Bl R.asks*12:=λa ha=>VD (qF ha) (Nat.dvd_mul_right _ _)
 have dp:∀p∈ps,p.den∣Bl R.asks*12:=λp hp=>by
  obtain⟨k,hk,rfl⟩:=UJ hp;have hk':k<R.asks.length:=by rw[<- h.len];exact hk
  obtain⟨v,v0,v1,e⟩:=h.tw k hk';rw[<- bu hk,e];refine VD (rD _ _) (Nat.mul_dvd_mul ?_ ?_)
  . rw[g9 hk'];exact qF (TV hk')
  . have:=uY (t:=v) (b:=12) x_;exact this
 refine⟨Bl R.asks*12,⟨⟨hR,h.len,λk hk=>?_,_,d0,d4,da,dp⟩,d0,d4,da,dp⟩,d3⟩;have hk':k<R.asks.length:=by rw[<- h.len];exact hk
 have hz:k<(R.asks.zip ps).length:=by rw[U7];omega
 have:=h.lo _ (TV hz);rw[VB]at this;rw[bu hk,g9 hk'];exact this
theorem uy{R:aO}{ps:List Rat}{ss:List D}{ws:List Bool}{M:Nat}{os:List Nat}(hD:Tn R ps M)(ha:∀u∈ss,∀s,m8 u=some s->RB 4000 s.am/\s.am.den∣M)(hw:ws.length=R.asks.length)(hb:mQ R 0 ps ss=none)(hc:Rj (Ri R) (Rl R (gW R ps ss))=none)(op:os.Perm (Rl R (gW R ps ss)))(ow:os.Pairwise λi j=>Rp R i<=Rp R j)
  (h:((List.range R.asks.length).all (Rv R (gW R ps ss) (Rl R (gW R ps ss)) ws) && Rw (bP R (Rl R (gW R ps ss))) 0 (Rx R (gW R ps ss) ws os))=true) :
  ∀t,t<R.n->bH R.n R.asks (Tp R ws) t<=bH R.n R.asks ps t+(bP R (Rl R (gW R ps ss))+bP R (Rl R (gW R ps ss))+bP R (Rl R (gW R ps ss))):=λt ht=>by
 rw[Uc]at h;have hQ:=(AD ss 0 ps hD ha hb).ok;have h1:=GA hQ (D8 hw) (λk hk=>Mz hw hk) hc h.1 op ow h.2 ht;have h2:=AF ht ss 0 ps hD ha hb;grind
theorem Kj:∀ls so,ls.length=1->fs_law ls so->Ki (ls++List.replicate 9 .un) (aS ls so):=by
 rintro ls so - ⟨ns,rfl,hl,h⟩;unfold Ki;walk_at "w";refine⟨ns,0,8,7,rfl,xL,x_,x_,x_,λR hDr=>?_⟩;have hR:=hDr.ok;walk_at "w";unfold Ei;walk_at "w";refine⟨ns,3,rfl,xL,xL,λb xs hx=>?_⟩;walk_at "w";refine⟨b,xs,R,rfl,hx,hR,hDr.tt,λps c ys hy hp=>?_⟩;obtain⟨D0,hD0,hD1⟩:=GR hR hDr.tt hR.few hp;walk_at "w";unfold Eh;walk_at "w";refine⟨R,ps,rfl,hD0.ok,λc2=>?_⟩;walk_at "w";unfold Eg;walk_at "w";refine⟨R,ps,rfl,hD0.ok,λa1 a2 os op ow=>?_⟩;walk_at "w";obtain⟨r1,r2,r3⟩:=sx 20 0 ps hD0;have op:os.Perm (Rl R (mr R 20 ps)):=op;have s99:((qf R 20 ps).map Q9).length<=99:=by rw[TY];exact T9 (Hv hD0.ok) x_
 have sam:=D3 (xF 20 ps hD0);have hw:(Rt R (mr R 20 ps) (bP R (Rl R (mr R 20 ps))) 0 (Ru R (mr R 20 ps)) os).length=R.asks.length:=by rw[DC,DI r3.ok]
 have hbd:∀t,t<R.n->bH R.n R.asks (Tp R (Rt R (mr R 20 ps) (bP R (Rl R (mr R 20 ps))) 0 (Ru R (mr R 20 ps)) os)) t<=bH R.n R.asks ps t+(bP R (Rl R (mr R 20 ps))+bP R (Rl R (mr R 20 ps))+bP R (Rl R (mr R 20 ps))):=by have:=uy (os:=os) hD0 sam hw r1 (by rw[r2];exact xG hD0.ok) (by rw[r2];exact op) ow (by rw[r2,DH r3.ok op,DJ r3.ok op];rfl);rw[r2]at this;exact this
 unfold Ef;walk_at "w";refine⟨x_,GP hD0 op ow ?_⟩;walk_at "w";unfold Ee;walk_at "w";refine⟨R,ps,_,D0,rfl,hD0.ok,s99,sam,⟨hD0.d0,hD0.d1,hD0.da,hD0.dp⟩,λ_ a3=>?_,λi hi=>?_⟩
 case refine_2 =>
  rw[r1]at hi;cases hi
 rw[r2];walk_at "w";refine⟨R,ps,mr R 20 ps,_,rfl,hD0.ok,r3.ok,hw,hbd,?_⟩;walk_at "w";have hE:D0*20736<2^1500:=Ug (Nat.mul_le_mul hD1 (show 20736<=2^20 by decide)) (by rw[<- Nat.pow_add];exact Nat.pow_lt_pow_right x_ x_);have up:=hD0.upp (E:=D0*20736) (Nat.mul_pos hD0.d0 x_) hE (Nat.dvd_mul_right _ _);unfold Ed;walk_at "w";refine⟨⟨xL,xL⟩,⟨?_,?_⟩,?_⟩
 . split<;>split<;>omega
 . split<;>split<;>omega
 refine z9 4 _ (λj Z=>∃(x4 x5 x6 x7 x8 x9:L),Z=[.d (.lst (ns.map .int)),.d (aK R),.d (.lst (ps.map Qq)),.d (.lst (QX R.n (bH R.n R.asks ps))),x4,x5,x6,x7,x8,x9]) _ ⟨_,_,_,_,_,_,rfl⟩ ?_ ?_
 .
  rintro j Z hj ⟨x4,x5,x6,x7,x8,x9,rfl⟩ Q h1 h2 h3 h4;have hj':j<24:=by split at hj<;>split at hj<;>omega
  have ej:(4:Int)+(j:Int)=((4+j:Nat):Int):=by omega
  rw[ej];unfold Eb;walk_at "w";refine⟨ns,((4+j:Nat):Int),rfl,xL,xL,λb2 xs2 hx2=>?_⟩;walk_at "w";refine⟨b2,xs2,R,ps,D0,rfl,hx2,hD0,hE,λc4 ss ys2 hy2 l24 hb ha=>⟨ys2,rfl,?_⟩⟩;have sam2:=D3 ha;have l99:(ss.map Q9).length<=99:=by rw[TY];omega
  have hq:=AD _ 0 ps up sam2 hb;walk_at "w";refine⟨R,ps,_,D0*20736,rfl,up.ok,l99,sam2,⟨up.d0,up.d1,up.da,up.dp⟩,λ_ a5=>?_,λi hi=>?_⟩
  case refine_2 =>
   rw[hb]at hi;cases hi
  walk_at "w";refine⟨⟨x_,x_⟩,wQ _ (λj Z=>∃(x5 x6 x9:L)(ys:List D),Z=[.d (.lst (ns.map .int)),.d (aK R),.d (.lst (ps.map Qq)),.d (.lst (QX R.n (bH R.n R.asks ps))),.d (.lst (ss.map Q9)),x5,x6,.own b2 ys,.d (.lst ((gW R ps (ss.map Q9)).map Qq)),x9]/\m7 ys) _ ⟨_,_,_,_,rfl,hy2⟩ ?_ ?_⟩
  .
   rintro j2 Z hj2 ⟨x5,x6,x9,ys3,rfl,hy3⟩ Q g1 g2 g3 g4;unfold Ea;walk_at "w";refine⟨b2,ys3,R,_,rfl,hy3,hq.ok,λc6 ws zs hz wl=>⟨zs,rfl,?_⟩⟩;walk_at "w";refine⟨x_,AE up l99 sam2 wl (λ_=>?_) λos2 _ hc op2 ow2=>?_⟩
   . walk_at "w";exact g1 _ ⟨_,_,_,_,rfl,hz⟩
   .
    walk_at "w";split
    . rename_i e;refine⟨R,ps,_,ws,rfl,hD0.ok,hq.ok,wl,uy up sam2 wl hb hc op2 ow2 e,?_⟩;walk_at "w";exact g1 _ ⟨_,_,_,_,rfl,hz⟩
    . exact g1 _ ⟨_,_,_,_,rfl,hz⟩
  . rintro Z ⟨x5,x6,x9,ys3,rfl,hy3⟩;exact h1 _ ⟨_,_,_,_,_,_,rfl⟩
 . rintro Z ⟨x4,x5,x6,x7,x8,x9,rfl⟩;unfold Ec;walk_at "w";exact⟨_,aj aP,h⟩
noncomputable abbrev ip:Stmt:=Hd.inCls (Hd.top 3) 0
noncomputable abbrev kM:FuncData:=QQ "__init__" "LoadError.__init__" ip (.str "ringloads.errors" 198) 34
noncomputable abbrev gZ:Stmt:=Hd.inCls (Hd.top 4) 0
noncomputable abbrev jj:FuncData:=QQ "__init__" "NoSlide.__init__" gZ (.str "ringloads.errors" 198) 54
structure Tx (K:PySem.W.Frag) (mg:Str->Option Value) (ad:Nat->Addr) (fd:Nat->FuncData):Prop where
 x_greatest_shared:FX K mg "greatest_shared" eA (ad 0) (fd 0) ["one","other"]
 x_is_whole:FX K mg "is_whole" o4 (ad 1) (fd 1) ["thing"]
 x_is_number_below:FX K mg "is_number_below" eB (ad 2) (fd 2) ["thing","many"]
 x_are_two_wholes:FX K mg "are_two_wholes" fA (ad 3) (fd 3) ["thing"]
 x_is_ratio:FX K mg "is_ratio" o6 (ad 4) (fd 4) ["thing"]
 x_lowest:FX K mg "lowest" u7 (ad 5) (fd 5) ["top","bottom"]
 x_plus:FX K mg "plus" DL (ad 6) (fd 6) ["one","other"]
 x_minus:FX K mg "minus" yR (ad 7) (fd 7) ["one","other"]
 x_times:FX K mg "times" yS (ad 8) (fd 8) ["one","other"]
 x_under:FX K mg "under" yT (ad 9) (fd 9) ["one","other"]
 x_greater:FX K mg "greater" rK (ad 10) (fd 10) ["one","other"]
 x_lesser:FX K mg "lesser" u9 (ad 11) (fd 11) ["one","other"]
 x_lesser_place:FX K mg "lesser_place" hG (ad 12) (fd 12) ["ring","k"]
 x_greater_place:FX K mg "greater_place" gn (ad 13) (fd 13) ["ring","k"]
 x_do_cross:FX K mg "do_cross" o7 (ad 14) (fd 14) ["ring","k","l"]
 x_parted_in:FX K mg "parted_in" iS (ad 15) (fd 15) ["ring","sending"]
 x_first_side_by_side:FX K mg "first_side_by_side" cY (ad 16) (fd 16) ["ring","some"]
 x_is_way:FX K mg "is_way" va (ad 17) (fd 17) ["thing"]
 x_other_way:FX K mg "other_way" mv (ad 18) (fd 18) ["way"]
 x_ties_of:FX K mg "ties_of" jX (ad 19) (fd 19) ["ring","k","way"]
 x_are_ways:FX K mg "are_ways" kY (ad 20) (fd 20) ["ring","thing"]
 x_part_behind:FX K mg "part_behind" iT (ad 21) (fd 21) ["part","way","amount"]
 x_slid_once:FX K mg "slid_once" mw (ad 22) (fd 22) ["sending","slide"]
 x_share_no_tie:FX K mg "share_no_tie" eO (ad 23) (fd 23) ["ring","k","way","l","other"]
 x_has_form_of_slide:FX K mg "has_form_of_slide" dA (ad 24) (fd 24) ["thing","asks"]
 x_not_sent:FX K mg "not_sent" o8 (ad 25) (fd 25) ["ring","sending","k","way"]
 x_most_slid:FX K mg "most_slid" my (ad 26) (fd 26) ["ring","sending","slide"]
 x_is_slide:FX K mg "is_slide" o9 (ad 27) (fd 27) ["ring","sending","thing"]
 x_slid_by:FX K mg "slid_by" rO (ad 28) (fd 28) ["ring","sending","thing"]
 x_ways_apart:FX K mg "ways_apart" jY (ad 29) (fd 29) ["ring","k","l"]
 x_greatest_slide:FX K mg "greatest_slide" fB (ad 30) (fd 30) ["ring","sending","k","l"]
 x_slides_for:FX K mg "slides_for" jZ (ad 31) (fd 31) ["ring","sending"]
 x_nearest_way:FX K mg "nearest_way" iU (ad 32) (fd 32) ["ask","part"]
 x_keeps_whole_asks:FX K mg "keeps_whole_asks" dN (ad 33) (fd 33) ["ring","slid","parted","ways"]
 x_half_of_greatest:FX K mg "half_of_greatest" dO (ad 34) (fd 34) ["ring","some"]
 x_by_lesser_place:FX K mg "by_lesser_place" cO (ad 35) (fd 35) ["ring","some"]
 l_by_lesser_place:LK K "by_lesser_place" (fd 35) cO
 x_rising_way:FX K mg "rising_way" j3 (ad 36) (fd 36) ["ring","k"]
 x_gain_of:FX K mg "gain_of" rP (ad 37) (fd 37) ["ring","sending","k","way"]
 x_keeps_within:FX K mg "keeps_within" hJ (ad 38) (fd 38) ["ring","slid","parted","ways"]
 x_lets_rounding:FX K mg "lets_rounding" gp (ad 39) (fd 39) ["ring","sending","thing"]
 x_rounded_ways:FX K mg "rounded_ways" eQ (ad 40) (fd 40) ["ring","slid"]
 x_rounding_of:FX K mg "rounding_of" iV (ad 41) (fd 41) ["ring","sending"]
 x__law_begun:FX K mg "_law_begun" j4 (ad 42) (fd 42) ["_law_script","_law_k"]
 x__law_take:FX K mg "_law_take" mz (ad 43) (fd 43) ["_law_state","_law_many"]
 x__law_names:FX K mg "_law_names" ft (ad 44) (fd 44) ["_law_state","_law_many"]
 x__law_low:FX K mg "_law_low" pf (ad 45) (fd 45) ["_law_top","_law_bottom"]
 x__law_amount:FX K mg "_law_amount" iW (ad 46) (fd 46) ["_law_state","_law_least","_law_kind"]
 x__law_rooms:FX K mg "_law_rooms" j6 (ad 47) (fd 47) ["_law_state","_law_ties_here","_law_kind"]
 x__law_ends:FX K mg "_law_ends" mB (ad 48) (fd 48) ["_law_state","_law_shape","_law_places","_law_k"]
 x__law_ring:FX K mg "_law_ring" mC (ad 49) (fd 49) ["_law_script","_law_at","_law_most","_law_count"]
 x__law_parts:FX K mg "_law_parts" j7 (ad 50) (fd 50) ["_law_state","_law_ring_here"]
 x__law_ties:FX K mg "_law_ties" mD (ad 51) (fd 51) ["_law_ring_here","_law_k","_law_way"]
 x__law_minus:FX K mg "_law_minus" j8 (ad 52) (fd 52) ["_law_one","_law_other"]
 x__law_plus:FX K mg "_law_plus" mE (ad 53) (fd 53) ["_law_one","_law_other"]
 x__law_loads:FX K mg "_law_loads" j9 (ad 54) (fd 54) ["_law_ring_here","_law_sending"]
 x__law_under:FX K mg "_law_under" ka (ad 55) (fd 55) ["_law_one","_law_other"]
 x__law_greatest:FX K mg "_law_greatest" gu (ad 56) (fd 56) ["_law_ring_here","_law_some"]
 x__law_parted:FX K mg "_law_parted" iX (ad 57) (fd 57) ["_law_ring_here","_law_sending"]
 x__law_holds:FX K mg "_law_holds" gS (ad 58) (fd 58) ["_law_ring_here","_law_loads_here","_law_behind","_law_ways"]
 x__law_gone:FX K mg "_law_gone" mF (ad 59) (fd 59) ["_law_ring_here","_law_sending","_law_k","_law_way"]
 x__law_drawn:FX K mg "_law_drawn" kb (ad 60) (fd 60) ["_law_state","_law_ring_here","_law_sending"]
 x__law_let_by:FX K mg "_law_let_by" iY (ad 61) (fd 61) ["_law_ring_here","_law_sending","_law_thing"]
 x__law_some_slides:FX K mg "_law_some_slides" dP (ad 62) (fd 62) ["_law_state","_law_ring_here","_law_sending"]
 x__law_some_ways:FX K mg "_law_some_ways" fC (ad 63) (fd 63) ["_law_state","_law_ring_here","_law_behind"]
 x_law:FX K mg "law" GF (ad 64) (fd 64) ["_law_script"]
 li:CM K mg 38 35 kM ip
 i_NoSlide:PX K "__init__" "NoSlide.__init__" gZ 55 jj
 c_NoSlide:XT K mg "NoSlide" 58 55 jj ["self","number"] ["number"]
 h_NoSlide:XH K mg "NoSlide" 58
 z_ValueError:mg "ValueError"=none
 z_abs:mg "abs"=none
 z_all:mg "all"=none
 z_any:mg "any"=none
 z_bool:mg "bool"=none
 z_enumerate:mg "enumerate"=none
 z_int:mg "int"=none
 z_isinstance:mg "isinstance"=none
 z_len:mg "len"=none
 z_list:mg "list"=none
 z_max:mg "max"=none
 z_min:mg "min"=none
 z_range:mg "range"=none
 z_sorted:mg "sorted"=none
 z_str:mg "str"=none
 z_tuple:mg "tuple"=none
 z_zip:mg "zip"=none
 g_BACK:yo K mg "BACK" (.str "back")
 g_HALF:yo K mg "HALF" (.tup [(.int 1),(.int 2)])
 g_NOUGHT:yo K mg "NOUGHT" (.tup [(.int 0),(.int 1)])
 g_ON:yo K mg "ON" (.str "on")
section
variable{P:Program}{w:World}{K:PySem.W.Frag}{mg:Str->Option Value}{base:Heap}{ad:Nat->Addr}{fd:Nat->FuncData}
theorem sG:aC ["self","text"] ["self","text"] (au ip):=⟨rfl,rfl,rfl,y_,rfl,y_,y_⟩
theorem vD:aC ["self","number"] ["self","number"] (au gZ):=⟨rfl,rfl,rfl,y_,rfl,y_,y_⟩
theorem xM(T:Tx K mg ad fd):FnOk P w K mg base CX0 1 35 kM ["self","text"] (ML K):=T.li.f.ok (k:=0) sG FF (λcdv A outer s H vs Q E hr q=>⟨_,BK (BL (Fy rfl T.z_ValueError (dG (pv 0) (dG (pv 1) ng)))),Jd q⟩)
theorem uz(T:Tx K mg ad fd):FnOk P w K mg base CX0 2 55 jj ["self","number"] (Lw K ["number"]):=T.i_NoSlide.ok (k:=1) vD FG (λcdv A outer s H vs Q E hr q=>⟨_,Ew (BL (Fz T.li (xM T) hr rfl (dG (pv 0) (dG BJ ng)))) (BK (Jc (pv 0) (pv 1))),Je q⟩)
theorem cA:aC oZ ["one","other"] (au eA):=⟨rfl,rfl,rfl,y_,rfl,y_,y_⟩
theorem g5(T:Tx K mg ad fd):FnOk P w K mg base CX0 1 (ad 0) (fd 0) ["one","other"] (spF K 2 cx) :=
 bf (k:=0) T.x_greatest_shared.f cA eD (λcdv A outer s H E hr=>(ai (nC Uo (P8 (wm hr.units) (af 1) ah (a8 _)) (ai (aA (i:=2) cA.nd rfl v4 (az de (af 0) (af 1)))
  (ai (aA (i:=0) cA.nd rfl v4 (af 1))
  (aq (aA (i:=1) cA.nd rfl v4 (af 2))))))
  (aq (aE (a7 Cj rfl T.z_abs y_ (ae (af 0) ag))))))
  mH
theorem zk:aC Bo ["thing"] (au o4):=⟨rfl,rfl,rfl,y_,rfl,y_,y_⟩
theorem mY(T:Tx K mg ad fd):FnOk P w K mg base CX0 1 (ad 1) (fd 1) ["thing"] (spF K 1 gv) :=
 bf (k:=0) T.x_is_whole.f zk kZ (λcdv A outer s H E hr=>(aq (aE (jo (pQ IH rfl T.z_isinstance rfl T.z_int y_ (af 0)) (nr (Cc (pQ Fk rfl T.z_isinstance rfl T.z_bool y_ (af 0))))))))
  xv
theorem oz:aC o5 ["thing","many"] (au eB):=⟨rfl,rfl,rfl,y_,rfl,y_,y_⟩
theorem g6(T:Tx K mg ad fd):FnOk P w K mg base CX0 2 (ad 2) (fd 2) ["thing","many"] (spF K 2 cy) :=
 bf (k:=1) T.x_is_number_below.f oz eE (λcdv A outer s H E hr=>(aq (aE (jo (aI (mY T) T.x_is_whole hr (ae (af 0) ag)) (nr (Fn M9 M8 ah (af 0) (af 1)))))))
  mI
theorem pF:aC qh ["thing"] (au fA):=⟨rfl,rfl,rfl,y_,rfl,y_,y_⟩
theorem pG(T:Tx K mg ad fd):FnOk P w K mg base CX0 2 (ad 3) (fd 3) ["thing"] (spF K 1 eF) :=
 bf (k:=1) T.x_are_two_wholes.f pF di (λcdv A outer s H E hr=>(aq (aE (jo (pQ qV rfl T.z_isinstance rfl T.z_tuple y_ (af 0)) (jo (iw (iP hr.units) (a7 fZ rfl T.z_len y_ (ae (af 0) ag)) ah (a8 _)) (jo (aI (mY T) T.x_is_whole hr (ae (av (af 0) ah (λ_ _=>rfl)) ag)) (nr (aI (mY T) T.x_is_whole hr (ae (av (af 0) ah (λ_ _=>rfl)) ag)))))))))
  nV
theorem zl:aC Bp ["thing"] (au o6):=⟨rfl,rfl,rfl,y_,rfl,y_,y_⟩
theorem zm(T:Tx K mg ad fd):FnOk P w K mg base CX0 3 (ad 4) (fd 4) ["thing"] (spF K 1 mJ) :=
 bf (k:=2) T.x_is_ratio.f zl k6 (λcdv A outer s H E hr=>(aq (aE (jo (aI (pG T) T.x_are_two_wholes hr (ae (af 0) ag)) (jo (iw K4 (av (af 0) ah (λ_ _=>rfl)) ah (a8 _)) (nr (iw (iP hr.units) (aI (g5 T) T.x_greatest_shared hr (ae (av (af 0) ah (λ_ _=>rfl)) (ae (av (af 0) ah (λ_ _=>rfl)) ag))) ah (a8 _))))))))
  xw
theorem sH:aC GC ["top","bottom"] (au u7):=⟨rfl,rfl,rfl,y_,rfl,y_,y_⟩
theorem sI(T:Tx K mg ad fd):FnOk P w K mg base CX0 2 (ad 5) (fd 5) ["top","bottom"] (spF K 2 kc) :=
 bf (k:=1) T.x_lowest.f sH vh (λcdv A outer s H E hr=>(ai (aA (i:=2) sH.nd rfl v4 (ay (aI (g5 T) T.x_greatest_shared hr (ae (af 0) (ae (af 1) ag)))))
  (ai (cN (P8 oO (af 1) ah (a8 _)) (aq (aA (i:=2) sH.nd rfl v4 (KZ (af 2)))) aX)
  (aq (aE (bW (ae (az qU (af 0) (af 2)) (ae (az qU (af 1) (af 2)) ag))))))))
  Bu
theorem Kk:aC Mq ["one","other"] (au DL):=⟨rfl,rfl,rfl,y_,rfl,y_,y_⟩
theorem vE(T:Tx K mg ad fd):FnOk P w K mg base CX0 3 (ad 6) (fd 6) ["one","other"] (spF K 2 kd) :=
 bf (k:=2) T.x_plus.f Kk DP (λcdv A outer s H E hr=>(aq (aE (aI (sI T) T.x_lowest hr (ae (ay (az bR (az a9 (av (af 0) ah (λ_ _=>rfl)) (av (af 1) ah (λ_ _=>rfl))) (az a9 (av (af 1) ah (λ_ _=>rfl)) (av (af 0) ah (λ_ _=>rfl))))) (ae (ay (az a9 (av (af 0) ah (λ_ _=>rfl)) (av (af 1) ah (λ_ _=>rfl)))) ag))))))
  GG
theorem GS:aC J3 ["one","other"] (au yR):=⟨rfl,rfl,rfl,y_,rfl,y_,y_⟩
theorem oA(T:Tx K mg ad fd):FnOk P w K mg base CX0 3 (ad 7) (fd 7) ["one","other"] (spF K 2 eR) :=
 bf (k:=2) T.x_minus.f GS y6 (λcdv A outer s H E hr=>(aq (aE (aI (sI T) T.x_lowest hr (ae (az gK (az a9 (av (af 0) ah (λ_ _=>rfl)) (av (af 1) ah (λ_ _=>rfl))) (az a9 (av (af 1) ah (λ_ _=>rfl)) (av (af 0) ah (λ_ _=>rfl)))) (ae (ay (az a9 (av (af 0) ah (λ_ _=>rfl)) (av (af 1) ah (λ_ _=>rfl)))) ag))))))
  DQ
theorem GT:aC J4 ["one","other"] (au yS):=⟨rfl,rfl,rfl,y_,rfl,y_,y_⟩
theorem GU(T:Tx K mg ad fd):FnOk P w K mg base CX0 3 (ad 8) (fd 8) ["one","other"] (spF K 2 vi) :=
 bf (k:=2) T.x_times.f GT y7 (λcdv A outer s H E hr=>(aq (aE (aI (sI T) T.x_lowest hr (ae (ay (az a9 (av (af 0) ah (λ_ _=>rfl)) (av (af 1) ah (λ_ _=>rfl)))) (ae (ay (az a9 (av (af 0) ah (λ_ _=>rfl)) (av (af 1) ah (λ_ _=>rfl)))) ag))))))
  DS
theorem GV:aC J5 ["one","other"] (au yT):=⟨rfl,rfl,rfl,y_,rfl,y_,y_⟩
theorem fU(T:Tx K mg ad fd):FnOk P w K mg base CX0 1 (ad 9) (fd 9) ["one","other"] (spF K 2 dQ) :=
 bf (k:=0) T.x_under.f GV y9 (λcdv A outer s H E hr=>(aq (aE (iw oO (az a9 (av (af 0) ah (λ_ _=>rfl)) (av (af 1) ah (λ_ _=>rfl))) (az a9 (av (af 1) ah (λ_ _=>rfl)) (av (af 0) ah (λ_ _=>rfl))) (a8 _)))))
  DT
theorem By:aC DM ["one","other"] (au rK):=⟨rfl,rfl,rfl,y_,rfl,y_,y_⟩
theorem Bz(T:Tx K mg ad fd):FnOk P w K mg base CX0 2 (ad 10) (fd 10) ["one","other"] (spF K 2 ph) :=
 bf (k:=1) T.x_greater.f By rS (λcdv A outer s H E hr=>(aq (aE (nu (bV (aI (fU T) T.x_under hr (ae (af 0) (ae (af 1) ag)))) (af 1) (af 0)))))
  zb
theorem Ej:aC GD ["one","other"] (au u9):=⟨rfl,rfl,rfl,y_,rfl,y_,y_⟩
theorem Ek(T:Tx K mg ad fd):FnOk P w K mg base CX0 2 (ad 11) (fd 11) ["one","other"] (spF K 2 rT) :=
 bf (k:=1) T.x_lesser.f Ej vj (λcdv A outer s H E hr=>(aq (aE (nu (bV (aI (fU T) T.x_under hr (ae (af 1) (ae (af 0) ag)))) (af 1) (af 0)))))
  Bv
theorem sJ:aC tJ ["ring","k"] (au hG):=⟨rfl,rfl,rfl,y_,rfl,y_,y_⟩
theorem gC(T:Tx K mg ad fd):FnOk P w K mg base CX0 1 (ad 12) (fd 12) ["ring","k"] (spF K 2 cG) :=
 bf (k:=0) T.x_lesser_place.f sJ hU (λcdv A outer s H E hr=>(aq (aE (a7 (Cm rfl) rfl T.z_min y_ (ae (av (av (av (af 0) ah (λ_ _=>rfl)) (af 1) (λ_ _=>rfl)) ah (λ_ _=>rfl)) (ae (av (av (av (af 0) ah (λ_ _=>rfl)) (af 1) (λ_ _=>rfl)) ah (λ_ _=>rfl)) ag))))))
  qm
theorem qr:aC rL ["ring","k"] (au gn):=⟨rfl,rfl,rfl,y_,rfl,y_,y_⟩
theorem jx(T:Tx K mg ad fd):FnOk P w K mg base CX0 1 (ad 13) (fd 13) ["ring","k"] (spF K 2 dj) :=
 bf (k:=0) T.x_greater_place.f qr gw (λcdv A outer s H E hr=>(aq (aE (a7 (Ck rfl) rfl T.z_max y_ (ae (av (av (av (af 0) ah (λ_ _=>rfl)) (af 1) (λ_ _=>rfl)) ah (λ_ _=>rfl)) (ae (av (av (av (af 0) ah (λ_ _=>rfl)) (af 1) (λ_ _=>rfl)) ah (λ_ _=>rfl)) ag))))))
  pj
theorem gD:aC Bq ["ring","k","l"] (au o7):=⟨rfl,rfl,rfl,y_,rfl,y_,y_⟩
theorem zo(T:Tx K mg ad fd):FnOk P w K mg base CX0 2 (ad 14) (fd 14) ["ring","k","l"] (spF K 3 mK) :=
 bf (k:=1) T.x_do_cross.f gD pk (λcdv A outer s H E hr=>(ai (aA (i:=3) gD.nd rfl v4 (ay (aI (gC T) T.x_lesser_place hr (ae (af 0) (ae (af 1) ag)))))
  (ai (aA (i:=4) gD.nd rfl v4 (ay (aI (jx T) T.x_greater_place hr (ae (af 0) (ae (af 1) ag)))))
  (ai (aA (i:=5) gD.nd rfl v4 (ay (aI (gC T) T.x_lesser_place hr (ae (af 0) (ae (af 2) ag)))))
  (ai (aA (i:=6) gD.nd rfl v4 (ay (aI (jx T) T.x_greater_place hr (ae (af 0) (ae (af 2) ag)))))
  (aq (aE (M4 (wH (af 3) (rj.cons oO (af 5) (rj.cons oO (af 4) (rj.one oO (af 6))))) (nr (wH (af 5) (rj.cons oO (af 3) (rj.cons oO (af 6) (rj.one oO (af 4))))))))))))))
  xy
theorem xN:aC rM ["ring","sending"] (au iS):=⟨rfl,rfl,rfl,y_,rfl,y_,y_⟩
theorem g7(T:Tx K mg ad fd):FnOk P w K mg base CX0 2 (ad 15) (fd 15) ["ring","sending"] (spF K 2 bX) :=
 bf (k:=1) T.x_parted_in.f xN mL (λcdv A outer s H E hr=>(aq (aE (mj (sc:=(au iS)) (N:=rM) (Nt:=["k","part"]) (Nf:=["ring"]) (fi:=[0]) rfl rfl rfl (gN rfl T.z_enumerate (af 1)) rfl y_ y_ y_ x_ rfl y_ x_ (λ_ _ _ _=>(CA rfl (kU (i:=0) x_ (show((["k","part"]:List Str)++(["ring"]:List Str)).Nodup by decide +kernel) rfl (Or.inl rfl) (kU (i:=1) x_ (show((["k","part"]:List Str)++(["ring"]:List Str)).Nodup by decide +kernel) rfl (Or.inl rfl) yr)))) (λ_ _ _ _=>(ID (P6.pb (qQ (bV (aI (fU T) T.x_under hr (ae (m5 T.g_NOUGHT rfl) (ae (af 1) ag)))) (qu (bV (aI (fU T) T.x_under hr (ae (af 1) (ae (av (av (av (af 2) ah (λ_ _=>rfl)) (af 0) (λ_ _=>rfl)) ah (λ_ _=>rfl)) ag))))))))) (λ_ _ _ _=>(af 0))))))
  vk
theorem bS:aC lg ["ring","some"] (au cY):=⟨rfl,rfl,rfl,y_,rfl,y_,y_⟩
theorem cL(T:Tx K mg ad fd):FnOk P w K mg base CX0 3 (ad 16) (fd 16) ["ring","some"] (spF K 2 aW) :=
 bf (k:=2) T.x_first_side_by_side.f bS cZ (λcdv A outer s H E hr=>(ai (c8 Uo rfl (gN rfl T.z_enumerate (af 1)) (jq rfl (aU (i:=2) bS.nd rfl v4 (aU (i:=3) bS.nd rfl v4 fz))) (aq (c8 Uo rfl (fY (q8 (af 1) (az bR (af 2) ah) trivial)) (fw (i:=4) bS.nd rfl v4) (aq (cN (gI (bV (aI (zo T) T.x_do_cross hr (ae (af 0) (ae (af 3) (ae (af 4) ag)))))) (aq (aE (bW (ae (af 3) (ae (af 4) ag))))) aX)))))
  (aq (aE qP))))
  jC
theorem El:aC GE ["thing"] (au va):=⟨rfl,rfl,rfl,y_,rfl,y_,y_⟩
theorem sL(T:Tx K mg ad fd):FnOk P w K mg base CX0 1 (ad 17) (fd 17) ["thing"] (spF K 1 ke) :=
 bf (k:=0) T.x_is_way.f El vm (λcdv A outer s H E hr=>(aq (aE (jo (pQ II rfl T.z_isinstance rfl T.z_str y_ (af 0)) (nr (iw IE (af 0) (bW (ae (m5 T.g_ON rfl) (ae (m5 T.g_BACK rfl) ag))) rfl))))))
  Bw
theorem xO:aC yU ["way"] (au mv):=⟨rfl,rfl,rfl,y_,rfl,y_,y_⟩
theorem xP(T:Tx K mg ad fd):FnOk P w K mg base CX0 1 (ad 18) (fd 18) ["way"] (spF K 1 kf) :=
 bf (k:=0) T.x_other_way.f xO mM (λcdv A outer s H E hr=>(aq (aE (nu (P8 (iP hr.units) (af 0) (m5 T.g_ON rfl) (a8 _)) (m5 T.g_BACK rfl) (m5 T.g_ON rfl)))))
  vn
theorem k8:aC rN ["ring","k","way"] (au jX):=⟨rfl,rfl,rfl,y_,rfl,y_,y_⟩
theorem uA(T:Tx K mg ad fd):FnOk P w K mg base CX0 1 (ad 19) (fd 19) ["ring","k","way"] (spF K 3 k7) :=
 bf (k:=0) T.x_ties_of.f k8 se (λcdv A outer s H E hr=>(ai (aA (i:=3) k8.nd rfl v4 (ay (a7 fZ rfl T.z_len y_ (ae (av (af 0) ah (λ_ _=>rfl)) ag))))
  (ai (aA (i:=4) k8.nd rfl v4 (av (av (av (af 0) ah (λ_ _=>rfl)) (af 1) (λ_ _=>rfl)) ah (λ_ _=>rfl)))
  (ai (aA (i:=5) k8.nd rfl v4 (av (av (av (af 0) ah (λ_ _=>rfl)) (af 1) (λ_ _=>rfl)) ah (λ_ _=>rfl)))
  (ai (cN (P8 (iP hr.units) (af 2) (m5 T.g_ON rfl) (a8 _)) (aq (aE (mj (sc:=(au jX)) (N:=rN) (Nt:=["step"]) (Nf:=["one","places"]) (fi:=[4,3]) rfl rfl rfl (gJ rfl T.z_range (az de (az gK (af 5) (af 4)) (af 3))) rfl y_ y_ y_ x_ rfl y_ x_ (λ_ _ _ _=>(oQ x_ (show((["step"]:List Str)++(["one","places"]:List Str)).Nodup by decide +kernel) rfl (Or.inl rfl))) (λ_ _ _ _=>jS) (λ_ _ _ _=>(az de (az bR (af 1) (af 0)) (af 2)))))) aX)
  (aq (aE (mj (sc:=(au jX)) (N:=rN) (Nt:=["step"]) (Nf:=["one","places"]) (fi:=[4,3]) rfl rfl rfl (gJ rfl T.z_range (az de (az gK (af 4) (af 5)) (af 3))) rfl y_ y_ y_ x_ rfl y_ x_ (λ_ _ _ _=>(oQ x_ (show((["step"]:List Str)++(["one","places"]:List Str)).Nodup by decide +kernel) rfl (Or.inl rfl))) (λ_ _ _ _=>jS) (λ_ _ _ _=>(az de (az gK (az gK (af 1) ah) (af 0)) (af 2)))))))))))
  zd
theorem zp:aC uv ["ring","thing"] (au kY):=⟨rfl,rfl,rfl,y_,rfl,y_,y_⟩
theorem zr(T:Tx K mg ad fd):FnOk P w K mg base CX0 2 (ad 20) (fd 20) ["ring","thing"] (spF K 2 iZ) :=
 bf (k:=1) T.x_are_ways.f zp pq (λcdv A outer s H E hr=>(ai (cN (P6.pb (qR (gI (bV (pQ zH rfl T.z_isinstance rfl T.z_list y_ (af 1)))) (oK (P8 (wm hr.units) (a7 fZ rfl T.z_len y_ (ae (af 1) ag)) (a7 fZ rfl T.z_len y_ (ae (av (af 0) ah (λ_ _=>rfl)) ag)) (a8 _))))) (aq (aE jA)) aX)
  (aq (aE (a7 (Ll rfl) rfl T.z_all y_ (ae (ay (mj (sc:=(au kY)) (N:=uv) (Nt:=["way"]) (Nf:=[]) (fi:=[]) rfl rfl rfl (fY (af 1)) rfl y_ y_ y_ x_ rfl y_ x_ (λ_ _ _ _=>(oQ x_ (show((["way"]:List Str)++([]:List Str)).Nodup by decide +kernel) rfl (Or.inl rfl))) (λ_ _ _ _=>jS) (λ_ _ _ _=>(aI (sL T) T.x_is_way hr (ae (af 0) ag))))) ag))))))
  xB
theorem t4:aC vb ["part","way","amount"] (au iT):=⟨rfl,rfl,rfl,y_,rfl,y_,y_⟩
theorem l7(T:Tx K mg ad fd):FnOk P w K mg base CX0 4 (ad 21) (fd 21) ["part","way","amount"] (spF K 3 eS) :=
 bf (k:=3) T.x_part_behind.f t4 i3 (λcdv A outer s H E hr=>(aq (aE (nu (P8 (iP hr.units) (af 1) (m5 T.g_ON rfl) (a8 _)) (aI (vE T) T.x_plus hr (ae (af 0) (ae (af 2) ag))) (aI (oA T) T.x_minus hr (ae (af 0) (ae (af 2) ag)))))))
  sf
theorem pZ:aC yV ["sending","slide"] (au mw):=⟨rfl,rfl,rfl,y_,rfl,y_,y_⟩
theorem p5(T:Tx K mg ad fd):FnOk P w K mg base CX0 5 (ad 22) (fd 22) ["sending","slide"] (spF K 2 gT) :=
 bf (k:=4) T.x_slid_once.f pZ mN (λcdv A outer s H E hr=>(ai (aA (i:=2) pZ.nd rfl v4 (fh yk rfl T.z_list y_ (ae (af 0) ag)))
  (ai (jR 2 (av (af 1) ah (λ_ _=>rfl)) (aI (l7 T) T.x_part_behind hr (ae (gM (iz 2 (av (af 1) ah (λ_ _=>rfl)) (λ_ _=>rfl)) (av (af 2) (av (af 1) ah (λ_ _=>rfl)) (λ_ _=>rfl))) (ae (av (af 1) ah (λ_ _=>rfl)) (ae (av (af 1) ah (λ_ _=>rfl)) ag)))))
  (ai (jR 2 (av (af 1) ah (λ_ _=>rfl)) (aI (l7 T) T.x_part_behind hr (ae (gM (iz 2 (av (af 1) ah (λ_ _=>rfl)) (λ_ _=>rfl)) (av (af 2) (av (af 1) ah (λ_ _=>rfl)) (λ_ _=>rfl))) (ae (av (af 1) ah (λ_ _=>rfl)) (ae (av (af 1) ah (λ_ _=>rfl)) ag)))))
  (aq (aE (dH 2)))))))
  vo
theorem kN:aC lD ["ring","k","way","l","other"] (au eO):=⟨rfl,rfl,rfl,y_,rfl,y_,y_⟩
theorem kO(T:Tx K mg ad fd):FnOk P w K mg base CX0 2 (ad 23) (fd 23) ["ring","k","way","l","other"] (spF K 5 dR) :=
 bf (k:=1) T.x_share_no_tie.f kN hW (λcdv A outer s H E hr=>(ai (aA (i:=5) kN.nd rfl v4 (ay (aI (uA T) T.x_ties_of hr (ae (af 0) (ae (af 3) (ae (af 4) ag))))))
  (aq (aE (Cc (a7 (Ln rfl) rfl T.z_any y_ (ae (ay (mj (sc:=(au eO)) (N:=lD) (Nt:=["tie"]) (Nf:=["taken"]) (fi:=[5]) rfl rfl rfl (fY (aI (uA T) T.x_ties_of hr (ae (af 0) (ae (af 1) (ae (af 2) ag))))) rfl y_ y_ y_ x_ rfl y_ x_ (λ_ _ _ _=>(oQ x_ (show((["tie"]:List Str)++(["taken"]:List Str)).Nodup by decide +kernel) rfl (Or.inl rfl))) (λ_ _ _ _=>jS) (λ_ _ _ _=>(iw IE (af 0) (af 1) rfl)))) ag)))))))
  qo
theorem lu:aC mx ["thing","asks"] (au dA):=⟨rfl,rfl,rfl,y_,rfl,y_,y_⟩
theorem lx(T:Tx K mg ad fd):FnOk P w K mg base CX0 4 (ad 24) (fd 24) ["thing","asks"] (spF K 2 c7) :=
 bf (k:=3) T.x_has_form_of_slide.f lu dB (λcdv A outer s H E hr=>(ai (cN (P6.pb (qR (gI (bV (pQ qV rfl T.z_isinstance rfl T.z_tuple y_ (af 0)))) (oK (P8 (wm hr.units) (a7 fZ rfl T.z_len y_ (ae (af 0) ag)) ah (a8 _))))) (aq (aE jA)) aX)
  (ai (cN (P6.pb (qR (gI (bV (aI (g6 T) T.x_is_number_below hr (ae (av (af 0) ah (λ_ _=>rfl)) (ae (af 1) ag))))) (oK (gI (bV (aI (g6 T) T.x_is_number_below hr (ae (av (af 0) ah (λ_ _=>rfl)) (ae (af 1) ag)))))))) (aq (aE jA)) aX)
  (aq (aE (jo (aI (sL T) T.x_is_way hr (ae (av (af 0) ah (λ_ _=>rfl)) ag)) (jo (aI (sL T) T.x_is_way hr (ae (av (af 0) ah (λ_ _=>rfl)) ag)) (nr (aI (zm T) T.x_is_ratio hr (ae (av (af 0) ah (λ_ _=>rfl)) ag))))))))))
  kg
theorem zu:aC Br ["ring","sending","k","way"] (au o8):=⟨rfl,rfl,rfl,y_,rfl,y_,y_⟩
theorem sM(T:Tx K mg ad fd):FnOk P w K mg base CX0 4 (ad 25) (fd 25) ["ring","sending","k","way"] (spF K 4 i4) :=
 bf (k:=3) T.x_not_sent.f zu pA (λcdv A outer s H E hr=>(aq (aE (nu (P8 (iP hr.units) (af 3) (m5 T.g_ON rfl) (a8 _)) (aI (oA T) T.x_minus hr (ae (av (av (av (af 0) ah (λ_ _=>rfl)) (af 2) (λ_ _=>rfl)) ah (λ_ _=>rfl)) (ae (av (af 1) (af 2) (λ_ _=>rfl)) ag))) (av (af 1) (af 2) (λ_ _=>rfl))))))
  xC
theorem xQ:aC yW ["ring","sending","slide"] (au my):=⟨rfl,rfl,rfl,y_,rfl,y_,y_⟩
theorem p6(T:Tx K mg ad fd):FnOk P w K mg base CX0 5 (ad 26) (fd 26) ["ring","sending","slide"] (spF K 3 gU) :=
 bf (k:=4) T.x_most_slid.f xQ mO (λcdv A outer s H E hr=>(aq (aE (aI (Ek T) T.x_lesser hr (ae (ay (aI (sM T) T.x_not_sent hr (ae (af 0) (ae (af 1) (ae (av (af 2) ah (λ_ _=>rfl)) (ae (av (af 2) ah (λ_ _=>rfl)) ag)))))) (ae (ay (aI (sM T) T.x_not_sent hr (ae (af 0) (ae (af 1) (ae (av (af 2) ah (λ_ _=>rfl)) (ae (av (af 2) ah (λ_ _=>rfl)) ag)))))) ag))))))
  vp
theorem zv:aC Bs ["ring","sending","thing"] (au o9):=⟨rfl,rfl,rfl,y_,rfl,y_,y_⟩
theorem zw(T:Tx K mg ad fd):FnOk P w K mg base CX0 6 (ad 27) (fd 27) ["ring","sending","thing"] (spF K 3 mP) :=
 bf (k:=5) T.x_is_slide.f zv pB (λcdv A outer s H E hr=>by exact(@ai _ _ _ _ _ (@cN _ _ _ _ _ _ _ _ (P6.pb (qR (gI (bV (aI (lx T) T.x_has_form_of_slide hr (@ae _ _ _ _ _ _ (af 2) (@ae _ _ _ _ _ _ (@ay _ _ _ (a7 fZ rfl T.z_len y_ (@ae _ _ _ _ _ _ (@av _ _ _ _ _ _ (af 0) ah (λ_ _=>rfl)) ag z_))) ag z_) z_)))) (oK (P8 (iP hr.units) (@av _ _ _ _ _ _ (af 2) ah (λ_ _=>rfl)) (@av _ _ _ _ _ _ (af 2) ah (λ_ _=>rfl)) (a8 _))))) (@aq _ _ _ (@aE _ _ _ _ jA)) aX) (@ai _ _ _ _ _ (@cN _ _ _ _ _ _ _ _ (gI (bV (aI (kO T) T.x_share_no_tie hr (@ae _ _ _ _ _ _ (af 0) (@ae _ _ _ _ _ _ (@av _ _ _ _ _ _ (af 2) ah (λ_ _=>rfl)) (@ae _ _ _ _ _ _ (@av _ _ _ _ _ _ (af 2) ah (λ_ _=>rfl)) (@ae _ _ _ _ _ _ (@av _ _ _ _ _ _ (af 2) ah (λ_ _=>rfl)) (@ae _ _ _ _ _ _ (@av _ _ _ _ _ _ (af 2) ah (λ_ _=>rfl)) ag z_) z_) z_) z_) z_)))) (@aq _ _ _ (@aE _ _ _ _ jA)) aX) (@aq _ _ _ (@aE _ _ _ _ (jo (aI (fU T) T.x_under hr (@ae _ _ _ _ _ _ (m5 T.g_NOUGHT rfl) (@ae _ _ _ _ _ _ (@av _ _ _ _ _ _ (af 2) ah (λ_ _=>rfl)) ag z_) z_)) (nr (Cc (aI (fU T) T.x_under hr (@ae _ _ _ _ _ _ (@ay _ _ _ (aI (p6 T) T.x_most_slid hr (@ae _ _ _ _ _ _ (af 0) (@ae _ _ _ _ _ _ (af 1) (@ae _ _ _ _ _ _ (af 2) ag z_) z_) z_))) (@ae _ _ _ _ _ _ (@av _ _ _ _ _ _ (af 2) ah (λ_ _=>rfl)) ag z_) z_))))))))))
  xD
theorem iJ:aC DN ["ring","sending","thing"] (au rO):=⟨rfl,rfl,rfl,y_,rfl,y_,y_⟩
theorem iK(T:Tx K mg ad fd):FnOk P w K mg base (QG P w) 7 (ad 28) (fd 28) ["ring","sending","thing"] (QK K 3 cP) :=
 Ly (k:=6) T.x_slid_by.f iJ (λxp=>sj xp) (λcdv A outer s H E xp hr hE=>(ai (cN (gI (bV (pQ zH rfl T.z_isinstance rfl T.z_list y_ (af 2)))) (aq (wM T.c_NoSlide (uz T) hr (CN hE) (ae qP ag))) aX)
  (ai (aA (i:=3) iJ.nd rfl v4 (fh yk rfl T.z_list y_ (ae (af 1) ag)))
  (ai (c8 PassesOwn.leaving rfl (gN rfl T.z_enumerate (af 2)) (jq rfl (aU (i:=4) iJ.nd rfl v4 (aU (i:=5) iJ.nd rfl v4 fz))) (ai (cN (gI (bV (aI (zw T) T.x_is_slide hr (ae (af 0) (ae (af 3) (ae (af 5) ag)))))) (aq (wM T.c_NoSlide (uz T) hr (CN hE) (ae (af 4) ag))) aX)
  (aq (aA (i:=3) iJ.nd rfl v4 (aI (p5 T) T.x_slid_once hr (ae (af 3) (ae (af 5) ag)))))))
  (aq (aE (dH 3)))))))
  ze
theorem oB:aC xh ["ring","k","l"] (au jY):=⟨rfl,rfl,rfl,y_,rfl,y_,y_⟩
theorem vF(T:Tx K mg ad fd):FnOk P w K mg base CX0 3 (ad 29) (fd 29) ["ring","k","l"] (spF K 3 i5) :=
 bf (k:=2) T.x_ways_apart.f oB ki (λcdv A outer s H E hr=>by exact(@ai _ _ _ _ _ (c8 Uo rfl (fY (@bW _ _ _ _ _ _ (@ae _ _ _ _ _ _ (@bW _ _ _ _ _ _ (@ae _ _ _ _ _ _ (m5 T.g_ON rfl) (@ae _ _ _ _ _ _ (m5 T.g_ON rfl) ag z_) z_)) (@ae _ _ _ _ _ _ (@bW _ _ _ _ _ _ (@ae _ _ _ _ _ _ (m5 T.g_ON rfl) (@ae _ _ _ _ _ _ (m5 T.g_BACK rfl) ag z_) z_)) (@ae _ _ _ _ _ _ (@bW _ _ _ _ _ _ (@ae _ _ _ _ _ _ (m5 T.g_BACK rfl) (@ae _ _ _ _ _ _ (m5 T.g_ON rfl) ag z_) z_)) ag z_) z_) z_))) (fw (i:=3) oB.nd rfl v4) (@aq _ _ _ (@cN _ _ _ _ _ _ _ _ (bV (aI (kO T) T.x_share_no_tie hr (@ae _ _ _ _ _ _ (af 0) (@ae _ _ _ _ _ _ (af 1) (@ae _ _ _ _ _ _ (@av _ _ _ _ _ _ (af 3) ah (λ_ _=>rfl)) (@ae _ _ _ _ _ _ (af 2) (@ae _ _ _ _ _ _ (@av _ _ _ _ _ _ (af 3) ah (λ_ _=>rfl)) ag z_) z_) z_) z_) z_))) (@aq _ _ _ (@aE _ _ _ _ (dH 3))) aX))) (@aq _ _ _ (@aE _ _ _ _ (@bW _ _ _ _ _ _ (@ae _ _ _ _ _ _ (m5 T.g_BACK rfl) (@ae _ _ _ _ _ _ (m5 T.g_BACK rfl) ag z_) z_))))))
  tM
theorem eK:aC qj ["ring","sending","k","l"] (au fB):=⟨rfl,rfl,rfl,y_,rfl,y_,y_⟩
theorem pH(T:Tx K mg ad fd):FnOk P w K mg base CX0 6 (ad 30) (fd 30) ["ring","sending","k","l"] (spF K 4 eG) :=
 bf (k:=5) T.x_greatest_slide.f eK fF (λcdv A outer s H E hr=>(ai (aA (i:=4) eK.nd rfl v4 (ay (aI (vF T) T.x_ways_apart hr (ae (af 0) (ae (af 2) (ae (af 3) ag))))))
  (ai (aA (i:=5) eK.nd rfl v4 (bW (ae (af 2) (ae (av (af 4) ah (λ_ _=>rfl)) (ae (af 3) (ae (av (af 4) ah (λ_ _=>rfl)) ag))))))
  (aq (aE (az IY (af 5) (bW (ae (ay (aI (p6 T) T.x_most_slid hr (ae (af 0) (ae (af 1) (ae (af 5) ag))))) ag))))))))
  nX
theorem cb:aC xi ["ring","sending"] (au jZ):=⟨rfl,rfl,rfl,y_,rfl,y_,y_⟩
theorem oC(T:Tx K mg ad fd):FnOk P w K mg base CX0 7 (ad 31) (fd 31) ["ring","sending"] (spF K 2 fR) :=
 bf (k:=6) T.x_slides_for.f cb kj (λcdv A outer s H E hr=>by exact(@ai _ _ _ _ _ (@aA _ _ _ 2 _ _ _ cb.nd rfl v4 (af 1) z_ (by first | exact .inl rfl | exact .inr rfl)) (@ai _ _ _ _ _ (@aA _ _ _ 3 _ _ _ cb.nd rfl v4 (@cu _ _ _ _ _ ag) z_ (by first | exact .inl rfl | exact .inr rfl)) (@ai _ _ _ _ _ (@aA _ _ _ 4 _ _ _ cb.nd rfl v4 (@ay _ _ _ (aI (cL T) T.x_first_side_by_side hr (@ae _ _ _ _ _ _ (af 0) (@ae _ _ _ _ _ _ (@ay _ _ _ (aI (g7 T) T.x_parted_in hr (@ae _ _ _ _ _ _ (af 0) (@ae _ _ _ _ _ _ (af 2) ag z_) z_))) ag z_) z_))) z_ (by first | exact .inl rfl | exact .inr rfl)) (@ai _ _ _ _ _ (nC Uo (P8 uK (af 4) qP (a8 _)) (@ai _ _ _ _ _ (@aA _ _ _ 5 _ _ _ cb.nd rfl v4 (@ay _ _ _ (aI (pH T) T.x_greatest_slide hr (@ae _ _ _ _ _ _ (af 0) (@ae _ _ _ _ _ _ (af 2) (@ae _ _ _ _ _ _ (@av _ _ _ _ _ _ (af 4) ah (λ_ _=>rfl)) (@ae _ _ _ _ _ _ (@av _ _ _ _ _ _ (af 4) ah (λ_ _=>rfl)) ag z_) z_) z_) z_))) z_ (by first | exact .inl rfl | exact .inr rfl)) (@ai _ _ _ _ _ (jM (fk 3 (af 5))) (@ai _ _ _ _ _ (@aA _ _ _ 2 _ _ _ cb.nd rfl v4 (@ay _ _ _ (aI (p5 T) T.x_slid_once hr (@ae _ _ _ _ _ _ (af 2) (@ae _ _ _ _ _ _ (af 5) ag z_) z_))) z_ (by first | exact .inl rfl | exact .inr rfl)) (@aq _ _ _ (@aA _ _ _ 4 _ _ _ cb.nd rfl v4 (@ay _ _ _ (aI (cL T) T.x_first_side_by_side hr (@ae _ _ _ _ _ _ (af 0) (@ae _ _ _ _ _ _ (@ay _ _ _ (aI (g7 T) T.x_parted_in hr (@ae _ _ _ _ _ _ (af 0) (@ae _ _ _ _ _ _ (af 2) ag z_) z_))) ag z_) z_))) z_ (by first | exact .inl rfl | exact .inr rfl))))))) (@aq _ _ _ (@aE _ _ _ _ (dH 3))))))))
  tN
theorem t5:aC vc ["ask","part"] (au iU):=⟨rfl,rfl,rfl,y_,rfl,y_,y_⟩
theorem l8(T:Tx K mg ad fd):FnOk P w K mg base CX0 1 (ad 32) (fd 32) ["ask","part"] (spF K 2 eT) :=
 bf (k:=0) T.x_nearest_way.f t5 i6 (λcdv A outer s H E hr=>(aq (aE (nu (P8 (iP hr.units) (af 1) (av (af 0) ah (λ_ _=>rfl)) (a8 _)) (m5 T.g_ON rfl) (m5 T.g_BACK rfl)))))
  sq
theorem dE:aC nS ["ring","slid","parted","ways"] (au dN):=⟨rfl,rfl,rfl,y_,rfl,y_,y_⟩
theorem mZ(T:Tx K mg ad fd):FnOk P w K mg base CX0 2 (ad 33) (fd 33) ["ring","slid","parted","ways"] (spF K 4 dC) :=
 bf (k:=1) T.x_keeps_whole_asks.f dE dS (λcdv A outer s H E hr=>(ai (c8 Uo rfl (gN rfl T.z_enumerate (av (af 0) ah (λ_ _=>rfl))) (jq rfl (aU (i:=4) dE.nd rfl v4 (aU (i:=5) dE.nd rfl v4 fz))) (aq (cN (P6.pb (qQ (P8 Fi (af 4) (af 2) rfl) (qQ (P8 (wm hr.units) (av (af 5) ah (λ_ _=>rfl)) (m5 T.g_NOUGHT rfl) (a8 _)) (qu (P8 (wm hr.units) (av (af 3) (af 4) (λ_ _=>rfl)) (aI (l8 T) T.x_nearest_way hr (ae (af 5) (ae (av (af 1) (af 4) (λ_ _=>rfl)) ag))) (a8 _)))))) (aq (aE jA)) aX)))
  (aq (aE jA))))
  lj
theorem cf:aC nT ["ring","some"] (au dO):=⟨rfl,rfl,rfl,y_,rfl,y_,y_⟩
theorem gE(T:Tx K mg ad fd):FnOk P w K mg base CX0 4 (ad 34) (fd 34) ["ring","some"] (spF K 2 b8) :=
 bf (k:=3) T.x_half_of_greatest.f cf dU (λcdv A outer s H E hr=>(ai (aA (i:=2) cf.nd rfl v4 (m5 T.g_NOUGHT rfl))
  (ai (c8 Uo rfl (fY (af 1)) (fw (i:=3) cf.nd rfl v4) (aq (aA (i:=2) cf.nd rfl v4 (ay (aI (Bz T) T.x_greater hr (ae (af 2) (ae (av (av (av (af 0) ah (λ_ _=>rfl)) (af 3) (λ_ _=>rfl)) ah (λ_ _=>rfl)) ag)))))))
  (aq (aE (aI (GU T) T.x_times hr (ae (af 2) (ae (m5 T.g_HALF rfl) ag))))))))
  ll
theorem jD(T:Tx K mg ad fd):Jl P w K mg base 2 "by_lesser_place" cq:=LH (k:=1) (p:="k") (y:="ring") (T.l_by_lesser_place.lam.trans rfl) (Np rfl rfl rfl rfl rfl rfl λ_ _ _ _ _ _=>rfl) cJ (λA outer s H f c c' hr=>(aI (gC T) T.x_lesser_place hr (ae (af 1) (ae (af 0) ag)))) i7
theorem oE:aC pd ["ring","some"] (au cO):=⟨rfl,rfl,rfl,y_,rfl,y_,y_⟩
theorem g8(T:Tx K mg ad fd):FnOk P w K mg base CX0 5 (ad 35) (fd 35) ["ring","some"] (spF K 2 cz) :=
 LN (k:=4) T.x_by_lesser_place.f oE eH (λcdv A outer s H E hcv hr=>(aq (aE (FM (jD T) hr 0 (LM T.l_by_lesser_place hcv rfl x_ rfl rfl rfl rfl rfl rfl) (af 1) T.z_sorted))))
  mR
theorem vG:aC xj ["ring","k"] (au j3):=⟨rfl,rfl,rfl,y_,rfl,y_,y_⟩
theorem jk(T:Tx K mg ad fd):FnOk P w K mg base CX0 1 (ad 36) (fd 36) ["ring","k"] (spF K 2 dW) :=
 bf (k:=0) T.x_rising_way.f vG km (λcdv A outer s H E hr=>(aq (aE (nu (P8 oO (av (av (av (af 0) ah (λ_ _=>rfl)) (af 1) (λ_ _=>rfl)) ah (λ_ _=>rfl)) (av (av (av (af 0) ah (λ_ _=>rfl)) (af 1) (λ_ _=>rfl)) ah (λ_ _=>rfl)) (a8 _)) (m5 T.g_ON rfl) (m5 T.g_BACK rfl)))))
  tO
theorem pJ:aC DO ["ring","sending","k","way"] (au rP):=⟨rfl,rfl,rfl,y_,rfl,y_,y_⟩
theorem pK(T:Tx K mg ad fd):FnOk P w K mg base CX0 4 (ad 37) (fd 37) ["ring","sending","k","way"] (spF K 4 fX) :=
 bf (k:=3) T.x_gain_of.f pJ su (λcdv A outer s H E hr=>(ai (aA (i:=4) pJ.nd rfl v4 (av (av (av (af 0) ah (λ_ _=>rfl)) (af 2) (λ_ _=>rfl)) ah (λ_ _=>rfl)))
  (ai (aA (i:=5) pJ.nd rfl v4 (ay (nu (P8 (iP hr.units) (aI (jk T) T.x_rising_way hr (ae (af 0) (ae (af 2) ag))) (m5 T.g_ON rfl) (a8 _)) (av (af 1) (af 2) (λ_ _=>rfl)) (aI (oA T) T.x_minus hr (ae (af 4) (ae (av (af 1) (af 2) (λ_ _=>rfl)) ag))))))
  (aq (aE (aI (oA T) T.x_minus hr (ae (nu (P8 (iP hr.units) (af 3) (aI (jk T) T.x_rising_way hr (ae (af 0) (ae (af 2) ag))) (a8 _)) (af 4) (m5 T.g_NOUGHT rfl)) (ae (af 5) ag))))))))
  zh
theorem cM:aC tK ["ring","slid","parted","ways"] (au hJ):=⟨rfl,rfl,rfl,y_,rfl,y_,y_⟩
theorem sN(T:Tx K mg ad fd):FnOk P w K mg base CX0 6 (ad 38) (fd 38) ["ring","slid","parted","ways"] (spF K 4 gy) :=
 bf (k:=5) T.x_keeps_within.f cM ia (λcdv A outer s H E hr=>by exact(@ai _ _ _ _ _ (@aA _ _ _ 4 _ _ _ cM.nd rfl v4 (@ay _ _ _ (aI (gE T) T.x_half_of_greatest hr (@ae _ _ _ _ _ _ (af 0) (@ae _ _ _ _ _ _ (af 2) ag z_) z_))) z_ (by first | exact .inl rfl | exact .inr rfl)) (@ai _ _ _ _ _ (@aA _ _ _ 5 _ _ _ cM.nd rfl v4 (m5 T.g_NOUGHT rfl) z_ (by first | exact .inl rfl | exact .inr rfl)) (@ai _ _ _ _ _ (c8 Uo rfl (fY (aI (g8 T) T.x_by_lesser_place hr (@ae _ _ _ _ _ _ (af 0) (@ae _ _ _ _ _ _ (af 2) ag z_) z_))) (fw (i:=6) cM.nd rfl v4) (@ai _ _ _ _ _ (@aA _ _ _ 5 _ _ _ cM.nd rfl v4 (@ay _ _ _ (aI (vE T) T.x_plus hr (@ae _ _ _ _ _ _ (af 5) (@ae _ _ _ _ _ _ (@ay _ _ _ (aI (pK T) T.x_gain_of hr (@ae _ _ _ _ _ _ (af 0) (@ae _ _ _ _ _ _ (af 1) (@ae _ _ _ _ _ _ (af 6) (@ae _ _ _ _ _ _ (@av _ _ _ _ _ _ (af 3) (af 6) (λ_ _=>rfl)) ag z_) z_) z_) z_))) ag z_) z_))) z_ (by first | exact .inl rfl | exact .inr rfl)) (@aq _ _ _ (@cN _ _ _ _ _ _ _ _ (P6.pb (qR (bV (aI (fU T) T.x_under hr (@ae _ _ _ _ _ _ (af 4) (@ae _ _ _ _ _ _ (af 5) ag z_) z_))) (oK (bV (aI (fU T) T.x_under hr (@ae _ _ _ _ _ _ (af 5) (@ae _ _ _ _ _ _ (@ay _ _ _ (aI (oA T) T.x_minus hr (@ae _ _ _ _ _ _ (m5 T.g_NOUGHT rfl) (@ae _ _ _ _ _ _ (af 4) ag z_) z_))) ag z_) z_)))))) (@aq _ _ _ (@aE _ _ _ _ jA)) aX)))) (@aq _ _ _ (@aE _ _ _ _ jA))))))
  qp
theorem fJ:aC rQ ["ring","sending","thing"] (au gp):=⟨rfl,rfl,rfl,y_,rfl,y_,y_⟩
theorem jy(T:Tx K mg ad fd):FnOk P w K mg base CX0 8 (ad 39) (fd 39) ["ring","sending","thing"] (spF K 3 bQ) :=
 bf (k:=7) T.x_lets_rounding.f fJ gz (λcdv A outer s H E hr=>by exact(@ai _ _ _ _ _ (@cN _ _ _ _ _ _ _ _ (P6.pb (qR (gI (bV (pQ qV rfl T.z_isinstance rfl T.z_tuple y_ (af 2)))) (qR (P8 (wm hr.units) (a7 fZ rfl T.z_len y_ (@ae _ _ _ _ _ _ (af 2) ag z_)) ah (a8 _)) (oK (gI (bV (aI (zr T) T.x_are_ways hr (@ae _ _ _ _ _ _ (af 0) (@ae _ _ _ _ _ _ (@av _ _ _ _ _ _ (af 2) ah (λ_ _=>rfl)) ag z_) z_)))))))) (@aq _ _ _ (@aE _ _ _ _ jA)) aX) (@ai _ _ _ _ _ (CS rfl rfl T.h_NoSlide rfl (λ_ _ xt=>(zZ (CQ (i:=3) fJ.nd rfl v4 (Jg (Ha (iK T) T.x_slid_by hr (@ae _ _ _ _ _ _ (af 0) (@ae _ _ _ _ _ _ (af 1) (@ae _ _ _ _ _ _ (@av _ _ _ _ _ _ (af 2) ah (λ_ _=>rfl)) ag z_) z_) z_)))))) (λ_=>(@aq _ _ _ (@aE _ _ _ _ jA)))) (@ai _ _ _ _ _ (@aA _ _ _ 4 _ _ _ fJ.nd rfl v4 (@ay _ _ _ (aI (g7 T) T.x_parted_in hr (@ae _ _ _ _ _ _ (af 0) (@ae _ _ _ _ _ _ (af 3) ag z_) z_))) z_ (by first | exact .inl rfl | exact .inr rfl)) (@ai _ _ _ _ _ (@cN _ _ _ _ _ _ _ _ (P8 uK (aI (cL T) T.x_first_side_by_side hr (@ae _ _ _ _ _ _ (af 0) (@ae _ _ _ _ _ _ (af 4) ag z_) z_)) qP (a8 _)) (@aq _ _ _ (@aE _ _ _ _ jA)) aX) (@aq _ _ _ (@aE _ _ _ _ (jo (aI (mZ T) T.x_keeps_whole_asks hr (@ae _ _ _ _ _ _ (af 0) (@ae _ _ _ _ _ _ (af 3) (@ae _ _ _ _ _ _ (af 4) (@ae _ _ _ _ _ _ (@av _ _ _ _ _ _ (af 2) ah (λ_ _=>rfl)) ag z_) z_) z_) z_)) (nr (aI (sN T) T.x_keeps_within hr (@ae _ _ _ _ _ _ (af 0) (@ae _ _ _ _ _ _ (af 3) (@ae _ _ _ _ _ _ (af 4) (@ae _ _ _ _ _ _ (@av _ _ _ _ _ _ (af 2) ah (λ_ _=>rfl)) ag z_) z_) z_) z_)))))))))))
  pC
theorem bM:aC lE ["ring","slid"] (au eQ):=⟨rfl,rfl,rfl,y_,rfl,y_,y_⟩
theorem sO(T:Tx K mg ad fd):FnOk P w K mg base CX0 6 (ad 40) (fd 40) ["ring","slid"] (spF K 2 gA) :=
 bf (k:=5) T.x_rounded_ways.f bM ib (λcdv A outer s H E hr=>by exact(@ai _ _ _ _ _ (@aA _ _ _ 2 _ _ _ bM.nd rfl v4 (@ay _ _ _ (aI (g7 T) T.x_parted_in hr (@ae _ _ _ _ _ _ (af 0) (@ae _ _ _ _ _ _ (af 1) ag z_) z_))) z_ (by first | exact .inl rfl | exact .inr rfl)) (@ai _ _ _ _ _ (Cp bM.nd (j:=3) rfl v4 (sc:=(au eQ)) (N:=lE) (Nt:=[ "ask" ,"part" ]) (Nf:=[]) (fi:=[]) rfl rfl rfl (Cz rfl T.z_zip (@av _ _ _ _ _ _ (af 0) ah (λ_ _=>rfl)) (af 1)) rfl y_ y_ y_ x_ rfl y_ x_ (λ_ _ _ _=>(CA rfl (kU (i:=0) x_ (show(([ "ask" ,"part" ]:List Str)++([]:List Str)).Nodup by decide +kernel) rfl (Or.inl rfl) (kU (i:=1) x_ (show(([ "ask" ,"part" ]:List Str)++([]:List Str)).Nodup by decide +kernel) rfl (Or.inl rfl) yr)))) (λ_ _ _ _=>jS) (λ_ _ _ _=>(aI (l8 T) T.x_nearest_way hr (@ae _ _ _ _ _ _ (af 0) (@ae _ _ _ _ _ _ (af 1) ag z_) z_)))) (@ai _ _ _ _ _ (@aA _ _ _ 4 _ _ _ bM.nd rfl v4 (@ay _ _ _ (aI (gE T) T.x_half_of_greatest hr (@ae _ _ _ _ _ _ (af 0) (@ae _ _ _ _ _ _ (af 2) ag z_) z_))) z_ (by first | exact .inl rfl | exact .inr rfl)) (@ai _ _ _ _ _ (@aA _ _ _ 5 _ _ _ bM.nd rfl v4 (m5 T.g_NOUGHT rfl) z_ (by first | exact .inl rfl | exact .inr rfl)) (@ai _ _ _ _ _ (c8 Uo rfl (fY (aI (g8 T) T.x_by_lesser_place hr (@ae _ _ _ _ _ _ (af 0) (@ae _ _ _ _ _ _ (af 2) ag z_) z_))) (fw (i:=6) bM.nd rfl v4) (@ai _ _ _ _ _ (jR 3 (af 6) (aI (jk T) T.x_rising_way hr (@ae _ _ _ _ _ _ (af 0) (@ae _ _ _ _ _ _ (af 6) ag z_) z_))) (@ai _ _ _ _ _ (@cN _ _ _ _ _ _ _ _ (bV (aI (fU T) T.x_under hr (@ae _ _ _ _ _ _ (af 4) (@ae _ _ _ _ _ _ (@ay _ _ _ (aI (vE T) T.x_plus hr (@ae _ _ _ _ _ _ (af 5) (@ae _ _ _ _ _ _ (@ay _ _ _ (aI (pK T) T.x_gain_of hr (@ae _ _ _ _ _ _ (af 0) (@ae _ _ _ _ _ _ (af 1) (@ae _ _ _ _ _ _ (af 6) (@ae _ _ _ _ _ _ (@gM _ _ _ _ _ (iz 3 (af 6) (λ_ _=>rfl)) (@av _ _ _ _ _ _ (af 3) (af 6) (λ_ _=>rfl))) ag z_) z_) z_) z_))) ag z_) z_))) ag z_) z_))) (@aq _ _ _ (jR 3 (af 6) (aI (xP T) T.x_other_way hr (@ae _ _ _ _ _ _ (@gM _ _ _ _ _ (iz 3 (af 6) (λ_ _=>rfl)) (@av _ _ _ _ _ _ (af 3) (af 6) (λ_ _=>rfl))) ag z_)))) aX) (@aq _ _ _ (@aA _ _ _ 5 _ _ _ bM.nd rfl v4 (@ay _ _ _ (aI (vE T) T.x_plus hr (@ae _ _ _ _ _ _ (af 5) (@ae _ _ _ _ _ _ (@ay _ _ _ (aI (pK T) T.x_gain_of hr (@ae _ _ _ _ _ _ (af 0) (@ae _ _ _ _ _ _ (af 1) (@ae _ _ _ _ _ _ (af 6) (@ae _ _ _ _ _ _ (@gM _ _ _ _ _ (iz 3 (af 6) (λ_ _=>rfl)) (@av _ _ _ _ _ _ (af 3) (af 6) (λ_ _=>rfl))) ag z_) z_) z_) z_))) ag z_) z_))) z_ (by first | exact .inl rfl | exact .inr rfl)))))) (@aq _ _ _ (@aE _ _ _ _ (dH 3)))))))))
  qq
theorem l9:aC vd ["ring","sending"] (au iV):=⟨rfl,rfl,rfl,y_,rfl,y_,y_⟩
theorem t6(T:Tx K mg ad fd):FnOk P w K mg base CX0 8 (ad 41) (fd 41) ["ring","sending"] (spF K 2 ic) :=
 bf (k:=7) T.x_rounding_of.f l9 i8 (λcdv A outer s H E hr=>(ai (aA (i:=2) l9.nd rfl v4 (aI (oC T) T.x_slides_for hr (ae (af 0) (ae (af 1) ag))))
  (aq (aE (Jp 2 (aZ 2 (ae (aI (sO T) T.x_rounded_ways hr (ae (af 0) (ae (ay (IU 2 (CU (iK T) T.x_slid_by hr CT (ae (af 0) (ae (af 1) (ae (af 2) ag)))))) ag))) ag)))))))
  sy
theorem jm:aC xk ["_law_script","_law_k"] (au j4):=⟨rfl,rfl,rfl,y_,rfl,y_,y_⟩
theorem dY(T:Tx K mg ad fd):FnOk P w K mg base CX0 1 (ad 42) (fd 42) ["_law_script","_law_k"] (spF K 2 b9) :=
 bf (k:=0) T.x__law_begun.f jm kq (λcdv A outer s H E hr=>(ai (aA (i:=2) jm.nd rfl v4 ah)
  (ai (cN (P8 oO (af 1) (a7 fZ rfl T.z_len y_ (ae (af 0) ag)) (a8 _)) (aq (aA (i:=2) jm.nd rfl v4 (av (af 0) (af 1) (λ_ _=>rfl)))) aX)
  (aq (aE (cu (ae (af 2) (ae (az de (az bR (az bR (az de (af 2) ah) (az a9 (az a9 ah (af 1)) (af 1))) ah) ah) (ae (iw K4 (af 2) (az Ci ah ah) (a8 _)) ag)))))))))
  tP
theorem fv:aC yX ["_law_state","_law_many"] (au mz):=⟨rfl,rfl,rfl,y_,rfl,y_,y_⟩
theorem aL(T:Tx K mg ad fd):FnOk P w K mg base CX0 1 (ad 43) (fd 43) ["_law_state","_law_many"] (spF K 2 aJ) :=
 bf (k:=0) T.x__law_take.f fv mS (λcdv A outer s H E hr=>(ai (cN (bV (gM (iz 0 ah (λ_ _=>rfl)) (av (af 0) ah (λ_ _=>rfl)))) (ai (aA (i:=2) fv.nd rfl v4 (az de (gM (iz 0 ah (λ_ _=>rfl)) (av (af 0) ah (λ_ _=>rfl))) (af 1)))
  (ai (jR 0 ah (az qU (gM (iz 0 ah (λ_ _=>rfl)) (av (af 0) ah (λ_ _=>rfl))) (af 1)))
  (ai (jR 0 ah (iw Ff (gM (iz 0 ah (λ_ _=>rfl)) (av (af 0) ah (λ_ _=>rfl))) ah (a8 _)))
  (aq (aE (dH 2)))))) aX)
  (ai (aA (i:=3) fv.nd rfl v4 ah)
  (ai (c8 Uo rfl (gJ rfl T.z_range (az bR ah (az a9 ah (fh wq rfl T.z_int y_ (ae (iw Ff (af 1) (az Ci ah ah) (a8 _)) ag))))) (fw (i:=4) fv.nd rfl v4) (ai (jR 0 ah (az de (az bR (az a9 (gM (iz 0 ah (λ_ _=>rfl)) (av (af 0) ah (λ_ _=>rfl))) ah) ah) ah))
  (aq (aA (i:=3) fv.nd rfl v4 (ay (az bR (az a9 (af 3) ah) (az de (az a9 (gM (iz 0 ah (λ_ _=>rfl)) (av (af 0) ah (λ_ _=>rfl))) (gM (iz 0 ah (λ_ _=>rfl)) (av (af 0) ah (λ_ _=>rfl)))) ah)))))))
  (aq (aE (az de (az qU (af 3) ah) (af 1))))))))
  vt
theorem dZ:aC j5 ["_law_state","_law_many"] (au ft):=⟨rfl,rfl,rfl,y_,rfl,y_,y_⟩
theorem vH(T:Tx K mg ad fd):FnOk P w K mg base CX0 2 (ad 44) (fd 44) ["_law_state","_law_many"] (spF K 2 ja) :=
 bf (k:=1) T.x__law_names.f dZ kr (λcdv A outer s H E hr=>(ai (aA (i:=2) dZ.nd rfl v4 gH)
  (ai (aA (i:=3) dZ.nd rfl v4 (ay (IP (mj (sc:=(au ft)) (N:=j5) (Nt:=["_law_k"]) (Nf:=["_law_letters","_law_state"]) (fi:=[2,0]) rfl rfl rfl (gJ rfl T.z_range (az bR ah (bK (aL T) T.x__law_take hr 0 0 (aZ 0 (ae ah ag))))) rfl y_ y_ y_ x_ rfl y_ x_ (λ_ _ _ _=>(oQ x_ (show((["_law_k"]:List Str)++(["_law_letters","_law_state"]:List Str)).Nodup by decide +kernel) rfl (Or.inl rfl))) (λ_ _ _ _=>jS) (λ_ _ _ _=>(av (af 1) (bK (aL T) T.x__law_take hr 0 2 (aZ 2 (ae ah ag))) (λ_ _=>rfl)))))))
  (ai (aA (i:=4) dZ.nd rfl v4 (ay (bK (aL T) T.x__law_take hr 0 0 (aZ 0 (ae (ay (a7 fZ rfl T.z_len y_ (ae (af 3) ag))) ag)))))
  (ai (aA (i:=5) dZ.nd rfl v4 (ay (bK (aL T) T.x__law_take hr 0 0 (aZ 0 (ae ah ag)))))
  (aq (aE (mj (sc:=(au ft)) (N:=j5) (Nt:=["_law_k"]) (Nf:=["_law_base","_law_at","_law_letters","_law_turn"]) (fi:=[3,4,2,5]) rfl rfl rfl (gJ rfl T.z_range (af 1)) rfl y_ y_ y_ x_ rfl y_ x_ (λ_ _ _ _=>(oQ x_ (show((["_law_k"]:List Str)++(["_law_base","_law_at","_law_letters","_law_turn"]:List Str)).Nodup by decide +kernel) rfl (Or.inl rfl))) (λ_ _ _ _=>jS) (λ_ _ _ _=>(az bR (az bR (q8 (af 1) trivial (af 2)) (av (af 3) (az de (az bR (af 4) (af 0)) ah) (λ_ _=>rfl))) (q8 (af 1) (az bR (af 2) ah) trivial)))))))))))
  tQ
theorem gF:aC Bt ["_law_top","_law_bottom"] (au pf):=⟨rfl,rfl,rfl,y_,rfl,y_,y_⟩
theorem eL(T:Tx K mg ad fd):FnOk P w K mg base CX0 1 (ad 45) (fd 45) ["_law_top","_law_bottom"] (spF K 2 cK) :=
 bf (k:=0) T.x__law_low.f gF pD (λcdv A outer s H E hr=>(ai (aA (i:=2) gF.nd rfl v4 (ay (a7 Cj rfl T.z_abs y_ (ae (af 0) ag))))
  (ai (aA (i:=3) gF.nd rfl v4 (ay (a7 Cj rfl T.z_abs y_ (ae (af 1) ag))))
  (ai (nC Uo (P8 (wm hr.units) (af 2) ah (a8 _)) (aq (G3 (i:=2) (j:=3) rfl gF.nd rfl rfl x_ rfl rfl (az de (af 3) (af 2)) (af 2) rfl)))
  (ai (cN (P8 oO (af 1) ah (a8 _)) (aq (aA (i:=3) gF.nd rfl v4 (az gK ah (af 3)))) aX)
  (aq (aE (bW (ae (az qU (af 0) (af 3)) (ae (az qU (af 1) (af 3)) ag))))))))))
  xI
theorem iq:aC ve ["_law_state","_law_least","_law_kind"] (au iW):=⟨rfl,rfl,rfl,y_,rfl,y_,y_⟩
theorem ir(T:Tx K mg ad fd):FnOk P w K mg base CX0 2 (ad 46) (fd 46) ["_law_state","_law_least","_law_kind"] (spF K 3 dg) :=
 bf (k:=1) T.x__law_amount.f iq jb (λcdv A outer s H E hr=>by exact(@ai _ _ _ _ _ (@aA _ _ _ 3 _ _ _ iq.nd rfl v4 (@ay _ _ _ (@az _ _ _ _ _ _ _ _ bR ah (bK (aL T) T.x__law_take hr 0 0 (aZ 0 (@ae _ _ _ _ _ _ (@av _ _ _ _ _ _ (@cu _ _ _ _ _ (@ae _ _ _ _ _ _ ah (@ae _ _ _ _ _ _ ah (@ae _ _ _ _ _ _ ah (@ae _ _ _ _ _ _ ah (@ae _ _ _ _ _ _ ah ag z_) z_) z_) z_) z_)) (af 2) (λ_ _=>rfl)) ag z_))))) z_ (by first | exact .inl rfl | exact .inr rfl)) (@ai _ _ _ _ _ (@aA _ _ _ 4 _ _ _ iq.nd rfl v4 (@ay _ _ _ (@az _ _ _ _ _ _ _ _ bR (af 1) (bK (aL T) T.x__law_take hr 0 0 (aZ 0 (@ae _ _ _ _ _ _ (@av _ _ _ _ _ _ (@cu _ _ _ _ _ (@ae _ _ _ _ _ _ ah (@ae _ _ _ _ _ _ ah (@ae _ _ _ _ _ _ ah (@ae _ _ _ _ _ _ ah (@ae _ _ _ _ _ _ (@az _ _ _ _ _ _ _ _ Ci ah ah) ag z_) z_) z_) z_) z_)) (af 2) (λ_ _=>rfl)) ag z_))))) z_ (by first | exact .inl rfl | exact .inr rfl)) (@aq _ _ _ (@aE _ _ _ _ (aI (eL T) T.x__law_low hr (@ae _ _ _ _ _ _ (af 4) (@ae _ _ _ _ _ _ (af 3) ag z_) z_)))))))
  sD
theorem cS:aC xl ["_law_state","_law_ties_here","_law_kind"] (au j6):=⟨rfl,rfl,rfl,y_,rfl,y_,y_⟩
theorem vI(T:Tx K mg ad fd):FnOk P w K mg base CX0 3 (ad 47) (fd 47) ["_law_state","_law_ties_here","_law_kind"] (spF K 3 jc) :=
 bf (k:=2) T.x__law_rooms.f cS ky (λcdv A outer s H E hr=>(ai (aA (i:=3) cS.nd rfl v4 (ay (bK (aL T) T.x__law_take hr 0 0 (aZ 0 (ae ah ag)))))
  (ai (aA (i:=4) cS.nd rfl v4 (ay (bK (ir T) T.x__law_amount hr 0 0 (aZ 0 (ae ah (ae (af 2) ag))))))
  (ai (cN (P8 (iP hr.units) (af 3) ah (a8 _)) (aq (aA (i:=4) cS.nd rfl v4 (bW (ae ah (ae ah ag))))) aX)
  (ai (aA (i:=5) cS.nd rfl v4 (cu (ae (af 4) ag)))
  (ai (nC Uo (P8 oO (gM (Iz 5 rfl T.z_len) (a7 fZ rfl T.z_len PySem.boot_len (ae (af 5) ag))) (af 1) (a8 _)) (ai (aA (i:=6) cS.nd rfl v4 (ay (bK (ir T) T.x__law_amount hr 0 0 (aZ 0 (ae ah (ae (af 2) ag))))))
  (aq (jM (fk 5 (av (cu (ae (af 4) (ae (af 6) ag))) (fh wq rfl T.z_int y_ (ae (iw (iP hr.units) (af 3) ah (a8 _)) ag)) (λ_ _=>rfl)))))))
  (aq (aE (dH 5)))))))))
  tR
theorem kP:aC yY ["_law_state","_law_shape","_law_places","_law_k"] (au mB):=⟨rfl,rfl,rfl,y_,rfl,y_,y_⟩
theorem xR(T:Tx K mg ad fd):FnOk P w K mg base CX0 2 (ad 48) (fd 48) ["_law_state","_law_shape","_law_places","_law_k"] (spF K 4 kB) :=
 bf (k:=1) T.x__law_ends.f kP mT (λcdv A outer s H E hr=>(ai (aA (i:=4) kP.nd rfl v4 (ay (bK (aL T) T.x__law_take hr 0 0 (aZ 0 (ae (af 2) ag)))))
  (ai (aA (i:=5) kP.nd rfl v4 (az de (az bR (az bR (af 4) ah) (bK (aL T) T.x__law_take hr 0 0 (aZ 0 (ae (az gK (af 2) ah) ag)))) (af 2)))
  (ai (cN (P8 (iP hr.units) (af 1) ah (a8 _)) (aq (aE (bW (ae (az de (af 3) (af 2)) (ae (az de (az bR (af 3) (az qU (af 2) ah)) (af 2)) ag))))) aX)
  (ai (cN (P8 (iP hr.units) (af 1) ah (a8 _)) (aq (aE (bW (ae (ay (az a9 (az de (af 3) ah) (az gK (af 2) ah))) (ae (ay (az a9 (az gK ah (az de (af 3) ah)) (az gK (af 2) ah))) ag))))) aX)
  (ai (cN (P8 (iP hr.units) (af 1) ah (a8 _)) (aq (aE (bW (ae ah (ae (ay (az bR ah (az de (af 5) (az gK (af 2) ah)))) ag))))) aX)
  (aq (aE (bW (ae (af 4) (ae (af 5) ag)))))))))))
  vw
theorem bo:aC yZ ["_law_script","_law_at","_law_most","_law_count"] (au mC):=⟨rfl,rfl,rfl,y_,rfl,y_,y_⟩
theorem xS(T:Tx K mg ad fd):FnOk P w K mg base CX0 4 (ad 49) (fd 49) ["_law_script","_law_at","_law_most","_law_count"] (spF K 4 kC) :=
 bf (k:=3) T.x__law_ring.f bo mU (λcdv A outer s H E hr=>by exact(@ai _ _ _ _ _ (@aA _ _ _ 4 _ _ _ bo.nd rfl v4 (aI (dY T) T.x__law_begun hr (@ae _ _ _ _ _ _ (af 0) (@ae _ _ _ _ _ _ (af 1) ag z_) z_)) z_ (by first | exact .inl rfl | exact .inr rfl)) (@ai _ _ _ _ _ (@aA _ _ _ 5 _ _ _ bo.nd rfl v4 (@ay _ _ _ (@az _ _ _ _ _ _ _ _ bR ah (bK (aL T) T.x__law_take hr 0 4 (aZ 4 (@ae _ _ _ _ _ _ (@az _ _ _ _ _ _ _ _ gK (af 2) ah) ag z_))))) z_ (by first | exact .inl rfl | exact .inr rfl)) (@ai _ _ _ _ _ (@aA _ _ _ 6 _ _ _ bo.nd rfl v4 (@ay _ _ _ (bK (aL T) T.x__law_take hr 0 4 (aZ 4 (@ae _ _ _ _ _ _ (@ay _ _ _ (@az _ _ _ _ _ _ _ _ bR (af 3) ah)) ag z_)))) z_ (by first | exact .inl rfl | exact .inr rfl)) (@ai _ _ _ _ _ (@aA _ _ _ 7 _ _ _ bo.nd rfl v4 (@ay _ _ _ (@cu _ _ _ _ _ (@ae _ _ _ _ _ _ (@ay _ _ _ (bK (aL T) T.x__law_take hr 0 4 (aZ 4 (@ae _ _ _ _ _ _ ah ag z_)))) (@ae _ _ _ _ _ _ (@ay _ _ _ (bK (aL T) T.x__law_take hr 0 4 (aZ 4 (@ae _ _ _ _ _ _ ah ag z_)))) ag z_) z_))) z_ (by first | exact .inl rfl | exact .inr rfl)) (@ai _ _ _ _ _ (@aA _ _ _ 8 _ _ _ bo.nd rfl v4 (@ay _ _ _ (bK (aL T) T.x__law_take hr 0 4 (aZ 4 (@ae _ _ _ _ _ _ ah ag z_)))) z_ (by first | exact .inl rfl | exact .inr rfl)) (@ai _ _ _ _ _ (@aA _ _ _ 9 _ _ _ bo.nd rfl v4 (@ay _ _ _ (bK (vH T) T.x__law_names hr 0 4 (aZ 4 (@ae _ _ _ _ _ _ (af 6) ag z_)))) z_ (by first | exact .inl rfl | exact .inr rfl)) (@ai _ _ _ _ _ (@aA _ _ _ 10 _ _ _ bo.nd rfl v4 (@ay _ _ _ (aI (vI T) T.x__law_rooms hr (@ae _ _ _ _ _ _ (aI (dY T) T.x__law_begun hr (@ae _ _ _ _ _ _ (af 0) (@ae _ _ _ _ _ _ (@ay _ _ _ (@az _ _ _ _ _ _ _ _ bR (af 1) ah)) ag z_) z_)) (@ae _ _ _ _ _ _ (af 5) (@ae _ _ _ _ _ _ (@av _ _ _ _ _ _ (af 7) ah (λ_ _=>rfl)) ag z_) z_) z_))) z_ (by first | exact .inl rfl | exact .inr rfl)) (@ai _ _ _ _ _ (@aA _ _ _ 4 _ _ _ bo.nd rfl v4 (aI (dY T) T.x__law_begun hr (@ae _ _ _ _ _ _ (af 0) (@ae _ _ _ _ _ _ (@ay _ _ _ (@az _ _ _ _ _ _ _ _ bR (af 1) ah)) ag z_) z_)) z_ (by first | exact .inl rfl | exact .inr rfl)) (@ai _ _ _ _ _ (@aA _ _ _ 11 _ _ _ bo.nd rfl v4 (@cu _ _ _ _ _ ag) z_ (by first | exact .inl rfl | exact .inr rfl)) (@ai _ _ _ _ _ (c8 Uo rfl (gJ rfl T.z_range (af 6)) (fw (i:=12) bo.nd rfl v4) (@ai _ _ _ _ _ (ym (jq rfl (aU (i:=13) bo.nd rfl v4 (aU (i:=14) bo.nd rfl v4 fz))) (bK (xR T) T.x__law_ends hr 0 4 (aZ 4 (@ae _ _ _ _ _ _ (af 8) (@ae _ _ _ _ _ _ (af 5) (@ae _ _ _ _ _ _ (af 12) ag z_) z_) z_)))) (@aq _ _ _ (jM (fk 11 (@bW _ _ _ _ _ _ (@ae _ _ _ _ _ _ (@av _ _ _ _ _ _ (af 9) (af 12) (λ_ _=>rfl)) (@ae _ _ _ _ _ _ (af 13) (@ae _ _ _ _ _ _ (af 14) (@ae _ _ _ _ _ _ (@ay _ _ _ (bK (ir T) T.x__law_amount hr 0 4 (aZ 4 (@ae _ _ _ _ _ _ ah (@ae _ _ _ _ _ _ (@av _ _ _ _ _ _ (af 7) ah (λ_ _=>rfl)) ag z_) z_)))) ag z_) z_) z_) z_))))))) (@aq _ _ _ (@aE _ _ _ _ (@bW _ _ _ _ _ _ (@ae _ _ _ _ _ _ (af 10) (@ae _ _ _ _ _ _ (af 11) ag z_) z_)))))))))))))))
  vx
theorem bT:aC xm ["_law_state","_law_ring_here"] (au j7):=⟨rfl,rfl,rfl,y_,rfl,y_,y_⟩
theorem vJ(T:Tx K mg ad fd):FnOk P w K mg base CX0 2 (ad 50) (fd 50) ["_law_state","_law_ring_here"] (spF K 2 je) :=
 bf (k:=1) T.x__law_parts.f bT kD (λcdv A outer s H E hr=>(ai (aA (i:=2) bT.nd rfl v4 (cu ag))
  (ai (c8 Uo rfl (fY (av (af 1) ah (λ_ _=>rfl))) (jq rfl (aU (i:=3) bT.nd rfl v4 (aU (i:=4) bT.nd rfl v4 (aU (i:=5) bT.nd rfl v4 (aU (i:=6) bT.nd rfl v4 fz))))) (ai (aA (i:=7) bT.nd rfl v4 (ay (bK (aL T) T.x__law_take hr 0 0 (aZ 0 (ae ah ag)))))
  (ai (aA (i:=8) bT.nd rfl v4 (ay (bK (aL T) T.x__law_take hr 0 0 (aZ 0 (ae ah ag)))))
  (aq (jM (fk 2 (av (cu (ae (bW (ae ah (ae ah ag))) (ae (af 6) (ae (ay (aI (eL T) T.x__law_low hr (ae (ay (az a9 (av (af 6) ah (λ_ _=>rfl)) (af 8))) (ae (ay (az a9 (av (af 6) ah (λ_ _=>rfl)) ah)) ag)))) ag)))) (a7 (Cm rfl) rfl T.z_min y_ (ae (af 7) (ae ah ag))) (λ_ _=>rfl))))))))
  (aq (aE (dH 2))))))
  tS
theorem bY:aC y1 ["_law_ring_here","_law_k","_law_way"] (au mD):=⟨rfl,rfl,rfl,y_,rfl,y_,y_⟩
theorem xT(T:Tx K mg ad fd):FnOk P w K mg base CX0 1 (ad 51) (fd 51) ["_law_ring_here","_law_k","_law_way"] (spF K 3 kE) :=
 bf (k:=0) T.x__law_ties.f bY mV (λcdv A outer s H E hr=>(ai (ym (jq rfl (aU (i:=3) bY.nd rfl v4 (aU (i:=4) bY.nd rfl v4 (aU (i:=5) bY.nd rfl v4 (aU (i:=6) bY.nd rfl v4 fz))))) (av (av (af 0) ah (λ_ _=>rfl)) (af 1) (λ_ _=>rfl)))
  (ai (cN (P8 (iP hr.units) (af 2) gH (a8 _)) (aq (G3 (i:=4) (j:=5) rfl bY.nd rfl rfl x_ rfl rfl (af 5) (af 4) rfl)) aX)
  (ai (aA (i:=7) bY.nd rfl v4 (cu ag))
  (ai (nC Uo (P8 (wm hr.units) (af 4) (af 5) (a8 _)) (ai (jM (fk 7 (af 4)))
  (aq (aA (i:=4) bY.nd rfl v4 (az de (az bR (af 4) ah) (a7 fZ rfl T.z_len y_ (ae (av (af 0) ah (λ_ _=>rfl)) ag)))))))
  (aq (aE (dH 7))))))))
  vA
theorem vK:aC xn ["_law_one","_law_other"] (au j8):=⟨rfl,rfl,rfl,y_,rfl,y_,y_⟩
theorem fV(T:Tx K mg ad fd):FnOk P w K mg base CX0 2 (ad 52) (fd 52) ["_law_one","_law_other"] (spF K 2 cQ) :=
 bf (k:=1) T.x__law_minus.f vK kF (λcdv A outer s H E hr=>(aq (aE (aI (eL T) T.x__law_low hr (ae (az gK (az a9 (av (af 0) ah (λ_ _=>rfl)) (av (af 1) ah (λ_ _=>rfl))) (az a9 (av (af 1) ah (λ_ _=>rfl)) (av (af 0) ah (λ_ _=>rfl)))) (ae (ay (az a9 (av (af 0) ah (λ_ _=>rfl)) (av (af 1) ah (λ_ _=>rfl)))) ag))))))
  tU
theorem xU:aC y3 ["_law_one","_law_other"] (au mE):=⟨rfl,rfl,rfl,y_,rfl,y_,y_⟩
theorem p7(T:Tx K mg ad fd):FnOk P w K mg base CX0 2 (ad 53) (fd 53) ["_law_one","_law_other"] (spF K 2 fu) :=
 bf (k:=1) T.x__law_plus.f xU mW (λcdv A outer s H E hr=>(aq (aE (aI (eL T) T.x__law_low hr (ae (ay (az bR (az a9 (av (af 0) ah (λ_ _=>rfl)) (av (af 1) ah (λ_ _=>rfl))) (az a9 (av (af 1) ah (λ_ _=>rfl)) (av (af 0) ah (λ_ _=>rfl))))) (ae (ay (az a9 (av (af 0) ah (λ_ _=>rfl)) (av (af 1) ah (λ_ _=>rfl)))) ag))))))
  vB
theorem cg:aC xq ["_law_ring_here","_law_sending"] (au j9):=⟨rfl,rfl,rfl,y_,rfl,y_,y_⟩
theorem oF(T:Tx K mg ad fd):FnOk P w K mg base CX0 3 (ad 54) (fd 54) ["_law_ring_here","_law_sending"] (spF K 2 fS) :=
 bf (k:=2) T.x__law_loads.f cg kG (λcdv A outer s H E hr=>by exact(@ai _ _ _ _ _ (@aA _ _ _ 2 _ _ _ cg.nd rfl v4 (Lo (@cu _ _ _ _ _ (@ae _ _ _ _ _ _ (@bW _ _ _ _ _ _ (@ae _ _ _ _ _ _ ah (@ae _ _ _ _ _ _ ah ag z_) z_)) ag z_)) (a7 fZ rfl T.z_len y_ (@ae _ _ _ _ _ _ (@av _ _ _ _ _ _ (af 0) ah (λ_ _=>rfl)) ag z_))) z_ (by first | exact .inl rfl | exact .inr rfl)) (@ai _ _ _ _ _ (c8 Uo rfl (gN rfl T.z_enumerate (af 1)) (jq rfl (aU (i:=3) cg.nd rfl v4 (aU (i:=4) cg.nd rfl v4 fz))) (@aq _ _ _ (c8 Uo rfl (fY (@cu _ _ _ _ _ (@ae _ _ _ _ _ _ (@bW _ _ _ _ _ _ (@ae _ _ _ _ _ _ gH (@ae _ _ _ _ _ _ (af 4) ag z_) z_)) (@ae _ _ _ _ _ _ (@bW _ _ _ _ _ _ (@ae _ _ _ _ _ _ gH (@ae _ _ _ _ _ _ (@ay _ _ _ (aI (fV T) T.x__law_minus hr (@ae _ _ _ _ _ _ (@av _ _ _ _ _ _ (@av _ _ _ _ _ _ (@av _ _ _ _ _ _ (af 0) ah (λ_ _=>rfl)) (af 3) (λ_ _=>rfl)) ah (λ_ _=>rfl)) (@ae _ _ _ _ _ _ (af 4) ag z_) z_))) ag z_) z_)) ag z_) z_))) (jq rfl (aU (i:=5) cg.nd rfl v4 (aU (i:=6) cg.nd rfl v4 fz))) (@aq _ _ _ (c8 Uo rfl (fY (aI (xT T) T.x__law_ties hr (@ae _ _ _ _ _ _ (af 0) (@ae _ _ _ _ _ _ (af 3) (@ae _ _ _ _ _ _ (af 5) ag z_) z_) z_))) (fw (i:=7) cg.nd rfl v4) (@aq _ _ _ (jR 2 (af 7) (aI (p7 T) T.x__law_plus hr (@ae _ _ _ _ _ _ (@gM _ _ _ _ _ (iz 2 (af 7) (λ_ _=>rfl)) (@av _ _ _ _ _ _ (af 2) (af 7) (λ_ _=>rfl))) (@ae _ _ _ _ _ _ (af 6) ag z_) z_))))))))) (@aq _ _ _ (@aE _ _ _ _ (dH 2))))))
  tV
theorem vL:aC xr ["_law_one","_law_other"] (au ka):=⟨rfl,rfl,rfl,y_,rfl,y_,y_⟩
theorem fW(T:Tx K mg ad fd):FnOk P w K mg base CX0 1 (ad 55) (fd 55) ["_law_one","_law_other"] (spF K 2 cR) :=
 bf (k:=0) T.x__law_under.f vL kH (λcdv A outer s H E hr=>(aq (aE (iw oO (az a9 (av (af 0) ah (λ_ _=>rfl)) (av (af 1) ah (λ_ _=>rfl))) (az a9 (av (af 1) ah (λ_ _=>rfl)) (av (af 0) ah (λ_ _=>rfl))) (a8 _)))))
  tX
theorem du:aC rR ["_law_ring_here","_law_some"] (au gu):=⟨rfl,rfl,rfl,y_,rfl,y_,y_⟩
theorem qt(T:Tx K mg ad fd):FnOk P w K mg base CX0 2 (ad 56) (fd 56) ["_law_ring_here","_law_some"] (spF K 2 fG) :=
 bf (k:=1) T.x__law_greatest.f du gB (λcdv A outer s H E hr=>(ai (aA (i:=2) du.nd rfl v4 (bW (ae ah (ae ah ag))))
  (ai (c8 Uo rfl (fY (af 1)) (fw (i:=3) du.nd rfl v4) (aq (cN (bV (aI (fW T) T.x__law_under hr (ae (af 2) (ae (av (av (av (af 0) ah (λ_ _=>rfl)) (af 3) (λ_ _=>rfl)) ah (λ_ _=>rfl)) ag)))) (aq (aA (i:=2) du.nd rfl v4 (av (av (av (af 0) ah (λ_ _=>rfl)) (af 3) (λ_ _=>rfl)) ah (λ_ _=>rfl)))) aX)))
  (aq (aE (dH 2))))))
  pE
theorem eV:aC vf ["_law_ring_here","_law_sending"] (au iX):=⟨rfl,rfl,rfl,y_,rfl,y_,y_⟩
theorem ma(T:Tx K mg ad fd):FnOk P w K mg base CX0 2 (ad 57) (fd 57) ["_law_ring_here","_law_sending"] (spF K 2 eU) :=
 bf (k:=1) T.x__law_parted.f eV jg (λcdv A outer s H E hr=>(ai (aA (i:=2) eV.nd rfl v4 (cu ag))
  (ai (c8 Uo rfl (gN rfl T.z_enumerate (af 1)) (jq rfl (aU (i:=3) eV.nd rfl v4 (aU (i:=4) eV.nd rfl v4 fz))) (aq (cN (P6.pb (qQ (P8 Ff (av (af 4) ah (λ_ _=>rfl)) ah (a8 _)) (qu (bV (aI (fW T) T.x__law_under hr (ae (af 4) (ae (av (av (av (af 0) ah (λ_ _=>rfl)) (af 3) (λ_ _=>rfl)) ah (λ_ _=>rfl)) ag))))))) (aq (jM (fk 2 (af 3)))) aX)))
  (aq (aE (dH 2))))))
  sE
theorem d5:aC pW ["_law_ring_here","_law_loads_here","_law_behind","_law_ways"] (au gS):=⟨rfl,rfl,rfl,y_,rfl,y_,y_⟩
theorem oG(T:Tx K mg ad fd):FnOk P w K mg base CX0 4 (ad 58) (fd 58) ["_law_ring_here","_law_loads_here","_law_behind","_law_ways"] (spF K 4 fT) :=
 bf (k:=3) T.x__law_holds.f d5 kJ (λcdv A outer s H E hr=>by exact(@ai _ _ _ _ _ (Cp d5.nd (j:=4) rfl v4 (sc:=(au gS)) (N:=pW) (Nt:=[ "_law_ask" ,"_law_way" ]) (Nf:=[]) (fi:=[]) rfl rfl rfl (Cz rfl T.z_zip (@av _ _ _ _ _ _ (af 0) ah (λ_ _=>rfl)) (af 3)) rfl y_ y_ y_ x_ rfl y_ x_ (λ_ _ _ _=>(CA rfl (kU (i:=0) x_ (show(([ "_law_ask" ,"_law_way" ]:List Str)++([]:List Str)).Nodup by decide +kernel) rfl (Or.inl rfl) (kU (i:=1) x_ (show(([ "_law_ask" ,"_law_way" ]:List Str)++([]:List Str)).Nodup by decide +kernel) rfl (Or.inl rfl) yr)))) (λ_ _ _ _=>jS) (λ_ _ _ _=>(@av _ _ _ _ _ _ (@cu _ _ _ _ _ (@ae _ _ _ _ _ _ (@bW _ _ _ _ _ _ (@ae _ _ _ _ _ _ ah (@ae _ _ _ _ _ _ ah ag z_) z_)) (@ae _ _ _ _ _ _ (@av _ _ _ _ _ _ (af 0) ah (λ_ _=>rfl)) ag z_) z_)) (fh wq rfl T.z_int y_ (@ae _ _ _ _ _ _ (iw (iP hr.units) (af 1) gH (a8 _)) ag z_)) (λ_ _=>rfl)))) (@ai _ _ _ _ _ (@aA _ _ _ 5 _ _ _ d5.nd rfl v4 (@ay _ _ _ (aI (qt T) T.x__law_greatest hr (@ae _ _ _ _ _ _ (af 0) (@ae _ _ _ _ _ _ (@ay _ _ _ (aI (ma T) T.x__law_parted hr (@ae _ _ _ _ _ _ (af 0) (@ae _ _ _ _ _ _ (af 2) ag z_) z_))) ag z_) z_))) z_ (by first | exact .inl rfl | exact .inr rfl)) (@ai _ _ _ _ _ (c8 Uo rfl (gN rfl T.z_enumerate (aI (oF T) T.x__law_loads hr (@ae _ _ _ _ _ _ (af 0) (@ae _ _ _ _ _ _ (af 4) ag z_) z_))) (jq rfl (aU (i:=6) d5.nd rfl v4 (aU (i:=7) d5.nd rfl v4 fz))) (@aq _ _ _ (@cN _ _ _ _ _ _ _ _ (bV (aI (fW T) T.x__law_under hr (@ae _ _ _ _ _ _ (@ay _ _ _ (aI (p7 T) T.x__law_plus hr (@ae _ _ _ _ _ _ (@av _ _ _ _ _ _ (af 1) (af 6) (λ_ _=>rfl)) (@ae _ _ _ _ _ _ (@ay _ _ _ (aI (eL T) T.x__law_low hr (@ae _ _ _ _ _ _ (@ay _ _ _ (@az _ _ _ _ _ _ _ _ a9 ah (@av _ _ _ _ _ _ (af 5) ah (λ_ _=>rfl)))) (@ae _ _ _ _ _ _ (@ay _ _ _ (@az _ _ _ _ _ _ _ _ a9 ah (@av _ _ _ _ _ _ (af 5) ah (λ_ _=>rfl)))) ag z_) z_))) ag z_) z_))) (@ae _ _ _ _ _ _ (af 7) ag z_) z_))) (@aq _ _ _ (@aE _ _ _ _ jA)) aX))) (@aq _ _ _ (@aE _ _ _ _ jA))))))
  tY
theorem xV:aC y4 ["_law_ring_here","_law_sending","_law_k","_law_way"] (au mF):=⟨rfl,rfl,rfl,y_,rfl,y_,y_⟩
theorem p8(T:Tx K mg ad fd):FnOk P w K mg base CX0 3 (ad 59) (fd 59) ["_law_ring_here","_law_sending","_law_k","_law_way"] (spF K 4 gX) :=
 bf (k:=2) T.x__law_gone.f xV mX (λcdv A outer s H E hr=>(ai (cN (P8 (iP hr.units) (af 3) gH (a8 _)) (aq (aE (av (af 1) (af 2) (λ_ _=>rfl)))) aX)
  (aq (aE (aI (fV T) T.x__law_minus hr (ae (av (av (av (af 0) ah (λ_ _=>rfl)) (af 2) (λ_ _=>rfl)) ah (λ_ _=>rfl)) (ae (av (af 1) (af 2) (λ_ _=>rfl)) ag)))))))
  vC
theorem bD:aC xu ["_law_state","_law_ring_here","_law_sending"] (au kb):=⟨rfl,rfl,rfl,y_,rfl,y_,y_⟩
theorem vM(T:Tx K mg ad fd):FnOk P w K mg base CX0 4 (ad 60) (fd 60) ["_law_state","_law_ring_here","_law_sending"] (spF K 3 jh) :=
 bf (k:=3) T.x__law_drawn.f bD kK (λcdv A outer s H E hr=>by exact(@ai _ _ _ _ _ (@aA _ _ _ 3 _ _ _ bD.nd rfl v4 (@ay _ _ _ (a7 fZ rfl T.z_len y_ (@ae _ _ _ _ _ _ (@av _ _ _ _ _ _ (af 1) ah (λ_ _=>rfl)) ag z_))) z_ (by first | exact .inl rfl | exact .inr rfl)) (@ai _ _ _ _ _ (@aA _ _ _ 4 _ _ _ bD.nd rfl v4 (@ay _ _ _ (bK (aL T) T.x__law_take hr 0 0 (aZ 0 (@ae _ _ _ _ _ _ (af 3) ag z_)))) z_ (by first | exact .inl rfl | exact .inr rfl)) (@ai _ _ _ _ _ (@aA _ _ _ 5 _ _ _ bD.nd rfl v4 (@az _ _ _ _ _ _ _ _ de (@az _ _ _ _ _ _ _ _ bR (@az _ _ _ _ _ _ _ _ bR (af 4) ah) (bK (aL T) T.x__law_take hr 0 0 (aZ 0 (@ae _ _ _ _ _ _ (@ay _ _ _ (a7 (Ck rfl) rfl T.z_max y_ (@ae _ _ _ _ _ _ ah (@ae _ _ _ _ _ _ (@az _ _ _ _ _ _ _ _ gK (af 3) ah) ag z_) z_))) ag z_)))) (af 3)) z_ (by first | exact .inl rfl | exact .inr rfl)) (@ai _ _ _ _ _ (@aA _ _ _ 6 _ _ _ bD.nd rfl v4 (@av _ _ _ _ _ _ (@cu _ _ _ _ _ (@ae _ _ _ _ _ _ gH (@ae _ _ _ _ _ _ gH ag z_) z_)) (bK (aL T) T.x__law_take hr 0 0 (aZ 0 (@ae _ _ _ _ _ _ ah ag z_))) (λ_ _=>rfl)) z_ (by first | exact .inl rfl | exact .inr rfl)) (@ai _ _ _ _ _ (@aA _ _ _ 7 _ _ _ bD.nd rfl v4 (@av _ _ _ _ _ _ (@cu _ _ _ _ _ (@ae _ _ _ _ _ _ gH (@ae _ _ _ _ _ _ gH ag z_) z_)) (bK (aL T) T.x__law_take hr 0 0 (aZ 0 (@ae _ _ _ _ _ _ ah ag z_))) (λ_ _=>rfl)) z_ (by first | exact .inl rfl | exact .inr rfl)) (@ai _ _ _ _ _ (@aA _ _ _ 8 _ _ _ bD.nd rfl v4 (@ay _ _ _ (aI (fV T) T.x__law_minus hr (@ae _ _ _ _ _ _ (@av _ _ _ _ _ _ (@av _ _ _ _ _ _ (@av _ _ _ _ _ _ (af 1) ah (λ_ _=>rfl)) (af 4) (λ_ _=>rfl)) ah (λ_ _=>rfl)) (@ae _ _ _ _ _ _ (@ay _ _ _ (aI (p8 T) T.x__law_gone hr (@ae _ _ _ _ _ _ (af 1) (@ae _ _ _ _ _ _ (af 2) (@ae _ _ _ _ _ _ (af 4) (@ae _ _ _ _ _ _ (af 6) ag z_) z_) z_) z_))) ag z_) z_))) z_ (by first | exact .inl rfl | exact .inr rfl)) (@ai _ _ _ _ _ (@aA _ _ _ 9 _ _ _ bD.nd rfl v4 (@ay _ _ _ (aI (fV T) T.x__law_minus hr (@ae _ _ _ _ _ _ (@av _ _ _ _ _ _ (@av _ _ _ _ _ _ (@av _ _ _ _ _ _ (af 1) ah (λ_ _=>rfl)) (af 5) (λ_ _=>rfl)) ah (λ_ _=>rfl)) (@ae _ _ _ _ _ _ (@ay _ _ _ (aI (p8 T) T.x__law_gone hr (@ae _ _ _ _ _ _ (af 1) (@ae _ _ _ _ _ _ (af 2) (@ae _ _ _ _ _ _ (af 5) (@ae _ _ _ _ _ _ (af 7) ag z_) z_) z_) z_))) ag z_) z_))) z_ (by first | exact .inl rfl | exact .inr rfl)) (@ai _ _ _ _ _ (@aA _ _ _ 10 _ _ _ bD.nd rfl v4 (@av _ _ _ _ _ _ (@cu _ _ _ _ _ (@ae _ _ _ _ _ _ (af 8) (@ae _ _ _ _ _ _ (af 9) ag z_) z_)) (fh wq rfl T.z_int y_ (@ae _ _ _ _ _ _ (@ay _ _ _ (aI (fW T) T.x__law_under hr (@ae _ _ _ _ _ _ (af 9) (@ae _ _ _ _ _ _ (af 8) ag z_) z_))) ag z_)) (λ_ _=>rfl)) z_ (by first | exact .inl rfl | exact .inr rfl)) (@ai _ _ _ _ _ (@aA _ _ _ 11 _ _ _ bD.nd rfl v4 (@av _ _ _ _ _ _ (@cu _ _ _ _ _ (@ae _ _ _ _ _ _ ah (@ae _ _ _ _ _ _ (@ay _ _ _ (@az _ _ _ _ _ _ _ _ bR ah (bK (aL T) T.x__law_take hr 0 0 (aZ 0 (@ae _ _ _ _ _ _ ah ag z_))))) ag z_) z_)) (bK (aL T) T.x__law_take hr 0 0 (aZ 0 (@ae _ _ _ _ _ _ ah ag z_))) (λ_ _=>rfl)) z_ (by first | exact .inl rfl | exact .inr rfl)) (@aq _ _ _ (@aE _ _ _ _ (@bW _ _ _ _ _ _ (@ae _ _ _ _ _ _ (af 4) (@ae _ _ _ _ _ _ (af 6) (@ae _ _ _ _ _ _ (af 5) (@ae _ _ _ _ _ _ (af 7) (@ae _ _ _ _ _ _ (@ay _ _ _ (aI (eL T) T.x__law_low hr (@ae _ _ _ _ _ _ (@ay _ _ _ (@az _ _ _ _ _ _ _ _ a9 (@av _ _ _ _ _ _ (af 10) ah (λ_ _=>rfl)) (af 11))) (@ae _ _ _ _ _ _ (@ay _ _ _ (@az _ _ _ _ _ _ _ _ a9 (@av _ _ _ _ _ _ (af 10) ah (λ_ _=>rfl)) ah)) ag z_) z_))) ag z_) z_) z_) z_) z_))))))))))))))
  tZ
theorem eW:aC vg ["_law_ring_here","_law_sending","_law_thing"] (au iY):=⟨rfl,rfl,rfl,y_,rfl,y_,y_⟩
theorem t7(T:Tx K mg ad fd):FnOk P w K mg base CX0 8 (ad 61) (fd 61) ["_law_ring_here","_law_sending","_law_thing"] (spF K 3 ik) :=
 bf (k:=7) T.x__law_let_by.f eW ji (λcdv A outer s H E hr=>(ai (aA (i:=3) eW.nd rfl v4 qP)
  (ai (CS rfl rfl T.h_NoSlide rfl (λ_ _ xt=>(zZ (CQ (i:=3) eW.nd rfl v4 (Ha (iK T) T.x_slid_by hr (ae (af 0) (ae (af 1) (ae (ay (cu (ae (af 2) ag))) ag))))))) (λ_=>(aq (aA (i:=3) eW.nd rfl v4 qP))))
  (aq (aE (dH 3))))))
  sF
theorem bg:aC nU ["_law_state","_law_ring_here","_law_sending"] (au dP):=⟨rfl,rfl,rfl,y_,rfl,y_,y_⟩
theorem m4(T:Tx K mg ad fd):FnOk P w K mg base CX0 9 (ad 62) (fd 62) ["_law_state","_law_ring_here","_law_sending"] (spF K 3 dD) :=
 bf (k:=8) T.x__law_some_slides.f bg dX (λcdv A outer s H E hr=>(ai (aA (i:=3) bg.nd rfl v4 (ay (fh yk rfl T.z_list y_ (ae (af 2) ag))))
  (ai (aA (i:=4) bg.nd rfl v4 (cu ag))
  (ai (c8 Uo rfl (gJ rfl T.z_range (bK (aL T) T.x__law_take hr 0 0 (aZ 0 (ae ah ag)))) (fw (i:=5) bg.nd rfl v4) (aq (cN (P8 Ff (a7 fZ rfl T.z_len y_ (ae (av (af 1) ah (λ_ _=>rfl)) ag)) ah (a8 _)) (ai (aA (i:=6) bg.nd rfl v4 (ay (bK (vM T) T.x__law_drawn hr 0 0 (aZ 0 (ae (af 1) (ae (af 3) ag))))))
  (ai (aA (i:=7) bg.nd rfl v4 (ay (aI (t7 T) T.x__law_let_by hr (ae (af 1) (ae (af 3) (ae (af 6) ag))))))
  (aq (cN (P8 uK (af 7) qP (a8 _)) (ai (jM (fk 4 (af 6)))
  (aq (aA (i:=3) bg.nd rfl v4 (af 7)))) aX)))) aX)))
  (aq (aE (az bR (af 4) (aI (oC T) T.x_slides_for hr (ae (af 1) (ae (af 3) ag))))))))))
  lp
theorem bC:aC qk ["_law_state","_law_ring_here","_law_behind"] (au fC):=⟨rfl,rfl,rfl,y_,rfl,y_,y_⟩
theorem pL(T:Tx K mg ad fd):FnOk P w K mg base CX0 3 (ad 63) (fd 63) ["_law_state","_law_ring_here","_law_behind"] (spF K 3 eI) :=
 bf (k:=2) T.x__law_some_ways.f bC fH (λcdv A outer s H E hr=>(ai (aA (i:=3) bC.nd rfl v4 (ay (aI (ma T) T.x__law_parted hr (ae (af 1) (ae (af 2) ag)))))
  (ai (aA (i:=4) bC.nd rfl v4 (cu ag))
  (ai (c8 Uo rfl (gN rfl T.z_enumerate (af 2)) (jq rfl (aU (i:=5) bC.nd rfl v4 (aU (i:=6) bC.nd rfl v4 fz))) (ai (aA (i:=7) bC.nd rfl v4 (av (cu (ae gH (ae gH ag))) (fh wq rfl T.z_int y_ (ae (iw (iP hr.units) (af 6) (av (av (av (af 1) ah (λ_ _=>rfl)) (af 5) (λ_ _=>rfl)) ah (λ_ _=>rfl)) (a8 _)) ag)) (λ_ _=>rfl)))
  (ai (cN (P8 IE (af 5) (af 3) rfl) (aq (aA (i:=7) bC.nd rfl v4 (av (cu (ae gH (ae gH ag))) (bK (aL T) T.x__law_take hr 0 0 (aZ 0 (ae ah ag))) (λ_ _=>rfl)))) aX)
  (aq (jM (fk 4 (af 7)))))))
  (aq (aE (dH 4)))))))
  oy
theorem jz:aC NQ ["_law_script"] (au GF):=⟨rfl,rfl,rfl,y_,rfl,y_,y_⟩
theorem MD(T:Tx K mg ad fd):FnOk P w K mg base CX0 10 (ad 64) (fd 64) ["_law_script"] (spF K 1 fs_law) :=
 bf (k:=9) T.x_law.f jz Ki (λcdv A outer s H E hr=>by exact(@ai _ _ _ _ _ (@aA _ _ _ 1 _ _ _ jz.nd rfl v4 (@ay _ _ _ (aI (xS T) T.x__law_ring hr (@ae _ _ _ _ _ _ (af 0) (@ae _ _ _ _ _ _ ah (@ae _ _ _ _ _ _ ah (@ae _ _ _ _ _ _ ah ag z_) z_) z_) z_))) z_ (by first | exact .inl rfl | exact .inr rfl)) (@ai _ _ _ _ _ (@aA _ _ _ 2 _ _ _ jz.nd rfl v4 (@ay _ _ _ (aI (vJ T) T.x__law_parts hr (@ae _ _ _ _ _ _ (aI (dY T) T.x__law_begun hr (@ae _ _ _ _ _ _ (af 0) (@ae _ _ _ _ _ _ ah ag z_) z_)) (@ae _ _ _ _ _ _ (af 1) ag z_) z_))) z_ (by first | exact .inl rfl | exact .inr rfl)) (@ai _ _ _ _ _ (@aA _ _ _ 3 _ _ _ jz.nd rfl v4 (@ay _ _ _ (aI (oF T) T.x__law_loads hr (@ae _ _ _ _ _ _ (af 1) (@ae _ _ _ _ _ _ (af 2) ag z_) z_))) z_ (by first | exact .inl rfl | exact .inr rfl)) (@ai _ _ _ _ _ (ym (jq rfl (aU (i:=4) jz.nd rfl v4 (aU (i:=5) jz.nd rfl v4 fz))) (aI (t6 T) T.x_rounding_of hr (@ae _ _ _ _ _ _ (af 1) (@ae _ _ _ _ _ _ (af 2) ag z_) z_))) (@ai _ _ _ _ _ (@cN _ _ _ _ _ _ _ _ (gI (bV (aI (jy T) T.x_lets_rounding hr (@ae _ _ _ _ _ _ (af 1) (@ae _ _ _ _ _ _ (af 2) (@ae _ _ _ _ _ _ (@bW _ _ _ _ _ _ (@ae _ _ _ _ _ _ (af 4) (@ae _ _ _ _ _ _ (af 5) ag z_) z_)) ag z_) z_) z_)))) (@aq _ _ _ (@aE _ _ _ _ jA)) aX) (@ai _ _ _ _ _ (@cN _ _ _ _ _ _ _ _ (gI (bV (aI (oG T) T.x__law_holds hr (@ae _ _ _ _ _ _ (af 1) (@ae _ _ _ _ _ _ (af 3) (@ae _ _ _ _ _ _ (@ay _ _ _ (CU (iK T) T.x_slid_by hr CT (@ae _ _ _ _ _ _ (af 1) (@ae _ _ _ _ _ _ (af 2) (@ae _ _ _ _ _ _ (af 4) ag z_) z_) z_))) (@ae _ _ _ _ _ _ (af 5) ag z_) z_) z_) z_)))) (@aq _ _ _ (@aE _ _ _ _ jA)) aX) (@ai _ _ _ _ _ (c8 Uo rfl (Fd rfl T.z_range ah (a7 (Ck rfl) rfl T.z_max y_ (@ae _ _ _ _ _ _ ah (@ae _ _ _ _ _ _ (@ay _ _ _ (a7 (Cm rfl) rfl T.z_min y_ (@ae _ _ _ _ _ _ (@ay _ _ _ (a7 fZ rfl T.z_len y_ (@ae _ _ _ _ _ _ (af 0) ag z_))) (@ae _ _ _ _ _ _ ah ag z_) z_))) ag z_) z_))) (fw (i:=6) jz.nd rfl v4) (@ai _ _ _ _ _ (@aA _ _ _ 7 _ _ _ jz.nd rfl v4 (aI (dY T) T.x__law_begun hr (@ae _ _ _ _ _ _ (af 0) (@ae _ _ _ _ _ _ (af 6) ag z_) z_)) z_ (by first | exact .inl rfl | exact .inr rfl)) (@ai _ _ _ _ _ (@aA _ _ _ 4 _ _ _ jz.nd rfl v4 (@ay _ _ _ (bK (m4 T) T.x__law_some_slides hr 0 7 (aZ 7 (@ae _ _ _ _ _ _ (af 1) (@ae _ _ _ _ _ _ (af 2) ag z_) z_)))) z_ (by first | exact .inl rfl | exact .inr rfl)) (@ai _ _ _ _ _ (@aA _ _ _ 8 _ _ _ jz.nd rfl v4 (@ay _ _ _ (CU (iK T) T.x_slid_by hr CT (@ae _ _ _ _ _ _ (af 1) (@ae _ _ _ _ _ _ (af 2) (@ae _ _ _ _ _ _ (af 4) ag z_) z_) z_))) z_ (by first | exact .inl rfl | exact .inr rfl)) (@aq _ _ _ (c8 Uo rfl (gJ rfl T.z_range ah) (fw (i:=9) jz.nd rfl v4) (@ai _ _ _ _ _ (@aA _ _ _ 5 _ _ _ jz.nd rfl v4 (@ay _ _ _ (bK (pL T) T.x__law_some_ways hr 0 7 (aZ 7 (@ae _ _ _ _ _ _ (af 1) (@ae _ _ _ _ _ _ (af 8) ag z_) z_)))) z_ (by first | exact .inl rfl | exact .inr rfl)) (@aq _ _ _ (@cN _ _ _ _ _ _ _ _ (P6.pb (qQ (bV (aI (jy T) T.x_lets_rounding hr (@ae _ _ _ _ _ _ (af 1) (@ae _ _ _ _ _ _ (af 2) (@ae _ _ _ _ _ _ (@bW _ _ _ _ _ _ (@ae _ _ _ _ _ _ (af 4) (@ae _ _ _ _ _ _ (af 5) ag z_) z_)) ag z_) z_) z_))) (qu (gI (bV (aI (oG T) T.x__law_holds hr (@ae _ _ _ _ _ _ (af 1) (@ae _ _ _ _ _ _ (af 3) (@ae _ _ _ _ _ _ (af 8) (@ae _ _ _ _ _ _ (af 5) ag z_) z_) z_) z_))))))) (@aq _ _ _ (@aE _ _ _ _ jA)) aX))))))))) (@aq _ _ _ (@aE _ _ _ _ jA))))))))))
  Kj
end
noncomputable def Tr(i:Nat):Addr:=([21,67,74,81,88,96,103,110,117,124,131,138,145,152,159,164,171,178,185,190,195,249,242,221,216,228,235,209,202,270,263,256,292,285,306,313,320,327,299,278,339,334,346,353,372,360,367,379,386,393,400,428,414,407,435,421,463,442,489,449,456,470,477,484,496]:List Addr).getD i 0
noncomputable abbrev Ts:Value:=(.str "ringloads.divisors" 187)
noncomputable abbrev Tt:Value:=(.str "ringloads.names" 251)
noncomputable abbrev Tu:Value:=(.str "ringloads.ratios" 282)
noncomputable abbrev Tv:Value:=(.str "ringloads.crossing" 344)
noncomputable abbrev Tz:Value:=(.str "ringloads.ways" 392)
noncomputable abbrev TB:Value:=(.str "ringloads.sendings" 418)
noncomputable abbrev TF:Value:=(.str "ringloads.slides" 426)
noncomputable abbrev TH:Value:=(.str "ringloads.rounding" 534)
noncomputable abbrev TJ:Value:=(.str "law_ringloads_k38_whole_roundings_hold" 637)
noncomputable def TK(i:Nat):FuncData:=[Qy "greatest_shared" eA Ts 20,Qy "is_whole" o4 Tt 66,Qy "is_number_below" eB Tt 73,Qy "are_two_wholes" fA Tt 80,Qy "is_ratio" o6 Tt 87,Qy "lowest" u7 Tu 95,Qy "plus" DL Tu 102,Qy "minus" yR Tu 109,Qy "times" yS Tu 116,Qy "under" yT Tu 123,Qy "greater" rK Tu 130,Qy "lesser" u9 Tu 137,Qy "lesser_place" hG Tv 144,Qy "greater_place" gn Tv 151,Qy "do_cross" o7 Tv 158,Qy "parted_in" iS Tv 163,Qy "first_side_by_side" cY Tv 170,Qy "is_way" va Tz 177,Qy "other_way" mv Tz 184,Qy "ties_of" jX Tz 189,Qy "are_ways" kY TB 194,Qy "part_behind" iT TF 248,Qy "slid_once" mw TF 241,Qy "share_no_tie" eO TF 220,Qy "has_form_of_slide" dA TF 215,Qy "not_sent" o8 TF 227,Qy "most_slid" my TF 234,Qy "is_slide" o9 TF 208,Qy "slid_by" rO TF 201,Qy "ways_apart" jY TF 269,Qy "greatest_slide" fB TF 262,Qy "slides_for" jZ TF 255,Qy "nearest_way" iU TH 291,Qy "keeps_whole_asks" dN TH 284,Qy "half_of_greatest" dO TH 305,Qy "by_lesser_place" cO TH 312,Qy "rising_way" j3 TH 319,Qy "gain_of" rP TH 326,Qy "keeps_within" hJ TH 298,Qy "lets_rounding" gp TH 277,Qy "rounded_ways" eQ TH 338,Qy "rounding_of" iV TH 333,Qy "_law_begun" j4 TJ 345,Qy "_law_take" mz TJ 352,Qy "_law_names" ft TJ 371,Qy "_law_low" pf TJ 359,Qy "_law_amount" iW TJ 366,Qy "_law_rooms" j6 TJ 378,Qy "_law_ends" mB TJ 385,Qy "_law_ring" mC TJ 392,Qy "_law_parts" j7 TJ 399,Qy "_law_ties" mD TJ 427,Qy "_law_minus" j8 TJ 413,Qy "_law_plus" mE TJ 406,Qy "_law_loads" j9 TJ 434,Qy "_law_under" ka TJ 420,Qy "_law_greatest" gu TJ 462,Qy "_law_parted" iX TJ 441,Qy "_law_holds" gS TJ 488,Qy "_law_gone" mF TJ 448,Qy "_law_drawn" kb TJ 455,Qy "_law_let_by" iY TJ 469,Qy "_law_some_slides" dP TJ 476,Qy "_law_some_ways" fC TJ 483,Qy "law" GF TJ 495].getD i (Qy "law" GF Ts 0)
theorem tx{Pm:Params}{h:Heap}{mg:Str->Option Value}(X:(Hd.Kf Pm).In h)(G:h.Ns mainGlobals mg):Tx (Hd.Kf Pm) mg Tr TK where
 x_greatest_shared:=FX.mk' X G (a:=21) (c:=20) (md:=Ts) z_ z_ z_ z_ λ_ _ _ _ _ _ u l=>match u,l with | [_,_],_=>rfl
 x_is_whole:=FX.mk' X G (a:=67) (c:=66) (md:=Tt) z_ z_ z_ z_ λ_ _ _ _ _ _ u l=>match u,l with | [_],_=>rfl
 x_is_number_below:=FX.mk' X G (a:=74) (c:=73) (md:=Tt) z_ z_ z_ z_ λ_ _ _ _ _ _ u l=>match u,l with | [_,_],_=>rfl
 x_are_two_wholes:=FX.mk' X G (a:=81) (c:=80) (md:=Tt) z_ z_ z_ z_ λ_ _ _ _ _ _ u l=>match u,l with | [_],_=>rfl
 x_is_ratio:=FX.mk' X G (a:=88) (c:=87) (md:=Tt) z_ z_ z_ z_ λ_ _ _ _ _ _ u l=>match u,l with | [_],_=>rfl
 x_lowest:=FX.mk' X G (a:=96) (c:=95) (md:=Tu) z_ z_ z_ z_ λ_ _ _ _ _ _ u l=>match u,l with | [_,_],_=>rfl
 x_plus:=FX.mk' X G (a:=103) (c:=102) (md:=Tu) z_ z_ z_ z_ λ_ _ _ _ _ _ u l=>match u,l with | [_,_],_=>rfl
 x_minus:=FX.mk' X G (a:=110) (c:=109) (md:=Tu) z_ z_ z_ z_ λ_ _ _ _ _ _ u l=>match u,l with | [_,_],_=>rfl
 x_times:=FX.mk' X G (a:=117) (c:=116) (md:=Tu) z_ z_ z_ z_ λ_ _ _ _ _ _ u l=>match u,l with | [_,_],_=>rfl
 x_under:=FX.mk' X G (a:=124) (c:=123) (md:=Tu) z_ z_ z_ z_ λ_ _ _ _ _ _ u l=>match u,l with | [_,_],_=>rfl
 x_greater:=FX.mk' X G (a:=131) (c:=130) (md:=Tu) z_ z_ z_ z_ λ_ _ _ _ _ _ u l=>match u,l with | [_,_],_=>rfl
 x_lesser:=FX.mk' X G (a:=138) (c:=137) (md:=Tu) z_ z_ z_ z_ λ_ _ _ _ _ _ u l=>match u,l with | [_,_],_=>rfl
 x_lesser_place:=FX.mk' X G (a:=145) (c:=144) (md:=Tv) z_ z_ z_ z_ λ_ _ _ _ _ _ u l=>match u,l with | [_,_],_=>rfl
 x_greater_place:=FX.mk' X G (a:=152) (c:=151) (md:=Tv) z_ z_ z_ z_ λ_ _ _ _ _ _ u l=>match u,l with | [_,_],_=>rfl
 x_do_cross:=FX.mk' X G (a:=159) (c:=158) (md:=Tv) z_ z_ z_ z_ λ_ _ _ _ _ _ u l=>match u,l with | [_,_,_],_=>rfl
 x_parted_in:=FX.mk' X G (a:=164) (c:=163) (md:=Tv) z_ z_ z_ z_ λ_ _ _ _ _ _ u l=>match u,l with | [_,_],_=>rfl
 x_first_side_by_side:=FX.mk' X G (a:=171) (c:=170) (md:=Tv) z_ z_ z_ z_ λ_ _ _ _ _ _ u l=>match u,l with | [_,_],_=>rfl
 x_is_way:=FX.mk' X G (a:=178) (c:=177) (md:=Tz) z_ z_ z_ z_ λ_ _ _ _ _ _ u l=>match u,l with | [_],_=>rfl
 x_other_way:=FX.mk' X G (a:=185) (c:=184) (md:=Tz) z_ z_ z_ z_ λ_ _ _ _ _ _ u l=>match u,l with | [_],_=>rfl
 x_ties_of:=FX.mk' X G (a:=190) (c:=189) (md:=Tz) z_ z_ z_ z_ λ_ _ _ _ _ _ u l=>match u,l with | [_,_,_],_=>rfl
 x_are_ways:=FX.mk' X G (a:=195) (c:=194) (md:=TB) z_ z_ z_ z_ λ_ _ _ _ _ _ u l=>match u,l with | [_,_],_=>rfl
 x_part_behind:=FX.mk' X G (a:=249) (c:=248) (md:=TF) z_ z_ z_ z_ λ_ _ _ _ _ _ u l=>match u,l with | [_,_,_],_=>rfl
 x_slid_once:=FX.mk' X G (a:=242) (c:=241) (md:=TF) z_ z_ z_ z_ λ_ _ _ _ _ _ u l=>match u,l with | [_,_],_=>rfl
 x_share_no_tie:=FX.mk' X G (a:=221) (c:=220) (md:=TF) z_ z_ z_ z_ λ_ _ _ _ _ _ u l=>match u,l with | [_,_,_,_,_],_=>rfl
 x_has_form_of_slide:=FX.mk' X G (a:=216) (c:=215) (md:=TF) z_ z_ z_ z_ λ_ _ _ _ _ _ u l=>match u,l with | [_,_],_=>rfl
 x_not_sent:=FX.mk' X G (a:=228) (c:=227) (md:=TF) z_ z_ z_ z_ λ_ _ _ _ _ _ u l=>match u,l with | [_,_,_,_],_=>rfl
 x_most_slid:=FX.mk' X G (a:=235) (c:=234) (md:=TF) z_ z_ z_ z_ λ_ _ _ _ _ _ u l=>match u,l with | [_,_,_],_=>rfl
 x_is_slide:=FX.mk' X G (a:=209) (c:=208) (md:=TF) z_ z_ z_ z_ λ_ _ _ _ _ _ u l=>match u,l with | [_,_,_],_=>rfl
 x_slid_by:=FX.mk' X G (a:=202) (c:=201) (md:=TF) z_ z_ z_ z_ λ_ _ _ _ _ _ u l=>match u,l with | [_,_,_],_=>rfl
 x_ways_apart:=FX.mk' X G (a:=270) (c:=269) (md:=TF) z_ z_ z_ z_ λ_ _ _ _ _ _ u l=>match u,l with | [_,_,_],_=>rfl
 x_greatest_slide:=FX.mk' X G (a:=263) (c:=262) (md:=TF) z_ z_ z_ z_ λ_ _ _ _ _ _ u l=>match u,l with | [_,_,_,_],_=>rfl
 x_slides_for:=FX.mk' X G (a:=256) (c:=255) (md:=TF) z_ z_ z_ z_ λ_ _ _ _ _ _ u l=>match u,l with | [_,_],_=>rfl
 x_nearest_way:=FX.mk' X G (a:=292) (c:=291) (md:=TH) z_ z_ z_ z_ λ_ _ _ _ _ _ u l=>match u,l with | [_,_],_=>rfl
 x_keeps_whole_asks:=FX.mk' X G (a:=285) (c:=284) (md:=TH) z_ z_ z_ z_ λ_ _ _ _ _ _ u l=>match u,l with | [_,_,_,_],_=>rfl
 x_half_of_greatest:=FX.mk' X G (a:=306) (c:=305) (md:=TH) z_ z_ z_ z_ λ_ _ _ _ _ _ u l=>match u,l with | [_,_],_=>rfl
 x_by_lesser_place:=FX.mk' X G (a:=313) (c:=312) (md:=TH) z_ z_ z_ z_ λ_ _ _ _ _ _ u l=>match u,l with | [_,_],_=>rfl
 l_by_lesser_place:=LK.mk' (c0:=312) z_ rfl z_
 x_rising_way:=FX.mk' X G (a:=320) (c:=319) (md:=TH) z_ z_ z_ z_ λ_ _ _ _ _ _ u l=>match u,l with | [_,_],_=>rfl
 x_gain_of:=FX.mk' X G (a:=327) (c:=326) (md:=TH) z_ z_ z_ z_ λ_ _ _ _ _ _ u l=>match u,l with | [_,_,_,_],_=>rfl
 x_keeps_within:=FX.mk' X G (a:=299) (c:=298) (md:=TH) z_ z_ z_ z_ λ_ _ _ _ _ _ u l=>match u,l with | [_,_,_,_],_=>rfl
 x_lets_rounding:=FX.mk' X G (a:=278) (c:=277) (md:=TH) z_ z_ z_ z_ λ_ _ _ _ _ _ u l=>match u,l with | [_,_,_],_=>rfl
 x_rounded_ways:=FX.mk' X G (a:=339) (c:=338) (md:=TH) z_ z_ z_ z_ λ_ _ _ _ _ _ u l=>match u,l with | [_,_],_=>rfl
 x_rounding_of:=FX.mk' X G (a:=334) (c:=333) (md:=TH) z_ z_ z_ z_ λ_ _ _ _ _ _ u l=>match u,l with | [_,_],_=>rfl
 x__law_begun:=FX.mk' X G (a:=346) (c:=345) (md:=TJ) z_ z_ z_ z_ λ_ _ _ _ _ _ u l=>match u,l with | [_,_],_=>rfl
 x__law_take:=FX.mk' X G (a:=353) (c:=352) (md:=TJ) z_ z_ z_ z_ λ_ _ _ _ _ _ u l=>match u,l with | [_,_],_=>rfl
 x__law_names:=FX.mk' X G (a:=372) (c:=371) (md:=TJ) z_ z_ z_ z_ λ_ _ _ _ _ _ u l=>match u,l with | [_,_],_=>rfl
 x__law_low:=FX.mk' X G (a:=360) (c:=359) (md:=TJ) z_ z_ z_ z_ λ_ _ _ _ _ _ u l=>match u,l with | [_,_],_=>rfl
 x__law_amount:=FX.mk' X G (a:=367) (c:=366) (md:=TJ) z_ z_ z_ z_ λ_ _ _ _ _ _ u l=>match u,l with | [_,_,_],_=>rfl
 x__law_rooms:=FX.mk' X G (a:=379) (c:=378) (md:=TJ) z_ z_ z_ z_ λ_ _ _ _ _ _ u l=>match u,l with | [_,_,_],_=>rfl
 x__law_ends:=FX.mk' X G (a:=386) (c:=385) (md:=TJ) z_ z_ z_ z_ λ_ _ _ _ _ _ u l=>match u,l with | [_,_,_,_],_=>rfl
 x__law_ring:=FX.mk' X G (a:=393) (c:=392) (md:=TJ) z_ z_ z_ z_ λ_ _ _ _ _ _ u l=>match u,l with | [_,_,_,_],_=>rfl
 x__law_parts:=FX.mk' X G (a:=400) (c:=399) (md:=TJ) z_ z_ z_ z_ λ_ _ _ _ _ _ u l=>match u,l with | [_,_],_=>rfl
 x__law_ties:=FX.mk' X G (a:=428) (c:=427) (md:=TJ) z_ z_ z_ z_ λ_ _ _ _ _ _ u l=>match u,l with | [_,_,_],_=>rfl
 x__law_minus:=FX.mk' X G (a:=414) (c:=413) (md:=TJ) z_ z_ z_ z_ λ_ _ _ _ _ _ u l=>match u,l with | [_,_],_=>rfl
 x__law_plus:=FX.mk' X G (a:=407) (c:=406) (md:=TJ) z_ z_ z_ z_ λ_ _ _ _ _ _ u l=>match u,l with | [_,_],_=>rfl
 x__law_loads:=FX.mk' X G (a:=435) (c:=434) (md:=TJ) z_ z_ z_ z_ λ_ _ _ _ _ _ u l=>match u,l with | [_,_],_=>rfl
 x__law_under:=FX.mk' X G (a:=421) (c:=420) (md:=TJ) z_ z_ z_ z_ λ_ _ _ _ _ _ u l=>match u,l with | [_,_],_=>rfl
 x__law_greatest:=FX.mk' X G (a:=463) (c:=462) (md:=TJ) z_ z_ z_ z_ λ_ _ _ _ _ _ u l=>match u,l with | [_,_],_=>rfl
 x__law_parted:=FX.mk' X G (a:=442) (c:=441) (md:=TJ) z_ z_ z_ z_ λ_ _ _ _ _ _ u l=>match u,l with | [_,_],_=>rfl
 x__law_holds:=FX.mk' X G (a:=489) (c:=488) (md:=TJ) z_ z_ z_ z_ λ_ _ _ _ _ _ u l=>match u,l with | [_,_,_,_],_=>rfl
 x__law_gone:=FX.mk' X G (a:=449) (c:=448) (md:=TJ) z_ z_ z_ z_ λ_ _ _ _ _ _ u l=>match u,l with | [_,_,_,_],_=>rfl
 x__law_drawn:=FX.mk' X G (a:=456) (c:=455) (md:=TJ) z_ z_ z_ z_ λ_ _ _ _ _ _ u l=>match u,l with | [_,_,_],_=>rfl
 x__law_let_by:=FX.mk' X G (a:=470) (c:=469) (md:=TJ) z_ z_ z_ z_ λ_ _ _ _ _ _ u l=>match u,l with | [_,_,_],_=>rfl
 x__law_some_slides:=FX.mk' X G (a:=477) (c:=476) (md:=TJ) z_ z_ z_ z_ λ_ _ _ _ _ _ u l=>match u,l with | [_,_,_],_=>rfl
 x__law_some_ways:=FX.mk' X G (a:=484) (c:=483) (md:=TJ) z_ z_ z_ z_ λ_ _ _ _ _ _ u l=>match u,l with | [_,_,_],_=>rfl
 x_law:=FX.mk' X G (a:=496) (c:=495) (md:=TJ) z_ z_ z_ z_ λ_ _ _ _ _ _ u l=>match u,l with | [_],_=>rfl
 li:=CM.mk' X G z_ z_ z_ z_ z_ z_ z_ λ_ _ _ _ _ _ u l=>match u,l with | [_,_],_=>rfl
 i_NoSlide:=ub (oc:=.type "function") (od:=none) (osl:=#[]) z_ z_ z_
 c_NoSlide:=XT.mk' X G z_ z_ z_ ((ub (x:="__init__") (qual:="NoSlide.__init__") (st:=gZ) (f:=55) (oc:=.type "function") (od:=none) (osl:=#[]) z_ z_ z_).binds λ_ _ _ _ _ _ u l=>match u,l with | [_,_],_=>rfl) z_ z_
 h_NoSlide:=XH.mk' X G z_ z_ z_ z_
 z_ValueError:=Ux X G z_
 z_abs:=Ux X G z_
 z_all:=Ux X G z_
 z_any:=Ux X G z_
 z_bool:=Ux X G z_
 z_enumerate:=Ux X G z_
 z_int:=Ux X G z_
 z_isinstance:=Ux X G z_
 z_len:=Ux X G z_
 z_list:=Ux X G z_
 z_max:=Ux X G z_
 z_min:=Ux X G z_
 z_range:=Ux X G z_
 z_sorted:=Ux X G z_
 z_str:=Ux X G z_
 z_tuple:=Ux X G z_
 z_zip:=Ux X G z_
 g_BACK:=zK (PySem.W.mg_of X G (v:=(.str "back" 396)) z_)
 g_HALF:=zJ (PySem.W.mg_of X G (v:=.ref 271) z_) (show(Hd.Kf Pm).lookup 271=some (Obj.mk (.type "tuple") none (.seq #[(.int 1 536),(.int 2 537)] 0) #[]) by kernel_rfl) ⟨_,_,[L2.V.int 1,L2.V.int 2],_,rfl,rfl,rfl,x_,(.cons ⟨_,rfl⟩ (.cons ⟨_,rfl⟩ .nil)),λK H=>(.cons (.int _) (.cons (.int _) .nil))⟩
 g_NOUGHT:=zJ (PySem.W.mg_of X G (v:=.ref 89) z_) (show(Hd.Kf Pm).lookup 89=some (Obj.mk (.type "tuple") none (.seq #[(.int 0 284),(.int 1 285)] 0) #[]) by kernel_rfl) ⟨_,_,[L2.V.int 0,L2.V.int 1],_,rfl,rfl,rfl,x_,(.cons ⟨_,rfl⟩ (.cons ⟨_,rfl⟩ .nil)),λK H=>(.cons (.int _) (.cons (.int _) .nil))⟩
 g_ON:=zK (PySem.W.mg_of X G (v:=(.str "on" 394)) z_)
theorem walkF(w:World)(mg:Str→Option Value)(fa:Addr)(h:Heap)(X:(Hd.Kf w.params).In h)(G:h.Ns mainGlobals mg) (hmg:mg "law"=some (.ref fa)) :
  ∃ fd:FuncData,(∀(s:Shared)(u:Value),BindsTo s fd ⟨[u],[]⟩ [("_law_script",u)])∧∀ base:Heap,(Hd.Kf w.params).In base→base.Ns mainGlobals mg→FnOk PySem.Challenge.pw_ringloads_k38_whole_roundings_hold w (Hd.Kf w.params) mg base CX0 10 fa fd ["_law_script"] (spF (Hd.Kf w.params) 1 fs_law):=by
 have T:=tx X G
 have e:=hmg.symm.trans T.x_law.m
 cases e
 exact⟨_,fun s v=>.of_eq rfl,fun base _ _=>MD T⟩
theorem tabR(w:World):∀x∈L2.lamNames,PySem.W.tabIn (Hd.Kf w.params) x=none∨((PyProof.Rows.recsOf Hd.q).find? λe=>e.name == x).isSome=true:=by
 intro x hx;simp only[L2.lamNames,Ue,VN,or_false]at hx;rcases hx with rfl|rfl|rfl
 . exact .inl z_
 . exact .inr z_
 . exact .inl z_
theorem walk{l:PySem.W.OpenLaw}{q:Program}{loose:List Str}{XP:(Str->Option Value)->Heap->Prop}{YP:World->Heap->Prop}{d:DefRec}{K:Params->PySem.W.Frag}(hn:l.most=some 63)(hq:PyProof.Rows.importsNone q=true)(hdf:d.params.defaults=[])
  (hY:∀(w:World)(h:Heap),YP w h->(K w.params).In h) (hto:∀w:World,L2.tabsOk (K w.params)=true) (hrc:∀(w:World),∀x∈L2.lamNames,PySem.W.tabIn (K w.params) x=none∨((PyProof.Rows.recsOf q).find? λe=>e.name == x).isSome=true)
  (F:∀(w:World)(mg:Str->Option Value)(fa:Addr)(h:Heap),(K w.params).In h->h.Ns mainGlobals mg->mg d.name=some (.ref fa) ->
   ∃ fd:FuncData,(∀(s:Shared)(u:Value),BindsTo s fd ⟨[u],[]⟩ [("_law_script",u)])/\∀ base:Heap,(K w.params).In base->base.Ns mainGlobals mg->FnOk l.prog w (K w.params) mg base CX0 10 fa fd ["_law_script"] (spF (K w.params) 1 fs_law)) :
  PySem.W.WalkO q loose XP YP l.row.toRowW d [] (λf vs=>PySem.call f vs) :=
 L2.walk_of (n:=63) (k:=10) (x:="_law_script") (CX:=λ_=>CX0) (sp:=λw=>spF (K w.params) 1 fs_law) hn hq x_ hdf ⟨rfl,x_,x_,rfl⟩ hY hto hrc F (λ_ H a ns hl hO hS=>Cr hl hO hS (D9 hl)) λ_ _ _ _ _ z=>z
end My
open PySem PySem.W PyProof.Rows
noncomputable abbrev PySem.W.Fast.tw7042793342740318234:PySem.Program:=PySem.Challenge.pw_ringloads_k38_whole_roundings_hold
theorem PySem.W.Fast.te7042793342740318234:PySem.Challenge.pw_ringloads_k38_whole_roundings_hold=PySem.W.Fast.tw7042793342740318234:=rfl
set_option maxRecDepth 100000 in
theorem PySem.Challenge.cw_ringloads_k38_whole_roundings_hold_holds : PySem.Challenge.rw_ringloads_k38_whole_roundings_hold.Holds := by
 w_on;o_law
 refine PySem.W.holds_open (q:=Hd.q) (loose:=Hd.loose) (Xt:=Hd.Xt) (XP:=XL Hd.q []) (Yf:=Hook.obs Hd.Hk) (Ya:=Hook.val Hd.Hk) (YP:=Hook.says Hd.Hk) (N:=_) Hd.left (Hook.of Hd.Hk) (Hook.keeps Hd.Hk) (fun s e=>xl_of s (V0.mp e).1) XL.keeps (by rfl) (by rfl) (by rfl) (fun s e=>recFacts_of (V0.mp e).2) (by rfl) (by assumption) y_ ⟨rfl,rfl,rfl,rfl,rfl,y_⟩ ?hw ?hc
 case hw=>w_witness2
 case hc=>exact My.walk (l:=PySem.Challenge.rw_ringloads_k38_whole_roundings_hold) (K:=Hd.Kf) rfl y_ rfl (fun w h Y=>PySem.W.kIn_of Y) (fun w=>by kernel_rfl) My.tabR My.walkF