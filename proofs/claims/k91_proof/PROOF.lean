import PyProof.Rows.All
import Wide.All
import OpenK.AllK
import Wide.FinOn
import Lean
import PyProof.EqAt
import PyProof.EqKinds
import PyProof.TupleCall
import PyProof.ExcArgs
import KE.KSortKey
import KE.KIsAll
import PyProof.ExcInit
import PyProof.StationsW
import PyProof.NsDelKeeps
import PyProof.RulesAs
import PyProof.PassesOwn
import PyProof.ExcBaseAll.ValueError
import PyProof.InstStoreFacts
import PyProof.Rows.EqDataRows
import PyProof.ReprRoads
import PyProof.Rows.Range3
import PyProof.ConsumeWalk
import PyProof.FString5
import PyProof.ReprLen
import PyProof.Rows.TupAdd
import PyProof.Rows.RuleIs
import PyProof.ListNew
import KE.KRevIter
import PyProof.Rows.SeqMore2
import PyProof.ListRange
import KE.KEqDict
import PyProof.NeKinds
import PyProof.CallStr
import PyProof.ListMulAny
import PyProof.Rows.SetFrom
import PyProof.SetRoads
import KE.KSortTup
import PySem.Challenge.RW_ringloads_k91_whole_sendings_rounded
set_option Elab.async false
set_option linter.all false
set_option maxRecDepth 100000
set_option maxHeartbeats 0
theorem z_ {α:Sort _} {a b:α} (h:a=b:=by kernel_rfl):a=b:=h
theorem y_ {p:Prop} [Decidable p] (h:decide p=true:=by decide +kernel):p:=of_decide_eq_true h
theorem x_ {p:Prop} [Decidable p] (h:decide p=true:=by decide):p:=of_decide_eq_true h
theorem xL{p:Prop}(h:p:=by omega):p:=h
theorem v6{p:Prop}(h:p:=by simp):p:=h
section
open PySem PySem.Spec PyProof.Rows PySem.W
theorem tu:type_of% @List.getElem?_eq_getElem:=@List.getElem?_eq_getElem
theorem UW:type_of% @List.mem_cons_of_mem:=@List.mem_cons_of_mem
theorem UX:type_of% @wpAny_bind:=@wpAny_bind
theorem UY:type_of% @Heap.get?_push_of_some:=@Heap.get?_push_of_some
theorem UZ:type_of% @List.mem_cons_self:=@List.mem_cons_self
theorem U0:type_of% @List.getD_eq_getElem?_getD:=@List.getD_eq_getElem?_getD
theorem U1:type_of% @List.getElem?_eq_some_iff:=@List.getElem?_eq_some_iff
theorem U2:type_of% @Nat.lt_of_lt_of_le:=@Nat.lt_of_lt_of_le
theorem U3:type_of% @List.getElem_mem:=@List.getElem_mem
theorem U4:type_of% @List.length_map:=@List.length_map
theorem U5:type_of% @decide_eq_true_eq:=@decide_eq_true_eq
theorem U6:type_of% @Heap.lt_size:=@Heap.lt_size
theorem U7:type_of% @Bool.and_eq_true:=@Bool.and_eq_true
theorem U8:type_of% @Nat.le_trans:=@Nat.le_trans
theorem U9:type_of% @wpAny_pure:=@wpAny_pure
theorem Va:type_of% @decide_eq_false:=@decide_eq_false
theorem Vb:type_of% @Nat.le_refl:=@Nat.le_refl
theorem Vc:type_of% @List.mem_cons:=@List.mem_cons
theorem Vd:type_of% @List.size_toArray:=@List.size_toArray
theorem Ve:type_of% @Nat.lt_of_le_of_lt:=@Nat.lt_of_le_of_lt
theorem Vf:type_of% @List.getElem?_map:=@List.getElem?_map
theorem Vg:type_of% @Nat.pow_le_pow_right:=@Nat.pow_le_pow_right
theorem Vh:type_of% @List.mem_append_left:=@List.mem_append_left
theorem Vi:type_of% @List.mem_append_right:=@List.mem_append_right
theorem Vj:type_of% @Int.natAbs_natCast:=@Int.natAbs_natCast
theorem Vk:type_of% @PassesOwn.never:=@PassesOwn.never
theorem Vl:type_of% @List.mem_range:=@List.mem_range
theorem Vm:type_of% @decide_eq_true:=@decide_eq_true
theorem Vn:type_of% @Heap.get?_push_size:=@Heap.get?_push_size
theorem Vo:type_of% @List.map_cons:=@List.map_cons
theorem Vp:type_of% @Nat.ne_of_lt:=@Nat.ne_of_lt
theorem Vq:type_of% @Option.some.inj:=@Option.some.inj
theorem Vr:type_of% @List.getElem?_append_right:=@List.getElem?_append_right
theorem Vs:type_of% @PySem.W.mg_none_of:=@PySem.W.mg_none_of
theorem Vt:type_of% @Bool.false_ne_true:=@Bool.false_ne_true
theorem Vu:type_of% @List.length_range:=@List.length_range
theorem Vv:type_of% @List.nodup_append:=@List.nodup_append
theorem Vw:type_of% @Nat.add_sub_cancel_left:=@Nat.add_sub_cancel_left
theorem Vx:type_of% @List.mem_append:=@List.mem_append
theorem Vy:type_of% @List.length_zip:=@List.length_zip
theorem Vz:type_of% @Option.some.injEq:=@Option.some.injEq
theorem VA:type_of% @List.getElem?_set_self:=@List.getElem?_set_self
theorem VB:type_of% @Int.toNat_natCast:=@Int.toNat_natCast
theorem VC:type_of% @List.nodup_cons:=@List.nodup_cons
theorem VD:type_of% @List.drop_eq_getElem_cons:=@List.drop_eq_getElem_cons
theorem VE:type_of% @Rat.num_divInt_den:=@Rat.num_divInt_den
theorem VF:type_of% @List.getElem_of_mem:=@List.getElem_of_mem
theorem VG:type_of% @List.replicate_succ:=@List.replicate_succ
theorem VH:type_of% @List.getElem?_set_ne:=@List.getElem?_set_ne
theorem VI:type_of% @List.all_eq_true:=@List.all_eq_true
theorem VJ:type_of% @List.lookup_cons:=@List.lookup_cons
theorem VL:type_of% @List.length_append:=@List.length_append
theorem VM:type_of% @List.map_map:=@List.map_map
theorem VN:type_of% @Heap.get?_update_other:=@Heap.get?_update_other
theorem VO:type_of% @List.mem_map:=@List.mem_map
theorem VP:type_of% @beq_eq_false_iff_ne:=@beq_eq_false_iff_ne
theorem VQ:type_of% @List.getElem?_append_left:=@List.getElem?_append_left
theorem VR:type_of% @List.append_nil:=@List.append_nil
theorem VS:type_of% @wpAny_loadPart_at:=@wpAny_loadPart_at
theorem VT:type_of% @List.append_assoc:=@List.append_assoc
theorem VU:type_of% @List.take_of_length_le:=@List.take_of_length_le
theorem VV:type_of% @PyProof.Rows.callWith_type1:=@PyProof.Rows.callWith_type1
theorem VW:type_of% @List.perm_append_comm:=@List.perm_append_comm
theorem VX:type_of% @Ne.symm:=@Ne.symm
theorem VY:type_of% @List.zip_append:=@List.zip_append
theorem VZ:type_of% @decide_eq_false_iff_not:=@decide_eq_false_iff_not
theorem V0:type_of% @Int.fmod_eq_emod_of_nonneg:=@Int.fmod_eq_emod_of_nonneg
theorem V1:type_of% @List.getElem_zip:=@List.getElem_zip
theorem V2:type_of% @wpAny_Call_Name_kw:=@wpAny_Call_Name_kw
theorem V3:type_of% @List.mem_filter:=@List.mem_filter
theorem V4:type_of% @exists_eq_left':=@exists_eq_left'
theorem V5:type_of% @List.length_cons:=@List.length_cons
theorem V6:type_of% @List.filterMap_cons:=@List.filterMap_cons
theorem V7:type_of% @wpAny_mono:=@wpAny_mono
theorem V8:type_of% @List.length_filter_le:=@List.length_filter_le
theorem V9:type_of% @wpAny_truthy_bool:=@wpAny_truthy_bool
theorem Wa:type_of% @Rat.sub_eq_add_neg:=@Rat.sub_eq_add_neg
theorem Wb:type_of% @List.map_append:=@List.map_append
theorem Wc:type_of% @List.length_set:=@List.length_set
theorem Wd:type_of% @List.filter_cons:=@List.filter_cons
theorem We:type_of% @List.sublist_append_right:=@List.sublist_append_right
theorem Wf:type_of% @PySem.mem_of_lookup:=@PySem.mem_of_lookup
theorem Wg:type_of% @Heap.get?_update_self:=@Heap.get?_update_self
theorem Wh:type_of% @Rat.divInt_mul_divInt:=@Rat.divInt_mul_divInt
theorem Wi:type_of% @wpAny_holding:=@wpAny_holding
theorem Wj:type_of% @Int.natAbs_mul:=@Int.natAbs_mul
theorem Wk:type_of% @List.nil_append:=@List.nil_append
theorem Wl:type_of% @Bool.false_eq_true:=@Bool.false_eq_true
theorem Wm:type_of% @List.zip_cons_cons:=@List.zip_cons_cons
theorem Wn:type_of% @Nat.zero_le:=@Nat.zero_le
theorem Wo:type_of% @List.ext_getElem:=@List.ext_getElem
theorem Wp:type_of% @List.length_take:=@List.length_take
theorem Wq:type_of% @Nat.lt_irrefl:=@Nat.lt_irrefl
theorem Wr:type_of% @Bool.not_eq_true':=@Bool.not_eq_true'
theorem Ws:type_of% @List.map_congr_left:=@List.map_congr_left
theorem Wt:type_of% @PySem.W.kia_one:=@PySem.W.kia_one
theorem Wu:type_of% @List.getElem?_eq_none:=@List.getElem?_eq_none
theorem Wv:type_of% @List.contains_cons:=@List.contains_cons
theorem Ww:type_of% @List.length_drop:=@List.length_drop
theorem Wx:type_of% @Bool.true_and:=@Bool.true_and
theorem Wy:type_of% @Nat.le_of_dvd:=@Nat.le_of_dvd
theorem Wz:type_of% @Bool.false_and:=@Bool.false_and
theorem WA:type_of% @List.flatten_cons:=@List.flatten_cons
theorem WB:type_of% @List.length_eq_zero_iff:=@List.length_eq_zero_iff
theorem WC:type_of% @Int.eq_ofNat_of_zero_le:=@Int.eq_ofNat_of_zero_le
theorem WD:type_of% @wpAny_newObj_type:=@wpAny_newObj_type
theorem WE:type_of% @beq_iff_eq:=@beq_iff_eq
theorem WG:type_of% @Bool.eq_iff_iff:=@Bool.eq_iff_iff
theorem WH:type_of% @List.getElem?_range:=@List.getElem?_range
theorem WI:type_of% @Fast.te14364793385576792824:=@Fast.te14364793385576792824
theorem WJ:type_of% @Rat.le_trans:=@Rat.le_trans
theorem WK:type_of% @List.set_set:=@List.set_set
theorem WL:type_of% @List.any_cons:=@List.any_cons
theorem WM:type_of% @decide_eq_decide:=@decide_eq_decide
theorem WN:type_of% @Nat.le_add_right:=@Nat.le_add_right
theorem WO:type_of% @List.not_mem_nil:=@List.not_mem_nil
theorem WQ:type_of% @List.mem_filterMap:=@List.mem_filterMap
theorem WR:type_of% @List.mem_singleton:=@List.mem_singleton
theorem WS:type_of% @List.pairwise_cons:=@List.pairwise_cons
theorem WT:type_of% @List.set_append_right:=@List.set_append_right
theorem WU:type_of% @wpAny_passesOwn:=@wpAny_passesOwn
theorem WV:type_of% @wpAny_execs_nil:=@wpAny_execs_nil
theorem WW:type_of% @Bool.and_eq_true_iff:=@Bool.and_eq_true_iff
theorem WX:type_of% @if_false:=@if_false
theorem WY:type_of% @codeAny_call_builtin:=@codeAny_call_builtin
theorem WZ:type_of% @sizeLine_eq:=@sizeLine_eq
theorem W0:type_of% @List.Sublist.refl:=@List.Sublist.refl
theorem W1:type_of% @wpAny_field:=@wpAny_field
theorem W2:type_of% @wpAny_standAt:=@wpAny_standAt
theorem W3:type_of% @Rat.not_lt:=@Rat.not_lt
theorem W4:type_of% @Bool.or_false:=@Bool.or_false
theorem W5:type_of% @if_true:=@if_true
theorem W6:type_of% @List.drop_length:=@List.drop_length
theorem W7:type_of% @List.getElem_map:=@List.getElem_map
theorem W8:type_of% @List.cons_append:=@List.cons_append
theorem W9:type_of% @Rat.le_refl:=@Rat.le_refl
theorem Xa:type_of% @Nat.le_of_lt:=@Nat.le_of_lt
theorem Xb:type_of% @Nat.mod_lt:=@Nat.mod_lt
theorem Xd:type_of% @Int.mul_ne_zero:=@Int.mul_ne_zero
theorem Xe:type_of% @wpAny_call:=@wpAny_call
end
namespace L2
open PySem PySem.Spec PyProof.Rows
noncomputable abbrev P9:=Sum Int Str
noncomputable def A8:P9->Value->Bool
 |.inl k,v=>Value.isInt k v
 |.inr x,v=>Value.isStrOf x v
noncomputable def Pd(w:World):P9->Int
 |.inl k=>hashInt k
 |.inr x=>hashStr w x
theorem bX:∀{k:P9}{v:Value},A8 k v=true->(∃i t,k=Sum.inl i/\v=Value.int i t)∨(∃x t,k=Sum.inr x/\v=Value.str x t)
 | .inl i,v,h=>by obtain⟨t,e⟩:=Value.isInt_shape (k:=i) (v:=v) h;exact .inl ⟨i,t,rfl,e⟩
 | .inr x,v,h=>by obtain⟨t,e⟩:=Value.isStrOf_shape (x:=x) (v:=v) h;exact .inr ⟨x,t,rfl,e⟩
theorem Ce(i:Int)(t:Tok):A8 (.inl i) (.int i t)=true:=by simp[A8,Value.isInt]
theorem Cf(x:Str)(t:Tok):A8 (.inr x) (.str x t)=true:=by simp[A8,Value.isStrOf]
theorem K7(a b:Int):decide ((Sum.inl a:P9)=Sum.inl b)=(a == b):=by
 by_cases e:a=b
 . subst e;simp
 . have h:¬(Sum.inl a:P9)=Sum.inl b:=λq=>e (Sum.inl.inj q);rw[Va h];exact(VP.mpr e).symm
theorem K8(a b:Str):decide ((Sum.inr a:P9)=Sum.inr b)=decide (a=b):=by
 by_cases e:a=b
 . subst e;simp
 . have h:¬(Sum.inr a:P9)=Sum.inr b:=λq=>e (Sum.inr.inj q);rw[Va h,Va e]
theorem K9(a:Int)(b:Str):decide ((Sum.inl a:P9)=Sum.inr b)=false:=Va (λq=>nomatch q)
theorem La(a:Str)(b:Int):decide ((Sum.inr a:P9)=Sum.inl b)=false:=Va (λq=>nomatch q)
noncomputable def oh(prog:Program)(w:World):PySem.KeyKind prog w P9 where
 is:=A8
 hash:=Pd w
 inj:=λv a b ha hb=>by
  rcases bX ha with⟨i,t,rfl,rfl⟩|⟨x,t,rfl,rfl⟩
  .
   rcases bX hb with⟨j,u,rfl,e⟩|⟨y,u,rfl,e⟩
   . injection e with e1 _;rw[e1]
   . exact nomatch e
  .
   rcases bX hb with⟨j,u,rfl,e⟩|⟨y,u,rfl,e⟩
   . exact nomatch e
   . injection e with e1 _;rw[e1]
 byValue:=λk v h=>by rcases bX h with⟨i,t,rfl,rfl⟩|⟨x,t,rfl,rfl⟩<;>rfl
 pyHash:=λhv h=>by
  rcases bX hv with⟨i,t,rfl,rfl⟩|⟨x,t,rfl,rfl⟩
  . exact wpAny_pyHash_int h
  . exact wpAny_pyHash_str h
 eqBool:=λhu hv h=>by
  rcases bX hu with⟨i,t,rfl,rfl⟩|⟨x,t,rfl,rfl⟩
  .
   rcases bX hv with⟨j,u,rfl,rfl⟩|⟨y,u,rfl,rfl⟩
   . rw[K7]at h;exact wpAny_eqBool_int h
   . rw[K9]at h;exact SeqAt.EqAt.int_str i t y u _ _ _ _ h
  .
   rcases bX hv with⟨j,u,rfl,rfl⟩|⟨y,u,rfl,rfl⟩
   . rw[La]at h;exact SeqAt.EqAt.str_int x t j u _ _ _ _ h
   . rw[K8]at h;exact wpAny_eqBool_str h
 «strs»:=λk x t v h=>by
  rcases bX h with⟨i,u,rfl,e⟩|⟨y,u,rfl,e⟩
  . exact nomatch e
  . injection e with e1 _;subst e1;cases v<;>rfl
theorem yf(prog:Program)(w:World)(i:Int)(t:Tok):(oh prog w).is (.inl i) (.int i t)=true:=Ce i t
theorem yg(prog:Program)(w:World)(x:Str)(t:Tok):(oh prog w).is (.inr x) (.str x t)=true:=Cf x t
inductive V where
 |non|bl (b:Bool)|int (i:Int)|str (x:Str)|byt (b:Array UInt8)|flt (b:UInt64)|ref (a:Addr)|ty (n:String)
 deriving DecidableEq
def cu:V->Value->Prop
 |.non,u=>u=Value.none
 |.bl b,u=>u=Value.bool b
 |.int i,u=>∃t,u=Value.int i t
 |.str x,u=>∃t,u=Value.str x t
 |.byt b,u=>∃t,u=Value.bytes b t
 |.flt b,u=>∃t,u=Value.float b t
 |.ref a,u=>u=Value.ref a
 |.ty n,u=>u=Value.type n
abbrev bT:List V->List Value->Prop:=Paired cu
theorem bT.length{xs:List V}{us:List Value}(r:bT xs us):xs.length=us.length:=Paired.length r
theorem bT.get:∀{xs:List V}{us:List Value}{i:Nat}{x:V},bT xs us->xs[i]?=some x->∃u,us[i]?=some u/\cu x u
 |_,_,_,_,.nil,e=>by simp at e
 |_,_,0,_,.cons r _,e=>by simp at e;subst e;exact⟨_,rfl,r⟩
 | _,_,i+1,x,.cons _ t,e=>by obtain⟨u,h1,h2⟩:=bT.get (i:=i) (x:=x) t (by simpa using e);exact⟨u,by simpa using h1,h2⟩
theorem bT.set{x:V}{u:Value}(r:cu x u):∀{xs:List V}{us:List Value}(i:Nat),bT xs us->bT (xs.set i x) (us.set i u)
 |_,_,_,.nil=>.nil
 |_,_,0,.cons _ t=>.cons r t
 |_,_,i+1,.cons q t=>.cons q (bT.set r i t)
theorem bT.append:∀{xs ys:List V}{us ws:List Value},bT xs us->bT ys ws->bT (xs++ys) (us++ws)
 |_,_,_,_,.nil,s=>s
 |_,_,_,_,.cons r t,s=>.cons r (bT.append t s)
theorem bT.take:∀{xs:List V}{us:List Value}(n:Nat),bT xs us->bT (xs.take n) (us.take n)
 |_,_,0,_=>.nil
 |_,_,_+1,.nil=>.nil
 |_,_,n+1,.cons r t=>.cons r (bT.take n t)
theorem bT.drop:∀{xs:List V}{us:List Value}(n:Nat),bT xs us->bT (xs.drop n) (us.drop n)
 |_,_,0,r=>r
 |_,_,_+1,.nil=>.nil
 |_,_,n+1,.cons _ t=>bT.drop n t
def Hy:Option V->Option Value->Prop
 |some v,some u=>cu v u
 |none,none=>True
 |_,_=>False
def KV{κ:Type}:List (κ×V)->List (κ×Value)->Prop:=Paired λ(p:κ×V) (q:κ×Value)=>p.1=q.1/\cu p.2 q.2
noncomputable def kV:P9->V
 |.inl i=>.int i
 |.inr x=>.str x
inductive HO where
 |lst (xs:List V)
 |tup (xs:List V)
 |dK (kvs:List (P9×V))|dT (kvs:List (List P9×V))
 |set (S:Int->Bool) (n:Nat)
 |ins (C dx:Addr) (fs:List (Str×V))
 |own (x:Addr)
 |xd (fs:List (Str×V))
 |met (f x:Addr)
 |rng (lo hi:Int)
 |frz (o:Obj) (u:HO)
 |tbl (q:Str)
 |ext (φ:Heap->Prop)
noncomputable abbrev Hp:=Addr->Option HO
noncomputable def Qa(H:Hp)(a:Addr)(o:HO):Hp:=λb=>if b=a then some o else H b
theorem aW{H:Hp}{a:Addr}{o:HO}:Qa H a o a=some o:=by unfold Qa;rw[if_pos rfl]
theorem ax{H:Hp}{a b:Addr}{o:HO}(h:b≠a):Qa H a o b=H b:=by unfold Qa;rw[if_neg h]
theorem bf{H:Hp}{a b:Addr}{o:HO}(h:H a=some o)(h':H b=none):a≠b:=by intro e;subst e;rw[h]at h';cases h'
def pD(oc:Obj)(q:Str):Prop:=∃vs t,oc.data=.fields vs/\vs[1]?=some (.str q t)
section
variable(P:Program)(w:World)
def d6(H:Hp)(h:Heap)(a:Addr):HO->Prop
 |.lst xs=>xs.length<=sizeLine/\∃(its:List Value)(n:Nat),bT xs its/\h.get? a=some {cls:=.type "list",data:=.seq its.toArray n}
 |.tup xs=>xs.length<=sizeLine/\∃its:List Value,bT xs its/\IsTup h a its.toArray
 |.dK kvs=>kvs.length<=sizeLine/\(a == sysModules)=false/\∃vs,KV kvs vs/\h.DictOf (oh P w) a vs
 | .dT kvs=>kvs.length<=sizeLine/\(a == sysModules)=false/\∃xs:List (List P9×Addr×Value),
   Paired (λ(p:List P9×V) (q:List P9×Addr×Value)=>p.1=q.1/\H q.2.1=some (.tup (p.1.map kV))/\cu p.2 q.2.2) kvs xs /\
   ∃o es ep,h.get? a=some o/\o.ExactDict/\o.data=.dict es ep/\es.toList=xs.map (entryOfKey (tupleKind (oh P w)))/\(xs.map (·.1)).Nodup
 |.set S n=>h.SetOf (intKind P w) a S n
 | .ins C dx fs=>H dx=some (.own a)/\fs.length<=1000/\dx≠a/\h.get? a=some (PySem.W.instObj C dx) /\
   ∃mA,h.Ns1 dx mA/\(∀f,Hy (fs.lookup f) (mA f))/\PySem.Within mA (fs.map (·.1))
 |.own _=>∃o,h.get? a=some o
 |.xd fs=>∃mA,h.Ns1 a mA/\∀f,Hy (fs.lookup f) (mA f)
 |.rng lo hi=>∃ t u v,h.get? a=some {cls:=.type "range",data:=.fields #[.int lo t,.int hi u,.int 1 v] }
 |.frz o u=>h.get? a=some o/\d6 H h a u
 |.tbl q=>∃ps:Array Value,h.get? a=some {cls:=.none,data:=.fields ps}/\TriplesOk ps.toList/\∀pos cv,codeAmong pos ps.toList=some cv->∃c' oc,cv=.ref c'/\H c'=some (.frz oc (.own c'))/\pD oc q
 |.met f x=>h.get? a=some (PySem.W.methodObj (.ref f) (.ref x))
 |.ext φ=>φ h/\(∃o,h.get? a=some o)/\∀h1 h2:Heap,φ h1->(∀o,h1.get? a=some o->h2.get? a=some o)->φ h2
def Qb(H:Hp)(h:Heap):Prop:=∀a o,H a=some o->d6 P w H h a o
end
section
variable{P:Program}{w:World}{H H':Hp}{h h':Heap}{a:Addr}{o:HO}
theorem d6.lt(x:d6 P w H h a o):a<h.objs.size:=by
 cases o with
 |lst xs=>obtain⟨_,_,_,_,e⟩:=x;exact U6 e
 |tup xs=>obtain⟨_,_,_,p⟩:=x;exact p.lt
 |dK kvs=>obtain⟨_,_,_,_,o,_,_,e,_⟩:=x;exact U6 e
 |dT kvs=>obtain⟨_,_,_,_,o,_,_,e,_⟩:=x;exact U6 e
 |set S n=>obtain⟨o,_,_,_,e,_⟩:=x;exact U6 e
 |ins C dx fs=>obtain⟨_,_,_,e,_⟩:=x;exact U6 e
 |own y=>obtain⟨_,e⟩:=x;exact U6 e
 |xd fs=>obtain⟨_,⟨_,_,_,e,_⟩,_⟩:=x;exact U6 e
 |rng lo hi=>obtain⟨_,_,_,e⟩:=x;exact U6 e
 |frz ob u=>obtain⟨e,_⟩:=x;exact U6 e
 |tbl q=>obtain⟨_,e,_⟩:=x;exact U6 e
 |met f y=>exact U6 (show h.get? a=some _ from x)
 |ext φ=>obtain⟨_,⟨_,e⟩,_⟩:=x;exact U6 e
theorem Paired.mapP{α β:Type}{F G:α->β->Prop}:∀{l₁:List α}{l₂:List β},Paired F l₁ l₂->(∀a b,F a b->G a b)->Paired G l₁ l₂
 |_,_,.nil,_=>.nil
 |_,_,.cons r t,f=>.cons (f _ _ r) (Paired.mapP t f)
theorem d6.stay(x:d6 P w H h a o)(k:∀b u,(b=a∨H b=some (.own a))->h.get? b=some u->h'.get? b=some u)
  (ho:∀b,H b=some (.own a)->H' b=some (.own a)) (ht:∀b xs,H b=some (.tup xs)->H' b=some (.tup xs)) (hf:∀b o q,pD o q->H b=some (.frz o (.own b))->H' b=some (.frz o (.own b))):d6 P w H' h' a o:=by
 induction o with
 |lst xs=>obtain⟨z,its,n,r,e⟩:=x;exact⟨z,its,n,r,k _ _ (.inl rfl) e⟩
 |tup xs=>obtain⟨z,its,r,ob,e,c⟩:=x;exact⟨z,its,r,ob,k _ _ (.inl rfl) e,c⟩
 |dK kvs=>obtain⟨z,y,vs,r,ob,es,ep,e,c⟩:=x;exact⟨z,y,vs,r,ob,es,ep,k _ _ (.inl rfl) e,c⟩
 | dT kvs =>
  obtain⟨z,y,xs,r,ob,es,ep,e,c⟩:=x;exact⟨z,y,xs,Paired.mapP r λp q z=>⟨z.1,ht _ _ z.2.1,z.2.2⟩,ob,es,ep,k _ _ (.inl rfl) e,c⟩
 |set S n=>obtain⟨ob,es,ep,t,e,c⟩:=x;exact⟨ob,es,ep,t,k _ _ (.inl rfl) e,c⟩
 | ins C dx fs =>
  obtain⟨d,z,ne,e,mA,⟨od,es,ep,e2,c⟩,r⟩:=x;exact⟨ho _ d,z,ne,k _ _ (.inl rfl) e,mA,⟨od,es,ep,k _ _ (.inr d) e2,c⟩,r⟩
 |own y=>obtain⟨ob,e⟩:=x;exact⟨ob,k _ _ (.inl rfl) e⟩
 |xd fs=>obtain⟨mA,⟨od,es,ep,e,c⟩,r⟩:=x;exact⟨mA,⟨od,es,ep,k _ _ (.inl rfl) e,c⟩,r⟩
 |rng lo hi=>obtain⟨t,u,v,e⟩:=x;exact⟨t,u,v,k _ _ (.inl rfl) e⟩
 |frz ob u ih=>obtain⟨e,q⟩:=x;exact⟨k _ _ (.inl rfl) e,ih q⟩
 | tbl q =>
  obtain⟨ps,e,tr,m⟩:=x
  exact⟨ps,k a _ (.inl rfl) e,tr,λpos cv z=>let ⟨c',oc,a1,a2,a3⟩:=m pos cv z;⟨c',oc,a1,hf _ _ _ a3 a2,a3⟩⟩
 | met f y =>
  have e:h.get? a=some (PySem.W.methodObj (.ref f) (.ref y)):=x;show h'.get? a=some (PySem.W.methodObj (.ref f) (.ref y));exact k a _ (.inl rfl) e
 |ext φ=>obtain⟨p,⟨o,e⟩,st⟩:=x;exact⟨st _ _ p λo q=>k _ _ (.inl rfl) q,⟨o,k _ _ (.inl rfl) e⟩,st⟩
theorem Qb.lt(x:Qb P w H h)(e:H a=some o):a<h.objs.size:=(x a o e).lt
theorem Qb.fresh(x:Qb P w H h)(e:h.objs.size<=a):H a=none:=by
 cases q:H a with
 |none=>rfl
 |some u=>exact absurd (U2 (x.lt q) e) (Wq _)
theorem Qb.kept(x:Qb P w H h)(k:∀b u,h.get? b=some u->h'.get? b=some u):Qb P w H h':=λa o e =>
 (x a o e).stay (λb u _ q=>k b u q) (λ_ q=>q) (λ_ _ q=>q) λ_ _ _ _ q=>q
theorem Qb.laid(x:Qb P w H h)(k:∀b u,h.get? b=some u->h'.get? b=some u)(hp:h.objs.size<=a)(new:d6 P w (Qa H a o) h' a o):Qb P w (Qa H a o) h':=λb u e=>by
 have hn:=x.fresh hp;by_cases hb:b=a
 . subst hb;rw[aW]at e;cases e;exact new
 . rw[ax hb]at e;exact(x b u e).stay (λc v _ q=>k c v q) (λc q=>by rw[ax (bf q hn)];exact q) (λc xs q=>by rw[ax (bf q hn)];exact q) λc ob _ _ q=>by rw[ax (bf q hn)];exact q
end
def Rd(H:Hp)(a:Addr)(u:HO):Prop:=H a=some u∨∃o,H a=some (.frz o u)
theorem Rd.ok{P:Program}{w:World}{H:Hp}{h:Heap}{a:Addr}{u:HO}(r:Rd H a u)(x:Qb P w H h):d6 P w H h a u:=by
 rcases r with r|⟨o,r⟩
 . exact x a u r
 . obtain⟨_,q⟩:=x a _ r;exact q
def Qc:Option HO->Prop
 |some (.lst _)=>True
 |some (.dK _)=>True
 |some (.dT _)=>True
 |some (.set _ _)=>True
 |some (.ins _ _ _)=>True
 |some (.ext _)=>True
 |_=>False
section
variable{P:Program}{w:World}{H:Hp}{h h':Heap}{x e:Addr}{o':HO}
theorem Qb.write(ok:Qb P w H h)(mu:Qc (H x))(he:e=x∨H e=some (.own x))(k:∀b u,b≠e->h.get? b=some u->h'.get? b=some u)(heo:∃u,h'.get? e=some u)
  (new:d6 P w (Qa H x o') h' x o'):Qb P w (Qa H x o') h':=λb u q=>by
 have nown:∀c y,H c=some (.own y)->c≠x:=λc y r z=>by subst z;rw[r]at mu;exact mu
 have ntup:∀c xs,H c=some (.tup xs)->c≠x:=λc xs r z=>by subst z;rw[r]at mu;exact mu
 have nfrz:∀c o u,H c=some (.frz o u)->c≠x:=λc o u r z=>by subst z;rw[r]at mu;exact mu
 by_cases hb:b=x
 . subst hb;rw[aW]at q;cases q;exact new
 .
  rw[ax hb]at q;by_cases hbe:b=e
  .
   have q':H b=some (.own x):=by
    rcases he with z|z
    . exact absurd (hbe.trans z) hb
    . rw[hbe];exact z
   rw[q]at q';cases q';obtain⟨v,hv⟩:=heo;exact⟨v,by rw[hbe];exact hv⟩
  .
   refine(ok b u q).stay (λc v hc r=>k c v ?_ r) (λc r=>by rw[ax (nown c b r)];exact r) (λc xs r=>by rw[ax (ntup c xs r)];exact r) λc ob _ _ r=>by rw[ax (nfrz c ob _ r)];exact r
   rcases hc with rfl|hc
   . exact hbe
   .
    rintro rfl;rcases he with z|z
    . exact nown c b hc z
    . rw[hc]at z;cases z;exact hb rfl
end
structure Un (fs ex:List Addr) (H H':Hp) (h h':Heap):Prop where
 keep:∀b o,h.get? b=some o->H b=none->b∉fs->b∉ex->h'.get? b=some o
 slot:∀b o,h.get? b=some o->H b=none->b∈fs->b∉ex->∃sl,h'.get? b=some {o with slots:=sl}
 free:∀b o,h.get? b=some o->H b=none->b∉ex->H' b=none
 there:∀b o,h.get? b=some o->b∉ex->∃o',h'.get? b=some o'
 tups:∀b xs,H b=some (.tup xs)->H' b=some (.tup xs)
 frzs:∀b o u,H b=some (.frz o u)->H' b=some (.frz o u)
 tbls:∀b q,H b=some (.tbl q)->H' b=some (.tbl q)
section
variable{fs fs' ex ex':List Addr}{H H1:Hp}{h h1 h':Heap}{a x e:Addr}{o:HO}
theorem Un.any(u:Un fs ex H H1 h h1){b:Addr}{ob:Obj}(q:h.get? b=some ob)(n:H b=none)(hx:b∉ex):∃sl,h1.get? b=some {ob with slots:=sl}:=by
 by_cases hb:b∈fs
 . exact u.slot b ob q n hb hx
 . exact⟨ob.slots,u.keep b ob q n hb hx⟩
theorem Un.kept(k:∀b u,h.get? b=some u->h'.get? b=some u):Un fs ex H H h h' :=
 ⟨λb ob q _ _ _=>k b ob q,λb ob q _ _ _=>⟨ob.slots,k b ob q⟩,λ_ _ _ n _=>n,λb ob q _=>⟨ob,k b ob q⟩,λ_ _ q=>q,λ_ _ _ q=>q,λ_ _ q=>q⟩
theorem Un.refl:Un fs ex H H h h:=Un.kept λ_ _ q=>q
theorem Un.laid(k:∀b u,h.get? b=some u->h'.get? b=some u)(hp:h.objs.size<=a)(hn:H a=none):Un fs ex H (Qa H a o) h h' where
 keep:=λb u q _ _ _=>k b u q
 slot:=λb u q _ _ _=>⟨u.slots,k b u q⟩
 free:=λb u q n _=>by rw[ax (Vp (U2 (U6 q) hp))];exact n
 there:=λb u q _=>⟨u,k b u q⟩
 tups:=λb xs q=>by rw[ax (bf q hn)];exact q
 frzs:=λb u xs q=>by rw[ax (bf q hn)];exact q
 tbls:=λb ps q=>by rw[ax (bf q hn)];exact q
theorem Un.write(mu:Qc (H x))(he:e=x∨H e=some (.own x))(k:∀b u,b≠e->h.get? b=some u->h'.get? b=some u)(heo:∃u,h'.get? e=some u):Un fs ex H (Qa H x o) h h':=by
 have hx:∀b,H b=none->b≠x:=λb n z=>by subst z;rw[n]at mu;exact mu
 have hb:∀b,H b=none->b≠e:=λb n z=>by
  subst z;rcases he with r|r
  . exact hx b n r
  . rw[n]at r;cases r
 have hm:∀b u,H b=some u->¬Qc (some u)->b≠x:=λb u q nm z=>by subst z;rw[q]at mu;exact nm mu
 refine⟨λb u q n _ _=>k b u (hb b n) q,λb u q n _ _=>⟨u.slots,k b u (hb b n) q⟩,λb u q n _=>by rw[ax (hx b n)];exact n,λb u q _=>?_,
  λb xs q=>by rw[ax (hm b _ q λz=>z)];exact q,λb u xs q=>by rw[ax (hm b _ q λz=>z)];exact q,λb ps q=>by rw[ax (hm b _ q λz=>z)];exact q⟩
 by_cases hbe:b=e
 . subst hbe;exact heo
 . exact⟨u,k b u hbe q⟩
theorem Un.mono(u:Un fs ex H H1 h h1)(hs:∀b∈fs,b∈fs')(hx:∀b∈ex,b∈ex'):Un fs' ex' H H1 h h1 :=
 ⟨λb ob q n hb he=>u.keep b ob q n (λz=>hb (hs b z)) λz=>he (hx b z),λ_ _ q n _ he=>u.any q n λz=>he (hx _ z),λb ob q n he=>u.free b ob q n λz=>he (hx b z),λb ob q he=>u.there b ob q λz=>he (hx b z),u.tups,u.frzs,u.tbls⟩
end
noncomputable def Qd(h:Heap)(H:Hp):List Addr:=(List.range h.objs.size).filter λa=>(H a).isSome
noncomputable def Fh(h:Heap)(H:Hp):Heap:=PySem.W.hideAll h (Qd h H)
theorem Cg(h:Heap)(H:Hp):(Fh h H).objs.size=h.objs.size:=PySem.W.hideAll_size _ _
theorem Fi{h:Heap}{H:Hp}{b:Addr}{o:Obj}(e:h.get? b=some o)(n:H b=none):(Fh h H).get? b=some o :=
 PySem.W.hideAll_get _ e λhm=>by have q:(H b).isSome=true:=(V3.mp hm).2;rw[n]at q;simp at q
theorem Io{h:Heap}{H:Hp}{b:Addr}{o:Obj}(e:(Fh h H).get? b=some o):h.get? b=some o/\H b=none:=by
 have e':h.get? b=some o:=PySem.W.of_hideAll (Qd h H) e;refine⟨e',?_⟩
 cases q:H b with
 |none=>rfl
 | some x =>
  have hm:b∈Qd h H:=V3.mpr ⟨Vl.mpr (U6 e'),by simp[q]⟩;have z:(Fh h H).get? b=none:=PySem.W.hideAll_none (Qd h H) hm;rw[z]at e;cases e
noncomputable def qF(g h:Heap)(L:Addr):List (Addr×Obj):=(List.range h.objs.size).filterMap λa=>if a=L∨(g.get? a).isSome=true then none else(h.get? a).map λo=>(a,o)
theorem yh{g h:Heap}{L a:Addr}{o:Obj}(h1:a≠L)(h2:g.get? a=none)(h3:h.get? a=some o):(a,o)∈qF g h L :=
 WQ.mpr ⟨a,Vl.mpr (U6 h3),by simp[h1,h2,h3]⟩
theorem sX{g h:Heap}{L:Addr}{p:Addr×Obj}(hp:p∈qF g h L):p.1≠L/\g.get? p.1=none/\h.get? p.1=some p.2:=by
 obtain⟨b,_,e⟩:=WQ.mp hp;split at e
 . cases e
 .
  rename_i hn
  cases q:h.get? b with
  |none=>rw[q]at e;simp at e
  | some u =>
   rw[q]at e;simp only[Option.map_some,Vz]at e;subst e;refine⟨λz=>hn (.inl z),?_,q⟩;show g.get? b=none
   cases r:g.get? b with
   |none=>rfl
   |some v=>exact(hn (.inr (by simp[r]))).elim
noncomputable def rest(g h:Heap)(L d:Addr):List (Addr×Obj):=(qF g h L).filter λp=>decide (p.1≠d)
theorem Fj{g h:Heap}{L:Addr}:News g L h (qF g h L):=λp hp=>let ⟨a,b,c⟩:=sX hp;⟨c,a,b⟩
def Ld(mg:Str->Option Value)(h:Heap):Prop:=∃ bm ob,mg "__builtins__"=some (.ref bm)/\bm≠builtinsNs/\h.get? bm=some ob/\ob.cls=.type "module"/\ob.dict=some builtinsNs/\ob.data=.plain
noncomputable def lamNames:List Str:=["look_at_asks","by_lesser_place","look_at_string"]
noncomputable def tZ(x:Str):Str:=(x++".<locals>.")++"<lambda>"
def Qe(K:PySem.W.Frag)(H:Hp):Prop:=∀x∈lamNames,∀c P,PySem.W.tabIn K x=some (c,P)->H P=some (.tbl (tZ x))
theorem Qe.un{K:PySem.W.Frag}{fs ex:List Addr}{H H':Hp}{h h':Heap}(t:Qe K H)(u:Un fs ex H H' h h'):Qe K H':=λx hx c P e=>u.tbls _ _ (t x hx c P e)
structure Mod (K:PySem.W.Frag) (mg:Str->Option Value) (base:Heap):Prop where
 kin:K.In base
 glob:base.Ns mainGlobals mg
 blt:∃ mb,base.Ns builtinsNs mb/\∀ x:Str,x≠"__name__"->mb x=bootBuiltins x
 nolimit:base.NoLimit
 sysm:∃mm,base.Ns sysModules mm
 bmn:Ld mg base
 cds:∀x∈lamNames,∀c P,PySem.W.tabIn K x=some (c,P)->PySem.W.CodeHd base c P
/-- the context: a def's body (or a comprehension's Ip) running. base: fixed through the whole law;s₀,H₀: the entry;outer: the frames whose slots others may change (a def's callers);stack: all frames that run;
  ex: iterators that were made ahead of the entry and are walked here (a comprehension's);fn: the names whose cells were made at the entry (a def: all;a comprehension's Ip: its own);calm: not Ci an except suite;pn: gV that every state bears;xe: what is wanted of an exception that leaves the code -/
structure Cx where
 prog:Program
 w:World
 K:PySem.W.Frag
 mg:Str->Option Value
 base:Heap
 A:Around
 N:List Str
 s₀:Shared
 H₀:Hp
 env:Env
 outer:List Env
 stack:List Env
 ex:List Addr
 fn:Str->Bool
 calm:Bool
 pn:List (Addr×Obj)
 xe:Value->Shared->Prop
noncomputable def Qf(l:List Env):List Addr:=l.filterMap (·.frame)
noncomputable abbrev Cx.fs(X:Cx):List Addr:=Qf X.outer
def Qg(sc:Scope)(x:Str):Prop:=sc.names.lookup x=some .local∨sc.names.lookup x=some .cell∨sc.names.lookup x=some .free
def Qh(sc:Scope)(x:Str):Prop:=sc.names.lookup x=some .local∨sc.names.lookup x=some .cell
def Pe(env:Env)(h:Heap)(m:Str->Option Value)(x:Str)(u:Value):Prop :=
 (env.kindOf x=some .local/\m x=some u)∨((env.kindOf x=some .cell∨env.kindOf x=some .free)/\∃c,env.cells.lookup x=some c/\h.IsCell c (some u))
structure Cx.Ok (X:Cx):Prop where
 mod:Mod X.K X.mg X.base
 kind:X.env.scope.kind=.function
 glob:X.env.globals=mainGlobals
 blt:X.env.builtins=builtinsNs
 above:X.s₀.heap.objs.size<=X.env.locals
 inj:∀x y c,X.env.cells.lookup x=some c->X.env.cells.lookup y=some c->x=y
 has:∀x,(X.env.kindOf x=some .cell∨X.env.kindOf x=some .free)->∃c,X.env.cells.lookup x=some c
 cab:∀x c,X.fn x=true->X.env.cells.lookup x=some c->X.s₀.heap.objs.size<=c
 hd:X.calm=true->X.A.handled=none
 frames:X.A.frames=some X.stack
 stk:X.stack=X.outer∨(X.stack=X.env::X.outer/\X.env.frame=some X.env.locals)
 exf:∀b∈X.ex,b≠X.env.locals/\∀x c,X.env.cells.lookup x=some c->c≠b
 bs:∀b o,X.base.get? b=some o->X.s₀.heap.get? b=some o/\X.H₀ b=none
 bsz:X.base.objs.size<=X.s₀.heap.objs.size
 noex:∀b o,X.base.get? b=some o->b∉X.ex
 exfs:∀b∈X.ex,b∉X.fs
 funs:X.s₀.heap.FunFrames X.base X.outer
 frf:∀b∈X.fs,X.H₀ b=none
 tbs:Qe X.K X.H₀
structure Qi (X:Cx) (gV:List (Addr×Obj)) (σ:List (Option V)) (H:Hp) (s:Shared):Prop where
 ok:X.Ok
 os:s.os=X.s₀.os
 bare:AllBare s.gens
 base:Un X.fs X.ex X.H₀ H X.s₀.heap s.heap
 loc:∃m,s.heap.Ns X.env.locals m/\∀(i:Nat)(x:Str)(v:V),X.N[i]?=some x->σ[i]?=some (some v)->Qg X.env.scope x->∃u,cu v u/\Pe X.env s.heap m x u
 cell:∀x c,X.env.cells.lookup x=some c->∃v,s.heap.IsCell c v
 free:H X.env.locals=none
 freeC:∀x c,X.env.cells.lookup x=some c->H c=none∨(X.fn x=false/\∃o,H c=some (.frz o (.own c)))
 pin:∀p∈X.pn++gV,s.heap.get? p.1=some p.2/\H p.1=none/\p.1≠X.env.locals/\p.1∉X.fs/\∀v,p.2.data≠.cell v
 hok:Qb X.prog X.w H s.heap
 len:σ.length=X.N.length
section
variable{X:Cx}{gV:List (Addr×Obj)}{σ:List (Option V)}{H H':Hp}{s:Shared}{h':Heap}
theorem Cx.Ok.nofr(ok:X.Ok){b:Addr}{o:Obj}(e:X.base.get? b=some o):b∉X.fs:=λhb=>by have:=(ok.funs.mem hb).1;rw[e]at this;cases this
theorem Qi.bs(I:Qi X gV σ H s):∀b o,X.base.get? b=some o->s.heap.get? b=some o/\H b=none:=λb o e =>
 ⟨I.base.keep b o (I.ok.bs b o e).1 (I.ok.bs b o e).2 (I.ok.nofr e) (I.ok.noex b o e),I.base.free b o (I.ok.bs b o e).1 (I.ok.bs b o e).2 (I.ok.noex b o e)⟩
theorem Qi.bk(I:Qi X gV σ H s):∀b o,X.base.get? b=some o->s.heap.get? b=some o:=λb o e=>(I.bs b o e).1
theorem Qi.tbs(I:Qi X gV σ H s):Qe X.K H:=I.ok.tbs.un I.base
theorem Qi.mod(I:Qi X gV σ H s):Mod X.K X.mg X.base:=I.ok.mod
theorem Qi.kIn(I:Qi X gV σ H s):X.K.In s.heap:=I.ok.mod.kin.keeps I.bk
theorem Qi.fr(I:Qi X gV σ H s):∃m,Fr X.base X.env.locals s.heap m :=
 let ⟨m,hn,_⟩:=I.loc
 ⟨m,hn,I.bk,U8 I.ok.bsz I.ok.above⟩
theorem Qi.lt(I:Qi X gV σ H s):X.env.locals<s.heap.objs.size:=let ⟨_,hn,_⟩:=I.loc;hn.lt
theorem Qi.sz(I:Qi X gV σ H s):X.s₀.heap.objs.size<=s.heap.objs.size:=U8 I.ok.above (Xa I.lt)
theorem Qi.nofs(I:Qi X gV σ H s){a:Addr}(h:s.heap.objs.size<=a):a∉X.fs:=λhb=>by obtain⟨_,o,ho,_⟩:=I.ok.funs.mem hb;exact absurd (U2 (U6 ho) (U8 I.sz h)) (Wq _)
theorem Qi.cne(I:Qi X gV σ H s):∀x c,X.env.cells.lookup x=some c->c≠X.env.locals:=λx c e z=>by obtain⟨v,o,ho,hd⟩:=I.cell x c e;obtain⟨m,⟨o',es,ep,ho',hd',_⟩,_⟩:=I.loc;rw[z,ho']at ho;cases ho;rw[hd']at hd;cases hd
theorem Qi.funs(I:Qi X gV σ H s):s.heap.FunFrames X.base X.outer:=by
 have all:∀(l:List Env),(∀b∈Qf l,b∈X.fs)->X.s₀.heap.FunFrames X.base l->s.heap.FunFrames X.base l:=by
  intro l
  induction l with
  |nil=>intro _ _;trivial
  | cons env r ih =>
   intro hs hl;obtain⟨hk,⟨L,o,hf,hn,ho,hd⟩,hr⟩:=hl;have hL:L∈X.fs:=hs L (by unfold Qf;rw[V6,hf];exact UZ);obtain⟨sl,e⟩:=I.base.slot L o ho (I.ok.frf L hL) hL λz=>I.ok.exfs L z hL;exact⟨hk,⟨L,_,hf,hn,e,hd⟩,ih (λb hb=>hs b (by unfold Qf;rw[V6,hf];exact UW _ hb)) hr⟩
 exact all X.outer (λ_ hb=>hb) I.ok.funs
theorem Qi.stack(I:Qi X gV σ H s):s.heap.FunFrames X.base X.stack:=by
 rcases I.ok.stk with e|⟨e,hf⟩
 . rw[e];exact I.funs
 . rw[e];obtain⟨m,hn,_⟩:=I.loc;refine .cons (by rw[I.ok.kind];decide) hf hn ?_ I.funs;exact Heap.get?_none_of_le (U8 I.ok.bsz I.ok.above)
theorem Qi.stkSub(I:Qi X gV σ H s):∀b∈Qf X.stack,b∈X.env.locals::X.fs:=λb hb=>by
 rcases I.ok.stk with e|⟨e,hf⟩
 . rw[e]at hb;exact UW _ hb
 . rw[e]at hb;unfold Qf at hb;rw[V6,hf]at hb;exact hb
theorem Qi.stkFree(I:Qi X gV σ H s):∀b∈Qf X.stack,H b=none:=λb hb=>by
 rcases Vc.mp (I.stkSub b hb)with e|hb
 . rw[e];exact I.free
 . obtain⟨_,o,ho,_⟩:=I.ok.funs.mem hb;exact I.base.free b o ho (I.ok.frf b hb) λz=>I.ok.exfs b z hb
theorem Qi.step{g':Array GenState}{t':Nat}{d':Drawn}{ch:List Addr}(I:Qi X gV σ H s)
  (hch:∀b∈ch,(b∈X.ex∨X.s₀.heap.objs.size<=b)/\b≠X.env.locals/\(∀x c,X.env.cells.lookup x=some c->c≠b)/\∀p∈X.pn++gV,p.1≠b)
  (keep:∀b o,b≠X.env.locals->b∉X.fs->b∉ch->s.heap.get? b=some o->H b=none->h'.get? b=some o)
  (slot:∀b o,b≠X.env.locals->b∈X.fs->b∉ch->s.heap.get? b=some o->H b=none->∃sl,h'.get? b=some {o with slots:=sl}) (free:∀b o,b∉ch->s.heap.get? b=some o->H b=none->H' b=none)
  (there:∀b o,b∉ch->s.heap.get? b=some o->∃o',h'.get? b=some o')
  (tups:∀b xs,H b=some (.tup xs)->H' b=some (.tup xs)) (frzs:∀b o u,H b=some (.frz o u)->H' b=some (.frz o u)) (tbls:∀b q,H b=some (.tbl q)->H' b=some (.tbl q))
  (ns:∀m,s.heap.Ns X.env.locals m->h'.Ns X.env.locals m) (hok:Qb X.prog X.w H' h') (hg:AllBare g') :
  Qi X gV σ H' {s with heap:=h',gens:=g',drawn:=d',toks:=t' }:=by
 have neL:∀b o,X.s₀.heap.get? b=some o->b≠X.env.locals:=λb o e=>Vp (U2 (U6 e) I.ok.above)
 have neC:∀b o,X.s₀.heap.get? b=some o->b∉X.ex->b∉ch:=λb o e hx hb=>by
  rcases(hch b hb).1 with z|z
  . exact hx z
  . exact absurd (U2 (U6 e) z) (Wq _)
 have cellK:∀x c,X.env.cells.lookup x=some c->∀v,s.heap.IsCell c v->h'.IsCell c v:=λx c e v ⟨o,ho,hd⟩=>by
  have nch:c∉ch:=λz=>(hch c z).2.2.1 x c e rfl;rcases I.freeC x c e with hn|⟨_,o2,hz⟩
  .
   by_cases hc:c∈X.fs
   . obtain⟨sl,q⟩:=slot c o (I.cne x c e) hc nch ho hn;exact⟨_,q,hd⟩
   . exact⟨o,keep c o (I.cne x c e) hc nch ho hn,hd⟩
  . have e1:=(I.hok c _ hz).1;rw[ho]at e1;cases e1;exact⟨o,(hok c _ (frzs c _ _ hz)).1,hd⟩
 refine⟨I.ok,I.os,hg,⟨λb o e n hb hx=>?_,λb o e n hb hx=>?_,λb o e n hx=>?_,λb o e hx=>?_,λb xs e=>tups b xs (I.base.tups b xs e),λb o xs e=>frzs b o xs (I.base.frzs b o xs e),λb ps e=>?_⟩,?_,λx c e=>?_,?_,λx c e=>?_,λp hp=>?_,hok,I.len⟩
 . exact keep b o (neL b o e) hb (neC b o e hx) (I.base.keep b o e n hb hx) (I.base.free b o e n hx)
 . obtain⟨sl,e1⟩:=I.base.slot b o e n hb hx;obtain⟨sl',e2⟩:=slot b _ (neL b o e) hb (neC b o e hx) e1 (I.base.free b o e n hx);exact⟨sl',e2⟩
 . obtain⟨o',e1⟩:=I.base.there b o e hx;exact free b o' (neC b o e hx) e1 (I.base.free b o e n hx)
 . obtain⟨o',e1⟩:=I.base.there b o e hx;exact there b o' (neC b o e hx) e1
 . exact tbls b ps (I.base.tbls b ps e)
 .
  obtain⟨m,hn,hl⟩:=I.loc;refine⟨m,ns m hn,λi x v e1 e2 e3=>?_⟩;obtain⟨u,r,l⟩:=hl i x v e1 e2 e3;refine⟨u,r,?_⟩;rcases l with l|⟨k,c,e,z⟩
  . exact .inl l
  . exact .inr ⟨k,c,e,cellK x c e _ z⟩
 . obtain⟨v,z⟩:=I.cell x c e;exact⟨v,cellK x c e v z⟩
 . obtain⟨m,⟨o,_,_,ho,_⟩,_⟩:=I.loc;exact free _ o (λz=>(hch _ z).2.1 rfl) ho I.free
 .
  obtain⟨v,o,ho,hd⟩:=I.cell x c e;rcases I.freeC x c e with hn|⟨hf,o2,hz⟩
  . exact .inl (free c o (λz=>(hch c z).2.2.1 x c e rfl) ho hn)
  . exact .inr ⟨hf,o2,frzs c _ _ hz⟩
 . obtain⟨e,n,ne,nf,d⟩:=I.pin p hp;have nch:p.1∉ch:=λz=>(hch p.1 z).2.2.2 p hp rfl;exact⟨keep p.1 p.2 ne nf nch e n,free p.1 p.2 nch e n,ne,nf,d⟩
theorem Qi.un{t':Nat}(I:Qi X gV σ H s)(u:Un X.fs [] H H' s.heap h')(hok:Qb X.prog X.w H' h'):Qi X gV σ H' {s with heap:=h',toks:=t' }:=by
 obtain⟨m,⟨o,es,ep,ho,r⟩,_⟩:=id I.loc;obtain⟨sl,hL⟩:=u.any ho I.free v6
 exact I.step (g':=s.gens) (d':=s.drawn) (ch:=[]) (λ_ z=>nomatch z) (λb o _ hb _ e n=>u.keep b o e n hb v6) (λb o _ hb _ e n=>u.slot b o e n hb v6) (λb o _ e n=>u.free b o e n v6) (λb o _ e=>u.there b o e v6) u.tups u.frzs u.tbls (λm' hm=>by
  obtain⟨o',es',ep',ho',r'⟩:=hm;rw[ho]at ho';cases ho'
  exact⟨_,es',ep',hL,r'⟩) hok I.bare
theorem Qi.call{g':Array GenState}{t':Nat}{d':Drawn}{ch:List Addr}(I:Qi X gV σ H s)(u:Un (Qf X.stack) ch H H' s.heap h')(hok:Qb X.prog X.w H' h')(hg:AllBare g')
  (hch:∀b∈ch,(b∈X.ex∨X.s₀.heap.objs.size<=b)/\b≠X.env.locals/\(∀x c,X.env.cells.lookup x=some c->c≠b)/\∀p∈X.pn++gV,p.1≠b) :
  Qi X gV σ H' {s with heap:=h',gens:=g',drawn:=d',toks:=t' }:=by
 obtain⟨m,⟨o,es,ep,ho,r⟩,_⟩:=id I.loc;obtain⟨sl,hL⟩:=u.any ho I.free λz=>(hch _ z).2.1 rfl
 exact I.step (ch:=ch) hch (λb o hL hb hc e n=>u.keep b o e n (λz=>(Vc.mp (I.stkSub b z)).elim hL hb) hc) (λb o _ _ hc e n=>u.any e n hc) (λb o hc e n=>u.free b o e n hc) (λb o hc e=>u.there b o e hc) u.tups u.frzs u.tbls (λm' hm=>by
  obtain⟨o',es',ep',ho',r'⟩:=hm;rw[ho]at ho';cases ho'
  exact⟨_,es',ep',hL,r'⟩) hok hg
theorem Qi.turned{t':Nat}{it:Addr}(I:Qi X gV σ H s)(k:∀b o,b≠it->s.heap.get? b=some o->h'.get? b=some o)(hn:H it=none)(hL:it≠X.env.locals)
  (h1:it∈X.ex∨X.s₀.heap.objs.size<=it) (h2:∀x c,X.env.cells.lookup x=some c->c≠it) (h3:∀p∈X.pn++gV,p.1≠it):Qi X gV σ H {s with heap:=h',toks:=t' }:=by
 have nit:∀b u,H b=some u->b≠it:=λb u e z=>by rw[z,hn]at e;cases e
 refine I.step (g':=s.gens) (d':=s.drawn) (ch:=[it]) (λb hb=>?_) (λb o _ _ hc e _=>k b o (λz=>hc (by simp[z])) e) (λb o _ _ hc e _=>⟨o.slots,k b o (λz=>hc (by simp[z])) e⟩) (λ_ _ _ _ n=>n)
  (λb o hc e=>⟨o,k b o (λz=>hc (by simp[z])) e⟩) (λ_ _ e=>e) (λ_ _ _ e=>e) (λ_ _ e=>e) (λm hm=>?_) (λb u e=>?_) I.bare
 .
  have e:b=it:=by simpa using hb
  subst e;exact⟨h1,hL,h2,h3⟩
 . obtain⟨o,es,ep,ho,r⟩:=hm;exact⟨o,es,ep,k _ o (VX hL) ho,r⟩
 .
  refine(I.hok b u e).stay (λc v hc q=>k c v ?_ q) (λ_ q=>q) (λ_ _ q=>q) λ_ _ _ _ q=>q;rcases hc with z|z
  . rw[z];exact nit b u e
  . exact nit c _ z
theorem Qi.tok(I:Qi X gV σ H s)(t:Nat):Qi X gV σ H {s with toks:=t}:=I.un (h':=s.heap) (t':=t) Un.refl I.hok
theorem Qi.kept{t':Nat}(I:Qi X gV σ H s)(k:∀b u,s.heap.get? b=some u->h'.get? b=some u):Qi X gV σ H {s with heap:=h',toks:=t' }:=I.un (Un.kept k) (I.hok.kept k)
theorem Qi.laid{a:Addr}{o:HO}{t':Nat}(I:Qi X gV σ H s)(k:∀b u,s.heap.get? b=some u->h'.get? b=some u)(hp:s.heap.objs.size<=a)(new:d6 X.prog X.w (Qa H a o) h' a o) :
  Qi X gV σ (Qa H a o) {s with heap:=h',toks:=t' }:=I.un (Un.laid k hp (I.hok.fresh hp)) (I.hok.laid k hp new)
theorem Qi.write{x e:Addr}{o:HO}{t':Nat}(I:Qi X gV σ H s)(mu:Qc (H x))(he:e=x∨H e=some (.own x))(k:∀b u,b≠e->s.heap.get? b=some u->h'.get? b=some u)(heo:∃u,h'.get? e=some u)
  (new:d6 X.prog X.w (Qa H x o) h' x o):Qi X gV σ (Qa H x o) {s with heap:=h',toks:=t' }:=I.un (Un.write mu he k heo) (I.hok.write mu he k heo new)
theorem Qi.pins_of{pins':List (Addr×Obj)}(I:Qi X gV σ H s)(h:∀p∈pins',s.heap.get? p.1=some p.2/\H p.1=none/\p.1≠X.env.locals/\p.1∉X.fs/\∀v,p.2.data≠.cell v):Qi X pins' σ H s :=
 ⟨I.ok,I.os,I.bare,I.base,I.loc,I.cell,I.free,I.freeC,λp hp=>(Vx.mp hp).elim (λz=>I.pin p (Vh _ z)) (h p),I.hok,I.len⟩
theorem zN{N:List Str}(hN:N.Nodup){i j:Nat}{x:Str}(a:N[i]?=some x)(b:N[j]?=some x):i=j:=by obtain⟨h1,e1⟩:=U1.mp a;obtain⟨h2,e2⟩:=U1.mp b;exact(List.getElem_inj hN).mp (e1.trans e2.symm)
theorem vU{M:Model}{A:Around}{E:Value->Shared->Prop}{i:Nat}{x:Str}{v:V}{u:Value}{Q:Unit->Shared->Prop}(I:Qi X gV σ H s)(hN:X.N.Nodup)(hi:X.N[i]?=some x)(hx:Qh X.env.scope x)(r:cu v u)
  (h:∀s',Qi X gV (σ.set i (some v)) H s'->(∃a,Heap.SameBut a s.heap s'.heap/\(a=X.env.locals∨X.env.cells.lookup x=some a))->Q () s') (hf:X.fn x=true∨X.env.scope.names.lookup x=some .local:=by first|exact .inl rfl|exact .inr rfl|assumption):wpAny M A (storeName X.env x u) Q E s:=by
 obtain⟨m,hn,hl⟩:=id I.loc;have hcls:(X.env.scope.kind == .class ||(X.env.scope.kind == .module && X.env.locals != X.env.globals))=false:=by rw[I.ok.kind];rfl
 have hiσ:i<σ.length:=by rw[I.len];exact(U1.mp hi).1
 have cne:=I.cne
 have tracked:∀{a:Addr}{h':Heap},(∃o,s.heap.get? a=some o/\H a=none)->Heap.SameBut a s.heap h'->Qb X.prog X.w H h':=λ{a h'} ha hs b ob e=>by
  obtain⟨_,_,hfree⟩:=ha;refine(I.hok b ob e).stay (λc w' hc q=>(hs.2 c ?_).trans q) (λ_ q=>q) (λ_ _ q=>q) λ_ _ _ _ q=>q;rintro rfl;rcases hc with rfl|hc
  . rw[hfree]at e;cases e
  . rw[hfree]at hc;cases hc
 rcases hx with hk|hk
 .
  refine wpAny_storeName_local hk hn (λh' hn' hs=>?_) hcls;obtain⟨oL,_,_,hoL,_⟩:=id hn;refine h _ ⟨I.ok,I.os,I.bare,⟨λb o e n hb hx=>?_,λb o e n hb hx=>?_,I.base.free,λb o e hx=>?_,I.base.tups,I.base.frzs,I.base.tbls⟩,⟨_,hn',λj y v' e1 e2 e3=>?_⟩,λy c e=>?_,I.free,I.freeC,λp hp=>?_,tracked ⟨oL,hoL,I.free⟩ hs,by simpa using I.len⟩ ⟨_,hs,.inl rfl⟩
  . exact(hs.2 b (Vp (U2 (U6 e) I.ok.above))).trans (I.base.keep b o e n hb hx)
  . obtain⟨sl,e1⟩:=I.base.slot b o e n hb hx;exact⟨sl,(hs.2 b (Vp (U2 (U6 e) I.ok.above))).trans e1⟩
  . obtain⟨o',e1⟩:=I.base.there b o e hx;exact⟨o',(hs.2 b (Vp (U2 (U6 e) I.ok.above))).trans e1⟩
  .
   by_cases hj:j=i
   . subst hj;rw[hi]at e1;cases e1;rw[VA hiσ]at e2;cases e2;exact⟨u,r,.inl ⟨hk,v6⟩⟩
   .
    rw[VH (VX hj)]at e2;obtain⟨u',r',q⟩:=hl j y v' e1 e2 e3;refine⟨u',r',?_⟩;rcases q with⟨k,e⟩|⟨k,c,e,z⟩
    . refine .inl ⟨k,?_⟩;have:y≠x:=λe=>hj (zN hN e1 (e ▸ hi));simp[this,e]
    . exact .inr ⟨k,c,e,z.sameBut hs (cne y c e)⟩
  . obtain⟨w',z⟩:=I.cell y c e;exact⟨w',z.sameBut hs (cne y c e)⟩
  . obtain⟨e,n,ne,nf,d⟩:=I.pin p hp;exact⟨(hs.2 p.1 ne).trans e,n,ne,nf,d⟩
 .
  have hfn:X.fn x=true:=by
   rcases hf with z|z
   . exact z
   . rw[z]at hk;cases hk
  obtain⟨c,hc⟩:=I.ok.has x (.inl hk);obtain⟨w',z⟩:=I.cell x c hc;refine wpAny_storeName_cell I.ok.kind hk hc z (λh' hc' hs=>?_);obtain⟨oc,hoc,hocd⟩:=id z;refine h {s with heap:=h' } ⟨I.ok,I.os,I.bare,⟨λb o e n hb hx=>?_,λb o e n hb hx=>?_,I.base.free,λb o e hx=>?_,I.base.tups,I.base.frzs,I.base.tbls⟩,⟨m,hn.sameBut hs (VX (cne x c hc)),λj y v' e1 e2 e3=>?_⟩,λy c' e=>?_,I.free,I.freeC,λp hp=>?_,tracked ⟨oc,hoc,(I.freeC x c hc).resolve_right λz=>by rw[hfn]at z;exact absurd z.1 x_⟩ hs,by simpa using I.len⟩ ⟨c,hs,.inr hc⟩
  . exact(hs.2 b (Vp (U2 (U6 e) (I.ok.cab x c hfn hc)))).trans (I.base.keep b o e n hb hx)
  . obtain⟨sl,e1⟩:=I.base.slot b o e n hb hx;exact⟨sl,(hs.2 b (Vp (U2 (U6 e) (I.ok.cab x c hfn hc)))).trans e1⟩
  . obtain⟨o',e1⟩:=I.base.there b o e hx;exact⟨o',(hs.2 b (Vp (U2 (U6 e) (I.ok.cab x c hfn hc)))).trans e1⟩
  .
   by_cases hj:j=i
   . subst hj;rw[hi]at e1;cases e1;rw[VA hiσ]at e2;cases e2;exact⟨u,r,.inr ⟨.inl hk,c,hc,hc'⟩⟩
   .
    rw[VH (VX hj)]at e2;obtain⟨u',r',q⟩:=hl j y v' e1 e2 e3;refine⟨u',r',?_⟩;rcases q with q|⟨k,c',e,z'⟩
    . exact .inl q
    . refine .inr ⟨k,c',e,z'.sameBut hs ?_⟩;rintro rfl;exact hj (zN hN e1 (I.ok.inj _ _ _ e hc ▸ hi))
  .
   by_cases hcc:c'=c
   . subst hcc;exact⟨_,hc'⟩
   . obtain⟨w2,z2⟩:=I.cell y c' e;exact⟨w2,z2.sameBut hs hcc⟩
  . obtain⟨e,n,ne,nf,d⟩:=I.pin p hp;refine⟨(hs.2 p.1 ?_).trans e,n,ne,nf,d⟩;intro q;rw[q,hoc]at e;have q':oc=p.2:=Vq e;exact d w' (by rw[<- q'];exact hocd)
theorem mT{M:Model}{A:Around}{E:Value->Shared->Prop}{i:Nat}{x:Str}{v:V}{u:Value}{Q:Unit->Shared->Prop}(I:Qi X gV σ H s)(hN:X.N.Nodup)(hi:X.N[i]?=some x)(hx:Qh X.env.scope x)(r:cu v u)
  (h:∀s',Qi X gV (σ.set i (some v)) H s'->Q () s') (hf:X.fn x=true∨X.env.scope.names.lookup x=some .local:=by first|exact .inl rfl|exact .inr rfl|assumption):wpAny M A (storeName X.env x u) Q E s :=
 vU I hN hi hx r (λs' I' _=>h s' I') hf
theorem Qi.call'{s':Shared}{ch:List Addr}(I:Qi X gV σ H s)(ho:s'.os=s.os)(u:Un (Qf X.stack) ch H H' s.heap s'.heap)(hok:Qb X.prog X.w H' s'.heap)(hg:AllBare s'.gens)
  (hch:∀b∈ch,(b∈X.ex∨X.s₀.heap.objs.size<=b)/\b≠X.env.locals/\(∀x c,X.env.cells.lookup x=some c->c≠b)/\∀p∈X.pn++gV,p.1≠b):Qi X gV σ H' s':=by
 obtain⟨h',g',d',t',o'⟩:=s';have e:o'=s.os:=ho;subst e;exact I.call (g':=g') (t':=t') (d':=d') u hok hg hch
end
noncomputable abbrev XK:=Value->Option Addr->Hp->Prop
noncomputable abbrev St:=List (Option V)
noncomputable abbrev VK:=V->Hp->Prop
abbrev TE:=St->Hp->VK->Prop
noncomputable abbrev TT:=St->Hp->(Bool->Hp->Prop)->Prop
noncomputable abbrev TA:=St->Hp->(List V->Hp->Prop)->Prop
structure K2 where
 nx:St->Hp->Prop
 rt:VK
 bk:St->Hp->Prop:=λ_ _=>False
 ct:St->Hp->Prop:=λ_ _=>False
abbrev TS:=K2->St->Hp->Prop
def EP(X:Cx)(gV:List (Addr×Obj))(σ:St)(Q:VK)(u:Value)(s':Shared):Prop:=∃v H',Qi X gV σ H' s'/\cu v u/\Q v H'
def TP(X:Cx)(gV:List (Addr×Obj))(σ:St)(Q:Bool->Hp->Prop)(b:Bool)(s':Shared):Prop:=∃H',Qi X gV σ H' s'/\Q b H'
def AP(X:Cx)(gV:List (Addr×Obj))(σ:St)(Q:List V->Hp->Prop)(us:List Value)(s':Shared):Prop:=∃vs H',Qi X gV σ H' s'/\bT vs us/\Q vs H'
def SP(X:Cx)(gV:List (Addr×Obj))(D:K2)(f:Flow)(s':Shared):Prop :=
 match f with
 |.next=>∃σ' H',Qi X gV σ' H' s'/\D.nx σ' H'
 |.brk=>∃σ' H',Qi X gV σ' H' s'/\D.bk σ' H'
 |.cont=>∃σ' H',Qi X gV σ' H' s'/\D.ct σ' H'
 |.ret u=>∃v σ' H',Qi X gV σ' H' s'/\cu v u/\D.rt v H'
def PE(X:Cx)(e:Expr)(t:TE):Prop :=
 ∀(gV:List (Addr×Obj))(s:Shared)(σ:St)(H:Hp)(Q:VK),Qi X gV σ H s->t σ H Q->wpAny (model X.prog X.w) X.A (eval e X.env) (EP X gV σ Q) X.xe s
def PT(X:Cx)(e:Expr)(t:TT):Prop :=
 ∀(gV:List (Addr×Obj))(s:Shared)(σ:St)(H:Hp)(Q:Bool->Hp->Prop),Qi X gV σ H s->t σ H Q->wpAny (model X.prog X.w) X.A (isTrue e X.env (eval e X.env)) (TP X gV σ Q) X.xe s
def PA(X:Cx)(es:List Expr)(t:TA):Prop :=
 ∀(pos:Pos)(gV:List (Addr×Obj))(s:Shared)(σ:St)(H:Hp)(Q:List V->Hp->Prop),Qi X gV σ H s->t σ H Q->wpAny (model X.prog X.w) X.A (spliced (backTo pos (starEach es X.env))) (AP X gV σ Q) X.xe s
def PS(X:Cx)(st:Stmt)(t:TS):Prop :=
 ∀(gV:List (Addr×Obj))(s:Shared)(σ:St)(H:Hp)(D:K2),Qi X gV σ H s->t D σ H->wpAny (model X.prog X.w) X.A (exec st X.env) (SP X gV D) X.xe s
def Qj(X:Cx)(st:List Stmt)(t:TS):Prop :=
 ∀(gV:List (Addr×Obj))(s:Shared)(σ:St)(H:Hp)(D:K2),Qi X gV σ H s->t D σ H->wpAny (model X.prog X.w) X.A (execs st X.env) (SP X gV D) X.xe s
theorem Qk{α:Type}{t:Sem α}{Q Q':α->Shared->Prop}{M:Model}{A:Around}{E:Value->Shared->Prop}{s:Shared}(h:wpAny M A t Q E s)(hQ:∀a s,Q a s->Q' a s):wpAny M A t Q' E s:=V7 h hQ λ_ _ x=>x
section
variable{X:Cx}
theorem Ql{a b:Expr}{ta tb:TE}(ha:PE X a ta)(hb:PE X b tb){gV:List (Addr×Obj)}{s:Shared}{σ:St}{H:Hp}{R:V->V->Hp->Prop}(I:Qi X gV σ H s)(h:ta σ H λx H1=>tb σ H1 λy H2=>R x y H2)
  {α:Type} {Q:α->Shared->Prop} {f:Value->Value->Sem α}
  (hf:∀v u s2 x y H2,Qi X gV σ H2 s2->cu x v->cu y u->R x y H2->wpAny (model X.prog X.w) X.A (f v u) Q X.xe s2) :
  wpAny (model X.prog X.w) X.A (eval a X.env) (λv s₁=>wpAny (model X.prog X.w) X.A (eval b X.env) (λu s₂=>wpAny (model X.prog X.w) X.A (f v u) Q X.xe s₂) X.xe s₁) X.xe s:=by
 refine Qk (ha gV s σ H _ I h) λv s1 ⟨x,H1,I1,r1,q1⟩=>?_;refine Qk (hb gV s1 σ H1 _ I1 q1) λu s2 ⟨y,H2,I2,r2,q2⟩=>?_;exact hf v u s2 x y H2 I2 r1 r2 q2
def Iq(i:Nat):TE:=λσ H Q=>∃v,σ[i]?=some (some v)/\Q v H
def tC(v:V):TE:=λ_ H Q=>Q v H
theorem gJ{i:Nat}{x:Str}{pos:Pos}(hN:X.N[i]?=some x)(hv:Qg X.env.scope x) (hd:(x == ("__debug__" : Str))=false:=by decide) (hcd:(x == ("__classdict__" : Str))=false:=by decide):PE X (.Name x pos) (Iq i):=by
 intro gV s σ H Q I h;obtain⟨v,e,h⟩:=h;obtain⟨m,hn,hl⟩:=I.loc;obtain⟨u,r,l⟩:=hl i x v hN e hv;have Qm:EP X gV σ Q u s:=⟨v,H,I,r,h⟩;rcases l with⟨hk,hm⟩|⟨hk,c,hc,hcell⟩
 . exact wpAny_Name (wpAny_loadName_local I.ok.kind hk hn hm Qm) hd
 .
  rcases hk with hk|hk
  . exact wpAny_Name (wpAny_loadName_cell I.ok.kind hk hc hcell Qm) hd
  . exact wpAny_Name (wpAny_loadName_free I.ok.kind hk hc hcell Qm hcd) hd
theorem Lf {i j pos}:PE X (.Constant (.int i) j pos) (tC (.int i)):=λ_ _ _ H _ I h=>wpAny_Constant_int ⟨.int i,H,I.tok _,⟨_,rfl⟩,h⟩
theorem NO {b j pos}:PE X (.Constant (.bool b) j pos) (tC (.bl b)):=λ_ _ _ H _ I h=>Constant_bool ⟨.bl b,H,I,rfl,h⟩
theorem Lg {j pos}:PE X (.Constant .none j pos) (tC .non):=λ_ _ _ H _ I h=>Constant_none ⟨.non,H,I,rfl,h⟩
theorem Hz {x j pos}:PE X (.Constant (.str x) j pos) (tC (.str x)):=λ_ _ _ H _ I h=>Calls.Constant_str ⟨.str x,H,I.tok _,⟨_,rfl⟩,h⟩
def Gl(X:Cx)(x:Str):Prop:=X.env.kindOf x=some .globalImplicit
theorem jO{E:Value->Shared->Prop}{gV:List (Addr×Obj)}{s:Shared}{σ:St}{H:Hp}{x:Str}{u:Value}{pos:Pos}{Q:Value->Shared->Prop}(I:Qi X gV σ H s)(hg:Gl X x)(hm:X.mg x=some u)(h:Q u s)
  (hd:(x == ("__debug__" : Str))=false:=by decide):wpAny (model X.prog X.w) X.A (eval (.Name x pos) X.env) Q E s :=
 Calls.Name_function_global I.ok.kind hg (Calls.loadGlobal_global (by rw[I.ok.glob];exact I.mod.glob.keeps I.bk) hm h) hd
theorem jw{E:Value->Shared->Prop}{gV:List (Addr×Obj)}{s:Shared}{σ:St}{H:Hp}{x:Str}{u:Value}{pos:Pos}{Q:Value->Shared->Prop}(I:Qi X gV σ H s)(hg:Gl X x)(hm:X.mg x=none)(hv:bootBuiltins x=some u)(h:Q u s)
  (hn:x≠"__name__":=by decide) (hd:(x == ("__debug__" : Str))=false:=by decide):wpAny (model X.prog X.w) X.A (eval (.Name x pos) X.env) Q E s:=by
 obtain⟨mb,h1,h2⟩:=I.mod.blt;exact Calls.Name_function_global I.ok.kind hg (Calls.loadGlobal_builtin (by rw[I.ok.glob];exact I.mod.glob.keeps I.bk) hm (by rw[I.ok.blt];exact h1.keeps I.bk) ((h2 x hn).trans hv) h) hd
theorem Ir{x:Str}{v:V}{u:Value}{pos:Pos}(hg:Gl X x)(hm:X.mg x=some u)(r:cu v u) (hd:(x == ("__debug__" : Str))=false:=by decide):PE X (.Name x pos) (tC v) :=
 λ_ _ _ H _ I h=>jO I hg hm ⟨v,H,I,r,h⟩ hd
theorem Iu{x:Str}{v:V}{u:Value}{pos:Pos}(hg:Gl X x)(hm:X.mg x=none)(hv:bootBuiltins x=some u)(r:cu v u) (hn:x≠"__name__":=by decide) (hd:(x == ("__debug__" : Str))=false:=by decide):PE X (.Name x pos) (tC v) :=
 λ_ _ _ H _ I h=>jw I hg hm hv ⟨v,H,I,r,h⟩ hn hd
variable{a b:Expr}{ta tb:TE}{pos:Pos}
noncomputable def tB(t:TE):TT:=λσ H Q=>t σ H λx H1=>∃c,x=.bl c/\Q c H1
end
def Qn(K:PySem.W.Frag)(H:Hp)(a:Addr)(xs:List V):Prop :=
 Rd H a (.lst xs) ∨
  ∃(o:Obj)(its:Array Value)(n:Nat),K.lookup a=some o/\o.cls=.type "list"/\o.dict=none/\o.data=.seq its n/\its.size<=sizeLine/\bT xs its.toList
def Qo(K:PySem.W.Frag)(H:Hp)(a:Addr)(xs:List V):Prop :=
 Rd H a (.tup xs) ∨
  ∃(o:Obj)(its:Array Value)(n:Nat),K.lookup a=some o/\o.cls=.type "tuple"/\o.data=.seq its n/\its.size<=sizeLine/\bT xs its.toList
noncomputable def Pf:Value->Option V
 |.none=>some .non
 |.bool b=>some (.bl b)
 |.int i _=>some (.int i)
 |.str x _=>some (.str x)
 |.bytes b _=>some (.byt b)
 |.float b _=>some (.flt b)
 |.ref a=>some (.ref a)
 |.type n=>some (.ty n)
 |_=>none
theorem cu.abs{x:V}{u:Value}(r:cu x u):Pf u=some x:=by
 cases x with
 |non=>cases r;rfl
 |bl _=>cases r;rfl
 |int _=>obtain⟨t,rfl⟩:=r;rfl
 |str _=>obtain⟨t,rfl⟩:=r;rfl
 |byt _=>obtain⟨t,rfl⟩:=r;rfl
 |flt _=>obtain⟨t,rfl⟩:=r;rfl
 |ref _=>cases r;rfl
 |ty _=>cases r;rfl
theorem cu.inj{x y:V}{u:Value}(r:cu x u)(q:cu y u):x=y:=Vq (r.abs.symm.trans q.abs)
theorem bT.inj:∀{xs ys:List V}{us:List Value},bT xs us->bT ys us->xs=ys
 |_,_,_,.nil,.nil=>rfl
 |_,_,_,.cons r t,.cons r' t'=>by rw[r.inj r',bT.inj t t']
section
variable{X:Cx}{gV:List (Addr×Obj)}{σ:St}{H:Hp}{s:Shared}{a:Addr}{xs ys:List V}
theorem Qn.of{K:PySem.W.Frag}(h:H a=some (.lst xs)):Qn K H a xs:=.inl (.inl h)
theorem Qo.of{K:PySem.W.Frag}(h:H a=some (.tup xs)):Qo K H a xs:=.inl (.inl h)
theorem Qi.list(I:Qi X gV σ H s)(h:Qn X.K H a xs):∃its:List Value,bT xs its/\PlainL s.heap a its.toArray/\xs.length<=sizeLine:=by
 rcases h with h|⟨o,its,n,hk,hc,hd,hs,hz,r⟩
 . obtain⟨z,its,n,r,e⟩:=h.ok I.hok;exact⟨its,r,⟨_,n,e,rfl,rfl,rfl⟩,z⟩
 . refine⟨its.toList,r,⟨o,n,I.kIn a o hk,hc,hd,by simpa using hs⟩,?_⟩;have e:=r.length;simp only[Array.length_toList]at e;omega
theorem Qi.tuple(I:Qi X gV σ H s)(h:Qo X.K H a xs):∃its:List Value,bT xs its/\IsTup s.heap a its.toArray/\xs.length<=sizeLine:=by
 rcases h with h|⟨o,its,n,hk,hc,hs,hz,r⟩
 . obtain⟨z,its,r,p⟩:=h.ok I.hok;exact⟨its,r,p,z⟩
 . refine⟨its.toList,r,⟨o,I.kIn a o hk,hc,n,by simpa using hs⟩,?_⟩;have e:=r.length;simp only[Array.length_toList]at e;omega
theorem Qi.list_inj(I:Qi X gV σ H s)(h:Qn X.K H a xs)(h':Qn X.K H a ys):xs=ys:=by
 obtain⟨its,r,⟨o,n,e,_,_,d⟩,_⟩:=I.list h;obtain⟨its',r',⟨o',n',e',_,_,d'⟩,_⟩:=I.list h';rw[e]at e';cases e';rw[d]at d';injection d' with d1 _;have:its=its':=by simpa using congrArg Array.toList d1
 subst this;exact r.inj r'
theorem Qi.tuple_inj(I:Qi X gV σ H s)(h:Qo X.K H a xs)(h':Qo X.K H a ys):xs=ys:=by
 obtain⟨its,r,⟨o,e,_,n,d⟩,_⟩:=I.tuple h;obtain⟨its',r',⟨o',e',_,n',d'⟩,_⟩:=I.tuple h';rw[e]at e';cases e';rw[d]at d';injection d' with d1 _;have:its=its':=by simpa using congrArg Array.toList d1
 subst this;exact r.inj r'
end
noncomputable abbrev Cx.wish(X:Cx)(E:Value->Shared->Prop):Cx:={X with xe:=E}
noncomputable abbrev Cx.nox(X:Cx):Cx:=X.wish λ_ _=>False
theorem Cx.Ok.wish{X:Cx}(ok:X.Ok)(E:Value->Shared->Prop):(X.wish E).Ok :=
 ⟨ok.mod,ok.kind,ok.glob,ok.blt,ok.above,ok.inj,ok.has,ok.cab,ok.hd,ok.frames,ok.stk,ok.exf,ok.bs,ok.bsz,ok.noex,ok.exfs,ok.funs,ok.frf,ok.tbs⟩
theorem Cx.Ok.unwish{X:Cx}{E:Value->Shared->Prop}(ok:(X.wish E).Ok):X.Ok :=
 ⟨ok.mod,ok.kind,ok.glob,ok.blt,ok.above,ok.inj,ok.has,ok.cab,ok.hd,ok.frames,ok.stk,ok.exf,ok.bs,ok.bsz,ok.noex,ok.exfs,ok.funs,ok.frf,ok.tbs⟩
section
variable{X:Cx}{gV:List (Addr×Obj)}{σ:St}{H:Hp}{s:Shared}{E:Value->Shared->Prop}
theorem Qi.wish(I:Qi X gV σ H s)(E:Value->Shared->Prop):Qi (X.wish E) gV σ H s:=⟨I.ok.wish E,I.os,I.bare,I.base,I.loc,I.cell,I.free,I.freeC,I.pin,I.hok,I.len⟩
theorem Qi.unwish(I:Qi (X.wish E) gV σ H s):Qi X gV σ H s:=⟨I.ok.unwish,I.os,I.bare,I.base,I.loc,I.cell,I.free,I.freeC,I.pin,I.hok,I.len⟩
theorem SP.unwish{D:K2}{f:Flow}{s':Shared}(h:SP (X.wish E) gV D f s'):SP X gV D f s':=by
 cases f with
 |next=>obtain⟨σ',H',I,q⟩:=h;exact⟨σ',H',I.unwish,q⟩
 |brk=>obtain⟨σ',H',I,q⟩:=h;exact⟨σ',H',I.unwish,q⟩
 |cont=>obtain⟨σ',H',I,q⟩:=h;exact⟨σ',H',I.unwish,q⟩
 |ret u=>obtain⟨v,σ',H',I,r,q⟩:=h;exact⟨v,σ',H',I.unwish,r,q⟩
theorem Qj.nox{st:List Stmt}{t:TS}(h:Qj X.nox st t):Qj X st t:=λgV s σ H D I hw =>
 V7 (h gV s σ H D (I.wish _) hw) (λ_ _ q=>q.unwish) λ_ _ z=>False.elim z
end
section
variable{X:Cx}{st:Stmt}{rest:List Stmt}{t u:TS}{e:Expr}{te:TE}{pos:Pos}
def OT(t u:TS):TS:=λD σ H=>t {D with nx:=u D} σ H
theorem Fk(h1:PS X st t)(h2:Qj X rest u):Qj X (st::rest) (OT t u):=by
 intro gV s σ H D I h;refine wpAny_execs_cons (Qk (h1 gV s σ H {D with nx:=u D} I h) λf s1 q=>?_)
 cases f with
 | next =>
  obtain⟨σ',H',I',q⟩:=q;exact h2 gV s1 σ' H' D I' q
 |ret v=>exact q
 |brk=>exact q
 |cont=>exact q
theorem Cj(h1:PS X st t):Qj X [st] t:=by
 intro gV s σ H D I h;refine wpAny_execs_cons (Qk (h1 gV s σ H D I h) λf s1 q=>?_)
 cases f with
 |next=>exact WV q
 |ret v=>exact q
 |brk=>exact q
 |cont=>exact q
theorem Qi.quiet{gV:List (Addr×Obj)}{σ:St}{H:Hp}{s:Shared}(I:Qi X gV σ H s):interactive X.env=false:=by simp[interactive,I.ok.kind]
def Iv(te:TE):TS:=λD σ H=>te σ H λ_ H1=>D.nx σ H1
theorem Ck(he:PE X e te)(hs:swapsWith e none pos.line X.env=pure false:=by rfl):PS X (.Expr e pos) (Iv te):=by intro gV s σ H D I h;exact wpAny_Expr_any (Qk (he gV s σ H _ I h) λv s1 ⟨x,H1,I1,r1,q1⟩=>⟨σ,H1,I1,q1⟩) I.quiet hs
end
noncomputable abbrev TG:=V->St->Hp->(St->Hp->Prop)->Prop
noncomputable abbrev Qp:=List V->St->Hp->(St->Hp->Prop)->Prop
def PG(X:Cx)(target:Expr)(t:TG):Prop :=
 ∀(gV:List (Addr×Obj))(s:Shared)(σ:St)(H:Hp)(v:V)(u:Value)(Q:St->Hp->Prop),Qi X gV σ H s->cu v u->t v σ H Q ->
  wpAny (model X.prog X.w) X.A (assign target X.env u) (λ_ s'=>∃σ' H',Qi X gV σ' H' s'/\Q σ' H') X.xe s
def Qq(X:Cx)(ts:List Expr)(t:Qp):Prop :=
 ∀(gV:List (Addr×Obj))(s:Shared)(σ:St)(H:Hp)(vs:List V)(us:List Value)(Q:St->Hp->Prop),Qi X gV σ H s->bT vs us->t vs σ H Q ->
  wpAny (model X.prog X.w) X.A (assignInOrder ((assignEach ts X.env).map (·.2)) us) (λ_ s'=>∃σ' H',Qi X gV σ' H' s'/\Q σ' H') X.xe s
noncomputable abbrev NP:=V->V->V->Hp->(Hp->Prop)->Prop
def OU(X:Cx)(t:NP):Prop :=
 ∀(gV:List (Addr×Obj))(s:Shared)(σ:St)(H:Hp)(o i v:V)(ov iv u:Value)(Q:Hp->Prop),Qi X gV σ H s->cu o ov->cu i iv->cu v u->t o i v H Q ->
  wpAny (model X.prog X.w) X.A (setItem ov iv u) (λ_ s'=>∃H',Qi X gV σ H' s'/\Q H') X.xe s
section
variable{X:Cx}{pos:Pos}
noncomputable def NQ(i:Nat):TG:=λv σ H Q=>Q (σ.set i (some v)) H
theorem uy{i:Nat}{x:Str}(hN:X.N.Nodup)(hi:X.N[i]?=some x)(hx:Qh X.env.scope x)(hf:X.fn x=true∨X.env.scope.names.lookup x=some .local:=by first|exact .inl rfl|exact .inr rfl|assumption):PG X (.Name x pos) (NQ i):=by intro gV s σ H v u Q I r h;exact wpAny_assign_Name (mT I hN hi hx r (λs' I'=>⟨_,H,I',h⟩) hf)
noncomputable def Pg:Qp:=λvs σ H Q=>vs=[]/\Q σ H
noncomputable def NR(t:TG)(u:Qp):Qp:=λvs σ H Q=>∃v r,vs=v::r/\t v σ H λσ' H'=>u r σ' H' Q
theorem Cm:Qq X [] Pg:=by intro gV s σ H vs us Q I r h;obtain⟨e,h⟩:=h;subst e;cases r;exact assignInOrder_nil ⟨σ,H,I,h⟩
theorem zO{e:Expr}{es:List Expr}{t:TG}{u:Qp}(h1:PG X e t)(h2:Qq X es u)
  (hs:(assignEach (e::es) X.env).map (·.2)=assign e X.env::(assignEach es X.env).map (·.2):=by rfl):Qq X (e::es) (NR t u):=by
 intro gV s σ H vs us Q I r h;obtain⟨v,vr,e1,h⟩:=h;subst e1
 cases r with
 | cons r rr =>
  rw[hs];refine assignInOrder_cons (Qk (h1 gV s σ H _ _ _ I r h) λ_ s1 ⟨σ1,H1,I1,q1⟩=>?_);exact h2 gV s1 σ1 H1 _ _ Q I1 rr q1
noncomputable def Ph(K:PySem.W.Frag)(n:Nat)(t:Qp):TG:=λv σ H Q=>∃a xs,v=.ref a/\Qo K H a xs/\xs.length=n/\t xs σ H Q
theorem HD{es:List Expr}{k:Nat}{t:Qp}{n:Nat}(hc:X.calm=true)(h:Qq X es t)
  (hn:(assignEach es X.env).length=n:=by rfl) (hst:(assignEach es X.env).findIdx? (·.1)=none:=by rfl):PG X (.Tuple es k pos) (Ph X.K n t):=by
 intro gV s σ H v u Q I r hw;obtain⟨a,xs,e1,hq,hl,hw⟩:=hw;subst e1;cases r;obtain⟨its,rv,ht,hz⟩:=I.tuple hq;refine assign_Tuple_tuple (I.ok.hd hc) ht (by simp[hn,<- hl,rv.length]) hst λh' hx=>?_;have I1:Qi X gV σ H {s with heap:=h' }:=I.kept (t':=s.toks) λb o e=>hx b o (Vp (U6 e)) e;exact h gV _ σ H xs _ Q I1 (by simpa using rv) hw
noncomputable def Pi(to ti:TE)(t:NP):TG:=λv σ H Q=>to σ H λo H1=>ti σ H1 λi H2=>t o i v H2 λH3=>Q σ H3
theorem Lh{o i:Expr}{to ti:TE}{t:NP}(ho:PE X o to)(hi:PE X i ti)(hs:OU X t)
  (ha:∀v,assign (.Subscript o i pos) X.env v=(do
   let ov <- holding [v] (eval o X.env)
   let iv <- holding [v,ov] (eval i X.env)
   standAt pos
   holding [v,ov,iv] (setItem ov iv v)
   release [v,ov,iv] []):=by intro _;rfl):PG X (.Subscript o i pos) (Pi to ti t):=by
 intro gV s σ H v u Q I r h;rw[ha];refine UX (Wi (Qk (ho gV s σ H _ I h) λov s1 ⟨x,H1,I1,r1,q1⟩=>?_));refine UX (Wi (Qk (hi gV s1 σ H1 _ I1 q1) λiv s2 ⟨y,H2,I2,r2,q2⟩=>?_));refine UX (W2 (UX (Wi (Qk (hs gV s2 σ H2 x y v ov iv u _ I2 r1 r2 r q2) λ_ s3 ⟨H3,I3,q3⟩=>?_))));exact wpAny_release ⟨σ,H3,I3,q3⟩
def Pj(te:TE)(g:TG):TS:=λD σ H=>te σ H λx H1=>g x σ H1 D.nx
theorem Li{tg e:Expr}{te:TE}{g:TG}(he:PE X e te)(hg:PG X tg g)(hs:swapsWithSole [tg] e pos.line X.env=pure false:=by rfl)(hw:swappedStores [tg] e X.env=pure none:=by rfl)
  (h1:(assignEach [tg] X.env).map (·.2)=[assign tg X.env]:=by rfl):PS X (.Assign [tg] e pos) (Pj te g):=by
 intro gV s σ H D I h;refine wpAny_Assign_stores (Qk (he gV s σ H _ I h) λv s1 ⟨x,H1,I1,r1,q1⟩=>?_) hs hw;rw[h1];exact Qk (hg gV s1 σ H1 x v _ I1 r1 q1) λ_ s2 q=>q
def Pk(i j:Nat)(ta:TA):TS:=λD σ H=>ta σ H λvs H1=>∃v w,vs=[v,w]/\D.nx ((σ.set i (some v)).set j (some w)) H1
theorem Lj{i j:Nat}{x y:Str}{a b:Expr}{ta:TA}{px py pt:Pos} {kt k2 pt2} (hc:X.calm=true) (hN:X.N.Nodup) (hi:X.N[i]?=some x) (hj:X.N[j]?=some y) (hij:i≠j)
  (hx:X.env.scope.names.lookup x=some .local) (hy:X.env.scope.names.lookup y=some .local) (ha:PA X [a,b] ta)
  (hw:swappedStores [.Tuple [.Name x px,.Name y py] kt pt] (.Tuple [a,b] k2 pt2) X.env=pure (some [x,y]))
  (hs:swapsWithSole [.Tuple [.Name x px,.Name y py] kt pt] (.Tuple [a,b] k2 pt2) pos.line X.env=pure false:=by rfl) :
  PS X (.Assign [.Tuple [.Name x px,.Name y py] kt pt] (.Tuple [a,b] k2 pt2) pos) (Pk i j ta):=by
 intro gV s σ H D I h;rw[exec_Assign_arm];refine UX (W2 ?_);rw[hs];refine UX (U9 ?_);rw[if_neg (by decide)];refine UX (Tuple_ (Qk (ha _ gV s σ H _ I h) λus s1 ⟨vs,H1,I1,r1,q1⟩=>?_));obtain⟨v,w,e1,q1⟩:=q1;subst e1
 obtain⟨u1,u2,rfl,rv,rw'⟩:∃u1 u2,us=[u1,u2]/\cu v u1/\cu w u2:=by
  cases r1 with
  | cons p q =>
   cases q with
   | cons p' q' =>
    cases q';exact⟨_,_,rfl,p,p'⟩
 refine WD ?_ (by show 2<=sizeLine;decide);have I2:Qi X gV σ H1 {s1 with heap:=s1.heap.push {cls:=.type "tuple",data:=.seq [u1,u2].toArray} }:=I1.kept (t':=s1.toks) λb o e=>UY _ e;rw[hw];refine UX (U9 ?_)
 show wpAny (model X.prog X.w) X.A (do rule "assign.swapped-stores"; let items <- unpackItems (.ref s1.heap.objs.size) 2 none; assignInOrder [λv=>bindName X.env y v,λv=>bindName X.env x v] items.reverse; pure Flow.next) _ _ _
 refine UX (wpAny_rule (UX (unpackItems_tuple (items:=#[u1,u2]) (I.ok.hd hc) (IsTup.new s1.heap _) λh' hx'=>?_)));have I3:=I2.kept (h':=h') (t':=s1.toks) λb o e=>hx' b o (Vp (U6 e)) e
 show wpAny _ _ (assignInOrder [λv=>bindName X.env y v,λv=>bindName X.env x v] [u2,u1] >>= λ_=>pure Flow.next) _ _ _
 refine UX (assignInOrder_cons (wpAny_bindName (mT I3 hN hj (.inl hy) rw' (λs2 I4=>?_) (.inr hy))));refine assignInOrder_cons (wpAny_bindName (mT I4 hN hi (.inl hx) rv (λs3 I5=>assignInOrder_nil (U9 ?_)) (.inr hx)));rw[List.set_comm _ _ (VX hij)]at I5;exact⟨_,H1,I5,q1⟩
end
section
variable{X:Cx}{pos:Pos}
def Lk(c:TT)(tb:TS):TS:=λD σ H=>∃W:Nat->St->Hp->Prop,(∃m,W m σ H)/\∀m σ H,W m σ H ->
 c σ H λb H1=>if b=true then ∃N:St->Hp->Prop,(∀σ' H',N σ' H'->∃m',m' < m/\W m' σ' H')/\tb {D with nx:=N,ct:=N,bk:=D.nx} σ H1 else D.nx σ H1
theorem Fm{c:Expr}{body:List Stmt}{tc:TT}{tb:TS}(hp:PassesOwn (model X.prog X.w) X.A X.env X.xe)(hc:PT X c tc)(hb:Qj X body tb):PS X (.While c body [] pos) (Lk tc tb):=by
 intro gV s σ H D I h;obtain⟨W,⟨m0,w0⟩,turn⟩:=h;refine wpAny_While (codeAny_whileLoop (λn s'=>∃σ' H',Qi X gV σ' H' s'/\W n σ' H') ?_ m0 ⟨σ,H,I,w0⟩);rintro n s1 ⟨σ1,H1,I1,w1⟩;refine WU hp (Qk (hc gV s1 σ1 H1 _ I1 (turn n σ1 H1 w1)) λb s2 ⟨H2,I2,q2⟩=>?_)
 cases b with
 | true =>
  obtain⟨N,hN,q2⟩:=q2;rw[if_pos rfl];refine WU hp (Qk (hb gV s2 σ1 H2 _ I2 q2) λf s3 q3=>?_)
  cases f with
  | next =>
   obtain⟨σ3,H3,I3,n3⟩:=q3;obtain⟨m',hm,w3⟩:=hN σ3 H3 n3;exact⟨m',hm,σ3,H3,I3,w3⟩
  | cont =>
   obtain⟨σ3,H3,I3,n3⟩:=q3;obtain⟨m',hm,w3⟩:=hN σ3 H3 n3;exact⟨m',hm,σ3,H3,I3,w3⟩
  |brk=>exact q3
  |ret v=>exact q3
 | false =>
  rw[if_neg Vt];exact WV ⟨σ1,H2,I2,q2⟩
end
structure It where
 go:Nat->Hp->Prop
 yld:Nat->Hp->V->Hp->Prop
 stop:Nat->Hp->Prop
def Cn(X:Cx)(gV:List (Addr×Obj))(H:Hp)(b:Addr):Prop :=
 H b=none/\b≠X.env.locals/\b∉X.fs/\(b∈X.ex∨X.s₀.heap.objs.size<=b)/\(∀x c,X.env.cells.lookup x=some c->c≠b)/\∀p∈X.pn++gV,p.1≠b
theorem Qi.fpOk{X:Cx}{gV:List (Addr×Obj)}{σ:St}{H H':Hp}{s:Shared}{b:Addr}(I:Qi X gV σ H s)(hb:s.heap.objs.size<=b)(hn:H' b=none):Cn X gV H' b:=by
 refine⟨hn,Nat.ne_of_gt (U2 I.lt hb),I.nofs hb,.inr (U8 I.sz hb),λx c e z=>?_,λp hp z=>?_⟩
 . obtain⟨v,q⟩:=I.cell x c e;exact absurd (U2 q.lt (by rw[z];exact hb)) (Wq _)
 . exact absurd (U2 (U6 (I.pin p hp).1) (by rw[z];exact hb)) (Wq _)
structure Iw (P:Program) (w:World) (K:PySem.W.Frag) (tg:Expr) (J:It) (fp:List Addr) (it:Addr) (tn:Nat->Heap->Prop):Prop where
 mem:it∈fp
 obj:∀i h,tn i h->∀b∈fp,∃o,h.get? b=some o/\∀v,o.data≠.cell v
 keep:∀i h h',tn i h->(∀b∈fp,∀o,h.get? b=some o->h'.get? b=some o)->tn i h'
 item:∀(X:Cx),X.prog=P->X.w=w->X.K=K->X.calm=true->∀(i:Nat)(gV:List (Addr×Obj))(s:Shared)(σ:St)(H:Hp)(E:Value->Shared->Prop),Qi X gV σ H s->(∀b∈fp,Cn X gV H b)->tn i s.heap->J.go i H ->
  wpAny (model P w) X.A (pyNext (.ref it)) (λr s1=>∃u,r=some u /\
   wpAny (model P w) X.A (letOwnedTupleGo tg (.ref it) u) (λ_ s2=>∃x H',Qi X gV σ H' s2/\cu x u/\J.yld i H x H'/\tn (i+1) s2.heap/\∀b∈fp,H' b=none) E s1) E s
 done:∀(X:Cx),X.prog=P->X.w=w->X.K=K->X.calm=true->∀(i:Nat)(gV:List (Addr×Obj))(s:Shared)(σ:St)(H:Hp)(E:Value->Shared->Prop),Qi X gV σ H s->(∀b∈fp,Cn X gV H b)->tn i s.heap->J.stop i H ->
  wpAny (model P w) X.A (pyNext (.ref it)) (λr s1=>r=none/\Qi X gV σ H s1) E s
 self:∀(A:Around)(i:Nat)(s:Shared)(Q:Value->Shared->Prop)(E:Value->Shared->Prop),tn i s.heap->Q (.ref it) s->wpAny (model P w) A (pyIter (.ref it)) Q E s
noncomputable abbrev TI:=St->Hp->(It->Hp->Prop)->Prop
def Qr(X:Cx)(gV:List (Addr×Obj))(σ:St)(tg:Expr)(R:It->Hp->Prop)(itv:Value)(s2:Shared):Prop :=
 ∃(it:Addr)(fp:List Addr)(tn:Nat->Heap->Prop)(J:It)(H':Hp),itv=.ref it/\Qi X gV σ H' s2/\Iw X.prog X.w X.K tg J fp it tn/\tn 0 s2.heap/\(∀b∈fp,Cn X gV H' b)/\R J H'
def PI(X:Cx)(tg iter:Expr)(wi:TI):Prop :=
 ∀(gV:List (Addr×Obj))(s:Shared)(σ:St)(H:Hp)(R:It->Hp->Prop),Qi X gV σ H s->wi σ H R ->
  wpAny (model X.prog X.w) X.A (eval iter X.env) (λv s1=>wpAny (model X.prog X.w) X.A (pyIter v) (Qr X gV σ tg R) X.xe s1) X.xe s
theorem Iy {M : Model} {A : Around} {E : Value → Shared → Prop} {s : Shared} {tg : Expr} {it : Addr} {u : Value} {o : Obj} {n : String} {vs : Array Value} {Q : Unit → Shared → Prop} (ho : s.heap.get? it = some o) (hc : o.cls = .type n) (hd : o.data = .fields vs)
    (hn : ["enumerate", "zip", "dict_itemiterator", "dict_reverseitemiterator", "odict_iterator", "itertools.zip_longest", "itertools.pairwise"].contains n = false) (hQ : Q () s) : wpAny M A (letOwnedTupleGo tg (.ref it) u) Q E s := by
  unfold letOwnedTupleGo
  cases tg<;>first
    |exact U9 hQ
    | (cases u<;>first
        |exact U9 hQ
        | (refine UX (wpAny_load ho ?_)
           rw[hc, hd]
           show wpAny M A (if(["enumerate", "zip", "dict_itemiterator", "dict_reverseitemiterator", "odict_iterator", "itertools.zip_longest", "itertools.pairwise"].contains n && vs[0]? == some (rawInt _)) = true then _ else _) Q E s
           rw[if_neg (by intro h;rw[hn, Wz]at h;cases h)]
           exact U9 hQ))
noncomputable def Qs(K:PySem.W.Frag)(a:Addr):It :=
 ⟨λi H=>∃xs x,Qn K H a xs/\xs[i]?=some x,λi H x H'=>H'=H/\∀xs,Qn K H a xs->xs[i]?=some x,λi H=>∃xs,Qn K H a xs/\xs.length<=i⟩
noncomputable def Qt(K:PySem.W.Frag)(a:Addr):It :=
 ⟨λi H=>∃xs x,Qo K H a xs/\xs[i]?=some x,λi H x H'=>H'=H/\∀xs,Qo K H a xs->xs[i]?=some x,λi H=>∃xs,Qo K H a xs/\xs.length<=i⟩
noncomputable def Qu(lo:Int)(n:Nat):It:=⟨λi _=>i<n,λi H x H'=>H'=H/\x=.int (lo+i),λi _=>n<=i⟩
theorem Co{P:Program}{w:World}{K:PySem.W.Frag}{tg:Expr}(a it:Addr):Iw P w K tg (Qs K a) [it] it (λi h=>h.IsListIter it a i) where
 mem:=by simp
 obj:=λi h st b hb=>by
  have e:b=it:=by simpa using hb
  subst e;obtain⟨o,e,c,d⟩:=st;exact⟨o,e,λv z=>by rw[d]at z;cases z⟩
 keep:=λi h h' st k=>st.at λo e=>k it v6 o e
 item:=by intro X hP hw hK hc i gV s σ H E I hf st hg;subst hP hw hK;obtain⟨xs,x,hq,hx⟩:=hg;obtain⟨its,rv,p,hz⟩:=I.list hq;obtain⟨u,hu,ru⟩:=rv.get hx;obtain⟨f0,f1,f2,f3,f4,f5⟩:=hf it v6;refine wpAny_pyNext_list_item st p.isList (x:=u) (by simpa using hu) λh' st' sb=>?_;have I1:Qi X gV σ H {s with heap:=h' }:=I.turned (t':=s.toks) (λb o hb e=>(sb.2 b hb).trans e) f0 f1 f3 f4 f5;obtain⟨o,e,c,d⟩:=id st';exact⟨u,rfl,Iy (s:={s with heap:=h' }) e c d x_ ⟨x,H,I1,ru,⟨rfl,λys hy=>by rw[I.list_inj hy hq];exact hx⟩,st',λb hb=>(hf b hb).1⟩⟩
 done:=by intro X hP hw hK hc i gV s σ H E I hf st hg;subst hP hw hK;obtain⟨xs,hq,hx⟩:=hg;obtain⟨its,rv,p,hz⟩:=I.list hq;obtain⟨f0,f1,f2,f3,f4,f5⟩:=hf it v6;have hl:=rv.length;exact wpAny_pyNext_list_end (I.ok.hd hc) st p.isList (by simp;omega) λh' eb=>⟨rfl,I.turned (t':=s.toks) (λb o hb e=>eb b o hb e) f0 f1 f3 f4 f5⟩
 self:=λ_ _ _ _ _ st h=>wpAny_pyIter_listiter st h
theorem A9{P:Program}{w:World}{K:PySem.W.Frag}{tg:Expr}(a it:Addr):Iw P w K tg (Qt K a) [it] it (λi h=>h.IsTupleIter it a i) where
 mem:=by simp
 obj:=λi h st b hb=>by
  have e:b=it:=by simpa using hb
  subst e;obtain⟨o,e,c,d⟩:=st;exact⟨o,e,λv z=>by rw[d]at z;cases z⟩
 keep:=λi h h' st k=>st.at λo e=>k it v6 o e
 item:=by intro X hP hw hK hc i gV s σ H E I hf st hg;subst hP hw hK;obtain⟨xs,x,hq,hx⟩:=hg;obtain⟨its,rv,p,hz⟩:=I.tuple hq;obtain⟨u,hu,ru⟩:=rv.get hx;obtain⟨f0,f1,f2,f3,f4,f5⟩:=hf it v6;refine wpAny_pyNext_tuple_item st (show s.heap.IsTuple a its.toArray from p) (x:=u) (by simpa using hu) λh' st' sb=>?_;have I1:Qi X gV σ H {s with heap:=h' }:=I.turned (t':=s.toks) (λb o hb e=>(sb.2 b hb).trans e) f0 f1 f3 f4 f5;obtain⟨o,e,c,d⟩:=id st';exact⟨u,rfl,Iy (s:={s with heap:=h' }) e c d x_ ⟨x,H,I1,ru,⟨rfl,λys hy=>by rw[I.tuple_inj hy hq];exact hx⟩,st',λb hb=>(hf b hb).1⟩⟩
 done:=by intro X hP hw hK hc i gV s σ H E I hf st hg;subst hP hw hK;obtain⟨xs,hq,hx⟩:=hg;obtain⟨its,rv,p,hz⟩:=I.tuple hq;obtain⟨f0,f1,f2,f3,f4,f5⟩:=hf it v6;have hl:=rv.length;exact wpAny_pyNext_tuple_end (I.ok.hd hc) st (show s.heap.IsTuple a its.toArray from p) (by simp;omega) λh' eb=>⟨rfl,I.turned (t':=s.toks) (λb o hb e=>eb b o hb e) f0 f1 f3 f4 f5⟩
 self:=λ_ _ _ _ _ st h=>wpAny_pyIter_tupleiter st h
theorem Ba{P:Program}{w:World}{K:PySem.W.Frag}{tg:Expr}(it:Addr)(lo:Int)(n:Nat):Iw P w K tg (Qu lo n) [it] it (λi h=>IsRangeIter h it (lo+(i:Nat)*1) ((n:Int)-(i:Nat)) 1) where
 mem:=by simp
 obj:=λi h st b hb=>by
  have e:b=it:=by simpa using hb
  subst e
  exact⟨_,st,λv z=>by
   have z':Data.fields _=Data.cell v:=z
   cases z'⟩
 keep:=λi h h' st k=>k it v6 _ st
 item:=by intro X hP hw hK hc i gV s σ H E I hf st hg;subst hP hw hK;obtain⟨f0,f1,f2,f3,f4,f5⟩:=hf it v6;have W:=Walks.range (prog:=X.prog) (w:=X.w) (I.ok.hd hc) it lo 1 n;refine W.item i s _ _ hg st λv h' tk hv st' kk=>?_;obtain⟨t,rfl⟩:=hv;have I1:Qi X gV σ H {s with heap:=h',toks:=tk}:=I.turned (λb o hb e=>kk b o (by simpa using hb) e) f0 f1 f3 f4 f5;refine⟨_,rfl,Iy (s:={s with heap:=h',toks:=tk}) (n:="range_iterator") st' rfl rfl x_ ⟨.int (lo+i),H,I1,⟨t,?_⟩,⟨rfl,rfl⟩,st',λb hb=>(hf b hb).1⟩⟩;rw[Int.mul_one]
 done:=by intro X hP hw hK hc i gV s σ H E I hf st hg;subst hP hw hK;obtain⟨f0,f1,f2,f3,f4,f5⟩:=hf it v6;exact wpAny_pyNext_range_end (I.ok.hd hc) st (by have:n<=i:=hg;omega) λh' eb=>⟨rfl,I.turned (t':=s.toks) (λb o hb e=>eb b o hb e) f0 f1 f3 f4 f5⟩
 self:=λ_ _ _ _ _ st h=>wpAny_pyIter_rangeiter st h
section
variable{X:Cx}{tg:Expr}
theorem zQ{gV:List (Addr×Obj)}{σ:St}{H:Hp}{s:Shared}{R:It->Hp->Prop}{E:Value->Shared->Prop}{lo hi:Int}{t u v:Tok}{tk:Nat}(I:Qi X gV σ H s)(h1 : -(2^62)<=lo)(h2:lo<2^62)(h3 : -(2^62)<=hi)(h4:hi<2^62)
  (q:R (Qu lo (hi-lo).toNat) H):wpAny (model X.prog X.w) X.A (pyIter (.ref s.heap.objs.size)) (Qr X gV σ tg R) E {s with heap:=s.heap.push {cls:=.type "range",data:=.fields #[.int lo t,.int hi u,.int 1 v] },toks:=tk}:=by
 refine wpAny_pyIter_range (IsRange.new ..) (small_one h1 h2 h3 h4) ?_;have I1:Qi X gV σ H {s with heap:=s.heap.push {cls:=.type "range",data:=.fields #[.int lo t,.int hi u,.int 1 v] },toks:=tk}:=I.kept λb o e=>UY _ e
 refine⟨(s.heap.push {cls:=.type "range",data:=.fields #[.int lo t,.int hi u,.int 1 v] }).objs.size,[(s.heap.push {cls:=.type "range",data:=.fields #[.int lo t,.int hi u,.int 1 v] }).objs.size],_,_,H,rfl,
  I1.kept (t':=tk) λb o e=>UY _ e,Ba _ lo (hi-lo).toNat,?_,λb hb=>?_,q⟩
 .
  have e1:lo+((0:Nat):Int)*1=lo:=by simp
  have e2:(((hi-lo).toNat:Nat):Int)-((0:Nat):Int)=Builtin.Range.rangeSize lo hi 1:=by rw[rangeSize_one];split<;>omega
  show IsRangeIter _ _ (lo+((0:Nat):Int)*1) ((((hi-lo).toNat:Nat):Int)-((0:Nat):Int)) 1;rw[e1,e2];exact Vn _ rfl
 .
  have e:b=(s.heap.push {cls:=.type "range",data:=.fields #[.int lo t,.int hi u,.int 1 v] }).objs.size:=by simpa using hb
  subst e;exact I1.fpOk (Vb _) (I1.hok.fresh (Vb _))
noncomputable def NS(ta:TA):TI:=λσ H R=>ta σ H λvs H1=>∃j:Int,vs=[.int j]/\-(2^62)<=j/\j<2^62/\R (Qu 0 j.toNat) H1
noncomputable def NT(ta:TA):TI:=λσ H R=>ta σ H λvs H1=>∃i j:Int,vs=[.int i,.int j]/\(-(2^62)<=i/\i<2^62/\-(2^62)<=j/\j<2^62)/\R (Qu i (j-i).toNat) H1
theorem Cp{a:Expr}{ta:TA}{p pos:Pos} (hg:Gl X "range") (hm:X.mg "range"=none) (ha:PA X [a] ta) (hs:starEach [a] X.env=[(false,eval a X.env)]:=by rfl):PI X tg (.Call (.Name "range" p) [a] [] pos) (NS ta):=by
 intro gV s σ H R I h;refine Call_ (jw I hg hm boot_range (VV (Qk (ha pos gV s σ H _ I h) λus s1 ⟨vs,H1,I1,r1,q1⟩=>?_) hs rfl));obtain⟨j,e,q1,q2,q⟩:=q1;subst e
 cases r1 with
 | cons r rr =>
  cases rr;obtain⟨t,rfl⟩:=r;exact call_range_1 (zQ I1 xL xL q1 q2 (by simpa using q))
theorem Cq{a b:Expr}{ta:TA}{p pos:Pos} (hg:Gl X "range") (hm:X.mg "range"=none) (ha:PA X [a,b] ta) (hs:starEach [a,b] X.env=[(false,eval a X.env),(false,eval b X.env)]:=by rfl) (hs2:starEach [b] X.env=[(false,eval b X.env)]:=by rfl) :
  PI X tg (.Call (.Name "range" p) [a,b] [] pos) (NT ta):=by
 intro gV s σ H R I h;refine Call_ (jw I hg hm boot_range (VV (Qk (ha pos gV s σ H _ I h) λus s1 ⟨vs,H1,I1,r1,q1⟩=>?_) (by rw[hs,hs2]) (by rw[hs2];rfl)));obtain⟨i,j,e,⟨q1,q2,q3,q4⟩,q⟩:=q1;subst e
 cases r1 with
 | cons r rr =>
  cases rr with
  | cons r' rr =>
   cases rr;obtain⟨t,rfl⟩:=r;obtain⟨t',rfl⟩:=r';exact call_range_2 (zQ I1 q1 q2 q3 q4 q)
noncomputable def vV(fp:List Addr)(h:Heap):List (Addr×Obj):=fp.filterMap λb=>(h.get? b).map λo=>(b,o)
theorem kW{fp:List Addr}{h:Heap}{b:Addr}{o:Obj}(hb:b∈fp)(e:h.get? b=some o):(b,o)∈vV fp h:=WQ.mpr ⟨b,hb,by rw[e];rfl⟩
theorem Cr{fp:List Addr}{h:Heap}{p:Addr×Obj}(hp:p∈vV fp h):p.1∈fp/\h.get? p.1=some p.2:=by
 obtain⟨b,hb,e⟩:=WQ.mp hp
 cases q:h.get? b with
 |none=>rw[q]at e;cases e
 | some o =>
  rw[q]at e;have e':(b,o)=p:=Vq e;subst e';exact⟨hb,q⟩
theorem Qi.pinned{gV:List (Addr×Obj)}{σ:St}{H:Hp}{s:Shared}{fp:List Addr}(I:Qi X gV σ H s)(hf:∀b∈fp,Cn X gV H b)(ho:∀b∈fp,∃o,s.heap.get? b=some o/\∀v,o.data≠.cell v):Qi X (gV++vV fp s.heap) σ H s :=
 I.pins_of λp hp=>(Vx.mp hp).elim (λz=>I.pin p (Vi _ z)) λz=>by obtain⟨hb,e⟩:=Cr z;obtain⟨f0,f1,f2,_⟩:=hf p.1 hb;obtain⟨o,e',d⟩:=ho p.1 hb;rw[e]at e';cases e';exact⟨e,f0,f1,f2,d⟩
theorem Qi.unpinned{gV pl:List (Addr×Obj)}{σ:St}{H:Hp}{s:Shared}(I:Qi X (gV++pl) σ H s):Qi X gV σ H s:=I.pins_of λp hp=>I.pin p (Vi _ (Vh _ hp))
end
abbrev R2:=V->V->Hp->VK->Prop
def Qv(X:Cx)(f:Value->Value->Sem Value)(r:R2):Prop :=
 ∀(gV:List (Addr×Obj))(s:Shared)(σ:St)(H:Hp)(x y:V)(v u:Value)(Q:VK),Qi X gV σ H s->cu x v->cu y u->r x y H Q ->
  wpAny (model X.prog X.w) X.A (f v u) (EP X gV σ Q) X.xe s
def Qw(X:Cx)(f:Value->Sem Value)(r:V->Hp->VK->Prop):Prop :=
 ∀(gV:List (Addr×Obj))(s:Shared)(σ:St)(H:Hp)(x:V)(v:Value)(Q:VK),Qi X gV σ H s->cu x v->r x H Q ->
  wpAny (model X.prog X.w) X.A (f v) (EP X gV σ Q) X.xe s
def jP(X:Cx)(f:Value)(r:List V->Hp->VK->Prop):Prop :=
 ∀(gV:List (Addr×Obj))(s:Shared)(σ:St)(H:Hp)(xs:List V)(us:List Value)(Q:VK),Qi X gV σ H s->bT xs us->r xs H Q ->
  wpAny (model X.prog X.w) X.A (call f us) (EP X gV σ Q) X.xe s
def Qx(r:R2)(ta tb:TE):TE:=λσ H Q=>ta σ H λx H1=>tb σ H1 λy H2=>r x y H2 Q
def rI(C:Int->Int->Prop)(g:Int->Int->V):R2:=λx y H Q=>∃i j,x=.int i/\y=.int j/\C i j/\Q (g i j) H
def Qy(g:Int->Int->V):R2:=λx y H Q=>∃i j,x=.int i/\y=.int j/\Q (g i j) H
def rU(g:Int->V):V->Hp->VK->Prop:=λx H Q=>∃i,x=.int i/\Q (g i) H
section
variable{X:Cx}{a b:Expr}{ta tb:TE}
theorem Pl(ha:PE X a ta)(hb:PE X b tb){gV:List (Addr×Obj)}{s:Shared}{σ:St}{H:Hp}{R:V->V->Hp->Prop}(I:Qi X gV σ H s)
  (h:ta σ H λx H1=>tb σ H1 λy H2=>R x y H2) {Q:Value->Shared->Prop} {f:Value->Value->Sem Value}
  (hf:∀v u s2 x y H2,Qi X gV σ H2 s2->cu x v->cu y u->R x y H2->wpAny (model X.prog X.w) X.A (f v u) Q X.xe s2) :
  wpAny (model X.prog X.w) X.A (eval a X.env) (λv s₁=>wpAny (model X.prog X.w) X.A (eval b X.env) (λu s₂=>wpAny (model X.prog X.w) X.A (f v u) Q X.xe s₂) X.xe s₁) X.xe s:=by
 refine Qk (ha gV s σ H _ I h) λv s1 ⟨x,H1,I1,r1,q1⟩=>?_;refine Qk (hb gV s1 σ H1 _ I1 q1) λu s2 ⟨y,H2,I2,r2,q2⟩=>?_;exact hf v u s2 x y H2 I2 r1 r2 q2
theorem Qz{f:Value->Value->Sem Value}{C:Int->Int->Prop}{g:Int->Int->Int}
  (rule:∀(i j:Int)(t u:Tok)(s:Shared)(Q:Value->Shared->Prop)(E:Value->Shared->Prop),C i j->Q (.int (g i j) s.toks) {s with toks:=s.toks+1}->wpAny (model X.prog X.w) X.A (f (.int i t) (.int j u)) Q E s) :
  Qv X f (rI C λi j=>.int (g i j)):=by
 intro gV s σ H x y v u Q I rx ry h;obtain⟨i,j,rfl,rfl,hc,q⟩:=h;obtain⟨t,rfl⟩:=rx;obtain⟨t',rfl⟩:=ry;exact rule i j t t' s _ _ hc ⟨.int (g i j),H,I.tok _,⟨_,rfl⟩,q⟩
theorem OV{f:Value->Value->Sem Value}{g:Int->Int->Int}
  (rule:∀(i j:Int)(t u:Tok)(s:Shared)(Q:Value->Shared->Prop)(E:Value->Shared->Prop),Q (.int (g i j) s.toks) {s with toks:=s.toks+1}->wpAny (model X.prog X.w) X.A (f (.int i t) (.int j u)) Q E s) :
  Qv X f (Qy λi j=>.int (g i j)):=by
 intro gV s σ H x y v u Q I rx ry h;obtain⟨i,j,rfl,rfl,q⟩:=h;obtain⟨t,rfl⟩:=rx;obtain⟨t',rfl⟩:=ry;exact rule i j t t' s _ _ ⟨.int (g i j),H,I.tok _,⟨_,rfl⟩,q⟩
theorem ND{f:Value->Value->Sem Value}{g:Int->Int->Bool}
  (rule:∀(i j:Int)(t u:Tok)(s:Shared)(Q:Value->Shared->Prop)(E:Value->Shared->Prop),Q (.bool (g i j)) s->wpAny (model X.prog X.w) X.A (f (.int i t) (.int j u)) Q E s) :
  Qv X f (Qy λi j=>.bl (g i j)):=by
 intro gV s σ H x y v u Q I rx ry h;obtain⟨i,j,rfl,rfl,q⟩:=h;obtain⟨t,rfl⟩:=rx;obtain⟨t',rfl⟩:=ry;exact rule i j t t' s _ _ ⟨.bl (g i j),H,I,rfl,q⟩
def Pn(i j:Int):Prop:=0<=j/\j<=1000000/\i.natAbs<2^64
def OW(i j:Int):Prop:=(-(2^64)<i/\i<2^64)∨(-(2^64)<j/\j<2^64)
theorem OW.ok{i j:Int}(h:OW i j):IntMulOk i j:=by
 rcases h with⟨h1,h2⟩|⟨h1,h2⟩
 . exact .of_left (intBits_le_64 h1 h2)
 . exact .of_right (intBits_le_64 h1 h2)
theorem Ll:Qv X (binaryOp .Add) (Qy λi j=>.int (i+j)):=OV λ_ _ _ _ _ _ _ q=>add_int q
theorem Ln:Qv X (binaryOp .Sub) (Qy λi j=>.int (i-j)):=OV λ_ _ _ _ _ _ _ q=>sub_int q
theorem Iz:Qv X (binaryOp .Mod) (rI (λ_ j=>j≠0) λi j=>.int (i.fmod j)):=Qz λ_ _ _ _ _ _ _ hc q=>mod_int' hc q
theorem Lo:Qv X (binaryOp .Pow) (rI Pn λi j=>.int (i^j.toNat)):=Qz λ_ _ _ _ _ _ _ hc q=>pow_int_small hc.1 hc.2.1 hc.2.2 q
theorem QA{f:Value->Sem Value}{g:Int->Int}
  (rule:∀(i:Int)(t:Tok)(s:Shared)(Q:Value->Shared->Prop)(E:Value->Shared->Prop),Q (.int (g i) s.toks) {s with toks:=s.toks+1}->wpAny (model X.prog X.w) X.A (f (.int i t)) Q E s) :
  Qw X f (rU λi=>.int (g i)):=by
 intro gV s σ H x v Q I rx h;obtain⟨i,rfl,q⟩:=h;obtain⟨t,rfl⟩:=rx;exact rule i t s _ _ ⟨.int (g i),H,I.tok _,⟨_,rfl⟩,q⟩
theorem Lp:Qw X (unaryOp .USub) (rU λi=>.int (-i)):=QA λ_ _ _ _ _ q=>neg_int q
end
noncomputable def Po:V->V->Bool
 |.non,.non=>true | .non,.int _=>true | .int _,.non=>true | .non,.bl _=>true | .bl _,.non=>true | .non,.str _=>true | .str _,.non=>true
 |.int _,.int _=>true | .bl _,.bl _=>true | .str _,.str _=>true | .byt _,.byt _=>true
 |.int _,.str _=>true | .str _,.int _=>true | .bl _,.str _=>true | .str _,.bl _=>true
 |_,_=>false
def QB:R2:=λx y H Q=>Po x y=true/\Q (.bl (decide (x=y))) H
theorem ID{i j:Int}:decide (V.int i=V.int j)=(i == j):=by rw[WG];simp
theorem Lq{i j:Bool}:decide (V.bl i=V.bl j)=(i == j):=by rw[WG];simp
theorem IE{i j:Str}:decide (V.str i=V.str j)=(i == j):=by rw[WG];simp
theorem IF{i j:Array UInt8}:decide (V.byt i=V.byt j)=(i.toList == j.toList):=by rw[WG];cases i;cases j;simp
section
variable{X:Cx}{a b c:Expr}{ta tb tc:TE}{pos:Pos}
theorem eS{gV:List (Addr×Obj)}{σ:St}{H:Hp}{s:Shared}{Q:VK}{k k':Bool}(I:Qi X gV σ H s)(q:Q (.bl k) H)(e:k=k'):EP X gV σ Q (.bool k') s:=by subst e;exact⟨.bl k,H,I,rfl,q⟩
theorem NU:Qv X (compareOp .Eq) QB:=by
 intro gV s σ H x y v u Q I rx ry h;obtain⟨hs,q⟩:=h
 cases x with
 | non =>
  cases rx
  cases y with
  |non=>cases ry;exact PySem.EqNone.eq_none_none (eS I q v6)
  |bl j=>cases ry;exact PySem.EqNone.eq_none_bool (eS I q v6)
  |int j=>obtain⟨t',rfl⟩:=ry;exact PySem.EqNone.eq_none_int (eS I q v6)
  |str j=>obtain⟨t',rfl⟩:=ry;exact PySem.EqNone.eq_none_str (eS I q v6)
  |_=>exact absurd (show false=true from hs) Vt
 | bl i =>
  cases rx
  cases y with
  |non=>cases ry;exact PySem.EqNone.eq_bool_none (eS I q v6)
  |bl j=>cases ry;exact eq_bool (eS I q Lq)
  |str j=>obtain⟨t',rfl⟩:=ry;exact PySem.EqMixed.eq_bool_str (eS I q v6)
  |_=>exact absurd (show false=true from hs) Vt
 | int i =>
  obtain⟨t,rfl⟩:=rx
  cases y with
  |non=>cases ry;exact PySem.EqNone.eq_int_none (eS I q v6)
  |int j=>obtain⟨t',rfl⟩:=ry;exact eq_int (eS I q ID)
  |str j=>obtain⟨t',rfl⟩:=ry;exact PySem.EqMixed.eq_int_str (eS I q v6)
  |_=>exact absurd (show false=true from hs) Vt
 | str i =>
  obtain⟨t,rfl⟩:=rx
  cases y with
  |non=>cases ry;exact PySem.EqNone.eq_str_none (eS I q v6)
  |bl j=>cases ry;exact PySem.EqMixed.eq_str_bool (eS I q v6)
  |int j=>obtain⟨t',rfl⟩:=ry;exact PySem.EqMixed.eq_str_int (eS I q v6)
  |str j=>obtain⟨t',rfl⟩:=ry;exact eq_str (eS I q IE)
  |_=>exact absurd (show false=true from hs) Vt
 | byt i =>
  obtain⟨t,rfl⟩:=rx
  cases y with
  |byt j=>obtain⟨t',rfl⟩:=ry;exact PySem.W.eq_bytes (eS I q IF)
  |_=>exact absurd (show false=true from hs) Vt
 |_=>cases y<;>exact absurd (show false=true from hs) Vt
theorem Lr:Qv X (compareOp .Lt) (Qy λi j=>.bl (decide (i<j))):=ND λ_ _ _ _ _ _ _ q=>lt_int q
theorem NV:Qv X (compareOp .LtE) (Qy λi j=>.bl (decide (i<=j))):=ND λ_ _ _ _ _ _ _ q=>le_int q
theorem NW:Qv X (compareOp .Gt) (Qy λi j=>.bl (decide (j<i))):=ND λ_ _ _ _ _ _ _ q=>gt_int q
theorem NX:Qv X (compareOp .GtE) (Qy λi j=>.bl (decide (j<=i))):=ND λ_ _ _ _ _ _ _ q=>ge_int q
theorem Ls:Qv X (compareOp .Is) (λx y H Q=>y=.non/\Q (.bl (decide (x=.non))) H):=by
 intro gV s σ H x y v u Q I rx ry h;obtain⟨rfl,q⟩:=h;cases ry;refine is_none_gen (eS I q ?_)
 cases x<;>first
  |(cases rx;rfl)
  |(obtain⟨t,rfl⟩:=rx;rfl)
theorem IG:Qv X (compareOp .IsNot) (λx y H Q=>y=.non/\Q (.bl (!decide (x=.non))) H):=by
 intro gV s σ H x y v u Q I rx ry h;obtain⟨rfl,q⟩:=h;cases ry;refine isnot_none_gen (eS I q ?_)
 cases x<;>first
  |(cases rx;rfl)
  |(obtain⟨t,rfl⟩:=rx;rfl)
theorem aS(b:Expr){op:CmpOp}(h:op≠.In:=by decide)(h2:op≠.NotIn:=by decide):behindInMarks op b=false:=by
 have e1:(op == CmpOp.In)=false:=by cases op<;>first|rfl|exact absurd rfl h
 have e2:(op == CmpOp.NotIn)=false:=by cases op<;>first|rfl|exact absurd rfl h2
 cases b<;>simp[behindInMarks,e1,e2]
def HE(r r':R2)(ta tb tc:TE):TE:=λσ H Q=>ta σ H λx H1=>tb σ H1 λy H2=>r x y H2 λz H3=>∃k,z=.bl k /\
 (if k=true then tc σ H3 λw' H4=>r' y w' H4 Q else Q (.bl false) H3)
theorem Fn{op op':CmpOp}{r r':R2}(ho:Qv X (compareOp op) r)(ho':Qv X (compareOp op') r')(ha:PE X a ta)(hb:PE X b tb)(hc:PE X c tc)
  (hm:lastMarks [op,op'] [b,c]=false:=by with_unfolding_all rfl):PE X (.Compare a [op,op'] [b,c] pos) (HE r r' ta tb tc):=by
 intro gV s σ H Q I h
 refine Compare_chain (Qk (ha gV s σ H _ I h) λv s1 ⟨x,H1,I1,r1,q1⟩=>chain_link (Qk (hb gV s1 σ H1 _ I1 q1) λu s2 ⟨y,H2,I2,r2,q2⟩ =>
  Qk (ho gV s2 σ H2 x y v u _ I2 r1 r2 q2) λd s3 ⟨z,H3,I3,r3,k,e,q3⟩=>?_)) hm
 subst e;cases r3;refine V9 ?_
 cases k with
 |false=>exact ite_ff ⟨.bl false,H3,I3,rfl,q3⟩
 |true=>exact ite_tt (chain_last (Qk (hc gV s3 σ H3 _ I3 q3) λw' s4 ⟨z',H4,I4,r4,q4⟩=>ho' gV s4 σ H4 y z' u w' Q I4 r2 r4 q4))
theorem t4:(sizeLine:Nat)<2^63:=by rw[WZ];decide
theorem Bb:Qv X (binaryOp .Add) (λx y H Q=>∃i j,x=.str i/\y=.str j/\i.length+j.length<=sizeLine/\Q (.str (i++j)) H):=by intro gV s σ H x y v u Q I rx ry h;obtain⟨i,j,rfl,rfl,hz,q⟩:=h;obtain⟨t,rfl⟩:=rx;obtain⟨t',rfl⟩:=ry;exact add_str (λt' tk=>⟨.str (i++j),H,I.tok _,⟨_,rfl⟩,q⟩) hz
theorem sY{x:V}{us:List Value}(r:bT [x] us):∃u,us=[u]/\cu x u:=by
 cases r with
 |cons r1 r2=>cases r2;exact⟨_,rfl,r1⟩
theorem Fo{x y:V}{us:List Value}(r:bT [x,y] us):∃u w',us=[u,w']/\cu x u/\cu y w':=by
 cases r with
 | cons r1 r2 =>
  cases r2 with
  |cons r3 r4=>cases r4;exact⟨_,_,rfl,r1,r3⟩
theorem Fp:jP X (.builtin "abs") (λxs H Q=>∃ i,xs=[.int i]/\Q (.int (if i < 0 then -i else i)) H):=by
 intro gV s σ H xs us Q I r h;obtain⟨i,rfl,q⟩:=h;obtain⟨u,rfl,t,rfl⟩:=sY r
 exact call_abs_int λu tk=>⟨.int (if i<0 then -i else i),H,I.tok _,⟨_,rfl⟩,q⟩
theorem Cs(hc:X.calm=true):jP X (.builtin "max") (λxs H Q=>∃ i j,xs=[.int i,.int j]/\Q (.int (if j > i then j else i)) H):=by
 intro gV s σ H xs us Q I r h;obtain⟨i,j,rfl,q⟩:=h;obtain⟨u,w',rfl,⟨t,rfl⟩,⟨t',rfl⟩⟩:=Fo r;refine max_two_ints (I.ok.hd hc) λh' tk k=>⟨_,H,I.kept k,?_,q⟩;by_cases hj:j > i
 . rw[if_pos hj,if_pos hj];exact⟨_,rfl⟩
 . rw[if_neg hj,if_neg hj];exact⟨_,rfl⟩
theorem Ct(hc:X.calm=true):jP X (.builtin "min") (λxs H Q=>∃ i j,xs=[.int i,.int j]/\Q (.int (if j < i then j else i)) H):=by
 intro gV s σ H xs us Q I r h;obtain⟨i,j,rfl,q⟩:=h;obtain⟨u,w',rfl,⟨t,rfl⟩,⟨t',rfl⟩⟩:=Fo r;refine min_two_ints (I.ok.hd hc) λh' tk k=>⟨_,H,I.kept k,?_,q⟩;by_cases hj:j<i
 . rw[if_pos hj,if_pos hj];exact⟨_,rfl⟩
 . rw[if_neg hj,if_neg hj];exact⟨_,rfl⟩
theorem Cu:jP X (.type "int") (λxs H Q=>(∃ i,xs=[.int i]/\Q (.int i) H)∨∃ k,xs=[.bl k]/\Q (.int (if k then 1 else 0)) H):=by
 intro gV s σ H xs us Q I r h;rcases h with⟨i,rfl,q⟩|⟨k,rfl,q⟩
 . obtain⟨u,rfl,t,rfl⟩:=sY r;exact call_int_int ⟨.int i,H,I,⟨_,rfl⟩,q⟩
 .
  obtain⟨u,rfl,r1⟩:=sY r;cases r1
  exact call_int_bool ⟨.int (if k then 1 else 0),H,I.tok _,⟨_,rfl⟩,q⟩
end
structure gI (k:Nat) (A:Around):Prop where
 hd:A.handled=none
 dp:A.depth+3*k+5<recursionLimit
 un:A.units+16*k+200<cLine
 gd:A.guards=some []
theorem gI.mono{j k:Nat}{A:Around}(r:gI k A)(h:j<=k):gI j A:=⟨r.hd,by have:=r.dp;omega,by have:=r.un;omega,r.gd⟩
theorem gI.deeper{k:Nat}{A:Around}(r:gI (k+1) A)(env:Env):gI k (A.deeper env) :=
 ⟨r.hd,by have:=r.dp;show A.depth+1+3*k+5<_;omega,by have:=r.un;show A.units+3+16*k+200<_;omega,r.gd⟩
theorem gI.in1{k:Nat}{A:Around}(r:gI (k+1) A):gI k A.in1 :=
 ⟨r.hd,by have:=r.dp;show A.depth+3*k+5<_;omega,by have:=r.un;show A.units+1+16*k+200<_;omega,r.gd⟩
theorem Bc{A:Around}{C:Addr}{us:List Value}{kw:List (Str×Value)}:(A.under (.builtin "type.__call__" ⟨.ref C::us,kw⟩)).depth=A.depth+1:=by
 first|rfl|simp[Around.under,Code.weight,Code.isCreation,Code.isGuard,Code.isCaller,Code.frames,Code.isFrame,guardIds]
theorem Bd{A:Around}{C:Addr}{us:List Value}{kw:List (Str×Value)}:(A.under (.builtin "type.__call__" ⟨.ref C::us,kw⟩)).units=A.units+1:=by
 first|rfl|simp[Around.under,Code.cUnits,Code.frames,Code.isFrame]
theorem gI.make{k:Nat}{A:Around}(r:gI (k+1) A)(C:Addr)(us:List Value)(kw:List (Str×Value)):gI k (A.under (.builtin "type.__call__" ⟨.ref C::us,kw⟩)) :=
 ⟨r.hd,by have:=r.dp;rw[Bc];omega,by have:=r.un;rw[Bd];omega,by rw[<- r.gd];first|rfl|simp[Around.under,Code.guards,Code.isGuard,pushGuards,guardIds]⟩
theorem gI.depth{k:Nat}{A:Around}(r:gI k A):A.depth<recursionLimit:=by have:=r.dp;omega
theorem gI.units{k:Nat}{A:Around}(r:gI k A):A.units+64<cLine:=by have:=r.un;omega
noncomputable def NY:TA:=λ_ H Q=>Q [] H
noncomputable def Cv(ta:TE)(tr:TA):TA:=λσ H Q=>ta σ H λx H1=>tr σ H1 λxs H2=>Q (x::xs) H2
section
variable{X:Cx}{e:Expr}{es:List Expr}{te:TE}{t:TA}{pos:Pos}
theorem lD:PA X [] NY:=λ_ _ _ _ H Q I h=>Calls.spliced_nil ⟨[],H,I,.nil,h⟩
theorem c9(ha:PE X e te)(hr:PA X es t)(hs:starEach (e::es) X.env=(false,eval e X.env)::starEach es X.env:=by rfl):PA X (e::es) (Cv te t):=by intro pos gV s σ H Q I h;rw[hs];show wpAny _ _ (spliced ((false,eval e X.env)::backTo pos (starEach es X.env))) _ _ s;refine Calls.spliced_cons (Qk (ha gV s σ H _ I h) λu s1 ⟨x,H1,I1,r1,q1⟩=>?_);exact Qk (hr pos gV s1 σ H1 _ I1 q1) λus s2 ⟨xs,H2,I2,r2,q2⟩=>⟨x::xs,H2,I2,.cons r1 r2,q2⟩
end
noncomputable abbrev Sp:=List V->Hp->VK->XK->Prop
noncomputable abbrev QC:=List Env->Hp->Shared->XK->Value->Shared->Prop
structure Be (P:Program) (w:World) (K:PySem.W.Frag) (mg:Str->Option Value) (base:Heap) (A:Around) (outer:List Env) (s:Shared) (H:Hp):Prop where
 frames:A.frames=some outer
 mod:Mod K mg base
 bs:∀b o,base.get? b=some o->s.heap.get? b=some o/\H b=none
 bsz:base.objs.size<=s.heap.objs.size
 funs:s.heap.FunFrames base outer
 frf:∀b∈Qf outer,H b=none
 hok:Qb P w H s.heap
 bare:AllBare s.gens
 tbs:Qe K H
def CE(outer:List Env)(P:Program)(w:World)(H:Hp)(s:Shared)(Q:VK)(u:Value)(s':Shared):Prop :=
 ∃v H',s'.os=s.os/\AllBare s'.gens/\Un (Qf outer) [] H H' s.heap s'.heap/\Qb P w H' s'.heap/\cu v u/\Q v H'
def CR(CX:QC)(outer:List Env)(P:Program)(w:World)(H:Hp)(s:Shared)(Q:VK)(E:XK)(r:Result)(s':Shared):Prop :=
 match r with
 |.ok (.ret u)=>CE outer P w H s Q u s'
 |.ok _=>False
 |.error e=>CX outer H s E e s'
structure FnOk (P:Program) (w:World) (K:PySem.W.Frag) (mg:Str->Option Value) (base:Heap) (CX:QC) (k:Nat) (f:Addr) (fd:FuncData) (ps:List Str) (sp:Sp):Prop where
 len:∀vs H Q E,sp vs H Q E->vs.length=ps.length
 run:∀(A:Around)(outer:List Env)(s:Shared)(H:Hp)(args:Args)(us:List Value)(vs:List V)(Q:VK)(E:XK),gI k A->Be P w K mg base A outer s H->BindsTo s fd args (ps.zip us)->bT vs us->sp vs H Q E ->
  codeAny (model P w) A (.call (.ref f) args) (CR CX outer P w H s Q E) s
theorem FnOk.mono{P:Program}{w:World}{K:PySem.W.Frag}{mg:Str->Option Value}{base:Heap}{CX:QC}{j k:Nat}{f:Addr}{fd:FuncData}{ps:List Str}{sp:Sp}(F:FnOk P w K mg base CX j f fd ps sp)(h:j<=k) :
  FnOk P w K mg base CX k f fd ps sp:=⟨F.len,λA outer s H args us vs Q E hr=>F.run A outer s H args us vs Q E (hr.mono h)⟩
theorem Be.make{P:Program}{w:World}{K:PySem.W.Frag}{mg:Str->Option Value}{base:Heap}{A:Around}{outer:List Env}{s:Shared}{H:Hp}(e:Be P w K mg base A outer s H)(C:Addr)(us:List Value)(kw:List (Str×Value)) :
  Be P w K mg base (A.under (.builtin "type.__call__" ⟨.ref C::us,kw⟩)) outer s H:=⟨by first | exact e.frames | (simpa[Around.under,Code.envs,Code.isFrame,pushEnvs]using e.frames),e.mod,e.bs,e.bsz,e.funs,e.frf,e.hok,e.bare,e.tbs⟩
theorem Be.in1{P:Program}{w:World}{K:PySem.W.Frag}{mg:Str->Option Value}{base:Heap}{A:Around}{outer:List Env}{s:Shared}{H:Hp}(e:Be P w K mg base A outer s H) :
  Be P w K mg base A.in1 outer s H:=⟨e.frames,e.mod,e.bs,e.bsz,e.funs,e.frf,e.hok,e.bare,e.tbs⟩
section
variable{X:Cx}{gV:List (Addr×Obj)}{σ:St}{H:Hp}{s s':Shared}
theorem Qi.env0(I:Qi X gV σ H s):Be X.prog X.w X.K X.mg X.base X.A X.stack s H :=
 ⟨I.ok.frames,I.ok.mod,I.bs,U8 I.ok.bsz I.sz,I.stack,I.stkFree,I.hok,I.bare,I.tbs⟩
theorem Qi.after{Q:VK}{u:Value}(I:Qi X gV σ H s)(h:CE X.stack X.prog X.w H s Q u s'):EP X gV σ Q u s':=by obtain⟨v,H',os,bare,un,hok,r,q⟩:=h;obtain⟨hh,g,d,t,os'⟩:=s';obtain rfl:os'=s.os:=os;exact⟨v,H',I.call (h':=hh) (g':=g) (d':=d) (t':=t) (ch:=[]) un hok bare (λb z=>absurd z v6),r,q⟩
end
def oj(K:PySem.W.Frag)(fd:FuncData)(ps:List Str)(ds:List Value):Prop :=
 ∀(s:Shared)(us:List Value),K.In s.heap->(us++ds).length=ps.length->BindsTo s fd ⟨us,[]⟩ (ps.zip (us++ds))
theorem oj.all{K:PySem.W.Frag}{fd:FuncData}{ps:List Str}(h:∀us:List Value,us.length=ps.length->bindArgs fd ⟨us,[]⟩=pure (ps.zip us)):oj K fd ps []:=λs us _ hl=>by rw[VR]at hl ⊢;exact .of_eq (h us hl)
def zR(CX:QC)(X:Cx)(E:XK):Prop:=∀(gV:List (Addr×Obj))(σ:St)(H:Hp)(s:Shared)(e:Value)(s':Shared),Qi X gV σ H s->CX X.stack H s E e s'->X.xe e s'
section
variable{X:Cx}{CX:QC}{k:Nat}{f:Addr}{fd:FuncData}{ps:List Str}{sp:Sp}{dvs:List V}{ds:List Value}{E:XK}{e:Expr}
theorem Cw{gV:List (Addr×Obj)}{σ:St}{H:Hp}{s:Shared}{Q:VK}{us:List Value}{vs:List V}(F:FnOk X.prog X.w X.K X.mg X.base CX k f fd ps sp)(hr:gI k X.A)(hb:oj X.K fd ps ds)(hd:bT dvs ds)(hx:zR CX X E)
  (I:Qi X gV σ H s) (r:bT vs us) (h:sp (vs++dvs) H Q E):wpAny (model X.prog X.w) X.A (call (.ref f) us) (EP X gV σ Q) X.xe s:=by
 have r2:bT (vs++dvs) (us++ds):=r.append hd;have hl:(us++ds).length=ps.length:=by rw[<- r2.length];exact F.len _ _ _ _ h
 refine Xe (codeAny_mono (F.run X.A X.stack s H ⟨us,[]⟩ (us++ds) (vs++dvs) Q E hr I.env0 (hb s us I.kIn hl) r2 h) λr s' hq=>?_)
 cases r with
 |error e=>exact hx gV σ H s e s' I hq
 | ok fl =>
  cases fl with
  |ret u=>exact I.after hq
  |next=>exact False.elim hq
  |brk=>exact False.elim hq
  |cont=>exact False.elim hq
end
structure az (N P:List Str) (sc:Scope):Prop where
 kind:sc.kind=.function
 co:sc.isCoroutine=false
 gen:sc.isGenerator=false
 nd:N.Nodup
 pre:N.take P.length=P
 par:∀x∈P,sc.names.lookup x=some .local∨sc.names.lookup x=some .cell
 nofree:∀y∈sc.names,y.2≠.free
theorem vW{kindOf:Str->Option NameKind}{x:Str}:∀{binds:List (Str×Value)}{m:Str->Option Value},(∀v,(x,v)∉binds)->bindL kindOf binds m x=m x
 |[],_,_=>rfl
 | (n,v)::r,m,h=>by
  unfold bindL;rw[vW λw hw=>h w (UW _ hw)];split
  .
   have:x≠n:=by rintro rfl;exact h v UZ
   simp[this]
  . rfl
theorem vX{kindOf:Str->Option NameKind}{x:Str}:∀{binds:List (Str×Value)}{m:Str->Option Value},(∀v,(x,v)∉binds)->bindC kindOf binds m x=m x
 |[],_,_=>rfl
 | (n,v)::r,m,h=>by
  unfold bindC;rw[vX λw hw=>h w (UW _ hw)];split
  . rfl
  .
   have:x≠n:=by rintro rfl;exact h v UZ
   simp[this]
theorem vY{kindOf:Str->Option NameKind}{x:Str}{v:Value}:∀{P:List Str}{vs:List Value}{i:Nat}{m:Str->Option Value},P.Nodup->P[i]?=some x->vs[i]?=some v->kindOf x=some .local ->
  bindL kindOf (P.zip vs) m x=some v
 |[],_,_,_,_,h,_,_=>by simp at h
 |_::_,[],_,_,_,_,h,_=>by simp at h
 | p::P,w::vs,0,m,nd,h1,h2,hk=>by simp at h1 h2;subst h1;subst h2;show bindL kindOf ((p,w)::P.zip vs) m p=_;unfold bindL;rw[vW λv hv=>(VC.mp nd).1 (List.of_mem_zip hv).1,if_pos hk];simp
 | p::P,w::vs,i+1,m,nd,h1,h2,hk=>by show bindL kindOf ((p,w)::P.zip vs) m x=_;unfold bindL;exact vY (i:=i) (VC.mp nd).2 (by simpa using h1) (by simpa using h2) hk
theorem vZ{kindOf:Str->Option NameKind}{x:Str}{v:Value}:∀{P:List Str}{vs:List Value}{i:Nat}{m:Str->Option Value},P.Nodup->P[i]?=some x->vs[i]?=some v->kindOf x≠some .local ->
  bindC kindOf (P.zip vs) m x=some v
 |[],_,_,_,_,h,_,_=>by simp at h
 |_::_,[],_,_,_,_,h,_=>by simp at h
 | p::P,w::vs,0,m,nd,h1,h2,hk=>by simp at h1 h2;subst h1;subst h2;show bindC kindOf ((p,w)::P.zip vs) m p=_;unfold bindC;rw[vX λv hv=>(VC.mp nd).1 (List.of_mem_zip hv).1,if_neg hk];simp
 | p::P,w::vs,i+1,m,nd,h1,h2,hk=>by show bindC kindOf ((p,w)::P.zip vs) m x=_;unfold bindC;exact vZ (i:=i) (VC.mp nd).2 (by simpa using h1) (by simpa using h2) hk
noncomputable def om(N:List Str)(vs:List V):St:=vs.map some++List.replicate (N.length-vs.length) none
noncomputable def Fd(CX:QC)(P:Program)(w:World)(K:PySem.W.Frag)(mg:Str->Option Value)(base:Heap)(N:List Str)(qual:Str)(scope:Scope)(f:Addr)(cd:Value)(A:Around)(outer:List Env)(s:Shared)(H:Hp)(E:XK):Cx where
 prog:=P
 w:=w
 K:=K
 mg:=mg
 base:=base
 A:=A.deeper (envOfC qual scope s.heap.objs.size f cd)
 N:=N
 s₀:=s
 H₀:=H
 env:=envOfC qual scope s.heap.objs.size f cd
 outer:=outer
 stack:=envOfC qual scope s.heap.objs.size f cd::outer
 ex:=[]
 calm:=true
 fn:=λ_=>true
 pn:=[]
 xe:=λe s'=>wpAny (model P w) (A.deeper (envOfC qual scope s.heap.objs.size f cd)) (leaving (envOfC qual scope s.heap.objs.size f cd) e) (λ_ s''=>CX outer H s E e s'') (λe' s''=>CX outer H s E e' s'') s'
theorem zS{sc:Scope}{n:Nat}{x:Str}(h:sc.names.lookup x=some .cell):∃c,(cellsFrom n sc.names []).lookup x=some c:=by have q:=PySem.W.cellsFrom_some sc.names n [] (.inl h);exact Option.isSome_iff_exists.mp q
theorem Cy{CX:QC}{P:Program}{w:World}{K:PySem.W.Frag}{mg:Str->Option Value}{base:Heap}{N ps:List Str}{qual:Str}{scope:Scope}{f:Addr}{cd:Value}{A:Around}{outer:List Env}{s s1:Shared}{H:Hp}{E:XK}{us:List Value}{vs:List V}
  (S:az N ps scope) (hd:A.handled=none) (e0:Be P w K mg base A outer s H) (hl:vs.length=ps.length) (r:bT vs us)
  (x:InCallC s s.heap.objs.size (bindL (envOfC qual scope s.heap.objs.size f cd).kindOf (ps.zip us) λ_=>none) (cellsFrom (s.heap.objs.size+1) scope.names []) (bindC (envOfC qual scope s.heap.objs.size f cd).kindOf (ps.zip us) λ_=>none) s1) :
  Qi (Fd CX P w K mg base N qual scope f cd A outer s H E) [] (om N vs) H s1:=by
 have hpl:ps.length<=N.length:=by have:=congrArg List.length S.pre;rw[Wp]at this;omega
 obtain⟨h1,tk,rfl,hk⟩:=x.done;have noA:∀b:Addr,b∉(Fd CX P w K mg base N qual scope f cd A outer s H E).ex:=λb z=>absurd (show b∈([]:List Addr)from z) v6
 refine⟨⟨e0.mod,S.kind,rfl,rfl,Vb _,λy z c h1 h2=>?_,λy hy=>?_,λy c _ h=>?_,λ_=>hd,Around.frames_deeper e0.frames,.inr ⟨rfl,rfl⟩,λb z=>absurd z (noA b),e0.bs,e0.bsz,λb _ _=>noA b,λb z=>absurd z (noA b),e0.funs,e0.frf,e0.tbs⟩,
  rfl,e0.bare,Un.kept hk,⟨_,x.toInCall.ns,λi y v h1 h2 h3=>?_⟩,λy c h=>⟨_,x.cell y c h⟩,e0.hok.fresh (Vb _),λy c h=>?_,λp hp=>absurd (show p∈([]:List (Addr×Obj))from hp) v6,e0.hok.kept hk,?_⟩
 . exact name_of_addr x.apart (Wf h1) (Wf h2)
 .
  have hy:scope.names.lookup y=some .cell∨scope.names.lookup y=some .free:=hy;rcases hy with hy|hy
  . exact zS hy
  . exact absurd rfl (S.nofree _ (Wf hy))
 . exact Xa (x.above y c (Wf h))
 .
  have hi:i<vs.length:=by
   unfold om at h2;by_cases hi:i<vs.length
   . exact hi
   . rw[Vr (by simpa using hi)]at h2;rw[List.getElem?_replicate]at h2;split at h2<;>cases h2
  have ha:vs[i]?=some v:=by
   unfold om at h2;rw[VQ (by simpa using hi),Vf]at h2
   cases e:vs[i]? with
   |none=>rw[e]at h2;cases h2
   |some a=>rw[e]at h2;cases h2;rfl
  obtain⟨u,hu,rv⟩:=r.get ha;have hp:ps[i]?=some y:=by rw[<- S.pre,List.getElem?_take_of_lt xL];exact h1
  have ndP:ps.Nodup:=by rw[<- S.pre];exact S.nd.sublist (List.take_sublist _ _)
  refine⟨u,rv,?_⟩;rcases S.par y (List.mem_of_getElem? hp)with k|k
  . exact .inl ⟨k,vY ndP hp hu k⟩
  . obtain⟨c,e⟩:=zS (n:=s.heap.objs.size+1) k;refine .inr ⟨.inl k,c,e,?_⟩;have q:=x.cell y c e;rw[vZ ndP hp hu (by show scope.names.lookup y≠_;rw[k];decide)]at q;exact q
 . exact .inl (e0.hok.fresh (Xa (x.above y c (Wf h))))
 . unfold om;show _=N.length;rw[VL,U4,List.length_replicate];omega
theorem IH{CX:QC}{P:Program}{w:World}{K:PySem.W.Frag}{mg:Str->Option Value}{base:Heap}{k:Nat}{f:Addr}{name qual:Str}{params:Arguments}{body:List Stmt}{scope:Scope}{dV kV doc pm cdv ct oc:Value}{an od:Option Addr}
  {osl:Array (Option Value)} {N ps:List Str} {sp:Sp} (lk:K.lookup f=some ⟨oc,od,.func (PySem.W.fnOf name qual params body scope dV kV doc pm an cdv ct),osl⟩) (hcd:PySem.W.codeIn K cdv qual=true) (S:az N ps scope)
  (len:∀vs H Q E,sp vs H Q E->vs.length=ps.length)
  (hbody:∀(A:Around)(outer:List Env)(s:Shared)(H:Hp)(vs:List V)(Q:VK)(E:XK),gI k (A.deeper (envOfC qual scope s.heap.objs.size f cdv))->sp vs H Q E ->
   ∃t,Qj (Fd CX P w K mg base N qual scope f cdv A outer s H E) body t/\t {nx:=λ_ H'=>Q .non H',rt:=Q} (om N vs) H) :
  FnOk P w K mg base CX (k+1) f (PySem.W.fnOf name qual params body scope dV kV doc pm an cdv ct) ps sp:=by
 refine⟨len,λA outer s H args us vs Q E hr e0 hb r hsp=>?_⟩;have hl:=len _ _ _ _ hsp;have KX:K.In s.heap:=e0.mod.kin.keeps λb o e=>(e0.bs b o e).1;have lim:s.heap.NoLimit:=e0.mod.nolimit.keeps λb o e=>(e0.bs b o e).1
 have hkind:∀y∈ps.zip us,scope.names.lookup y.1=some .local∨(scope.names.lookup y.1=some .cell/\((cellsFrom (s.heap.objs.size+1) scope.names []).lookup y.1).isSome=true):=fun⟨n,v⟩ hy=>by
  rcases S.par n (List.of_mem_zip hy).1 with q|q
  . exact .inl q
  . exact .inr ⟨q,PySem.W.cellsFrom_some _ _ _ (.inl q)⟩
 refine codeAny_call_function hr.depth (KX _ _ lk) rfl S.co S.gen rfl (PySem.W.codeRec_of KX hcd) (hb _ _ _ _ ?_);refine wpAny_newFunctionEnv_cells S.kind hkind λenv he s1 x=>?_;subst he;refine⟨lim.keeps x.toInCall.keep,codeAny_func ?_⟩;obtain⟨t,ht,hq⟩:=hbody A outer s H vs Q E (hr.deeper _) hsp;have I:Qi (Fd CX P w K mg base N qual scope f cdv A outer s H E) [] (om N vs) H s1:=Cy S hr.hd e0 hl r x;refine V7 (ht [] s1 (om N vs) H _ I hq) (λfl s' hs=>?_) λe s' hs=>hs
 have Qm:∀{σ':St}{H':Hp}{v:V}{u:Value},Qi (Fd CX P w K mg base N qual scope f cdv A outer s H E) [] σ' H' s'->cu v u->Q v H'->CE outer P w H s Q u s' :=
  λ{σ' H' v u} J rv q=>⟨v,H',J.os,J.bare,J.base,J.hok,rv,q⟩
 cases fl with
 | ret u =>
  obtain⟨v,σ',H',J,rv,q⟩:=hs;exact Qm J rv q
 | next =>
  obtain⟨σ',H',J,q⟩:=hs;exact Qm (v:=V.non) (u:=Value.none) J rfl q
 | brk =>
  obtain⟨_,_,_,q⟩:=hs;exact False.elim q
 | cont =>
  obtain⟨_,_,_,q⟩:=hs;exact False.elim q
section
variable{X:Cx}{x:Str}{p pos:Pos}{e:Expr}{es:List Expr}{t:TA}{id:String}{r:List V->Hp->VK->Prop}
def QD(r:List V->Hp->VK->Prop)(t:TA):TE:=λσ H Q=>t σ H λvs H1=>r vs H1 Q
theorem zT(hc:jP X (.builtin id) r)(hg:Gl X x)(hm:X.mg x=none)(hv:bootBuiltins x=some (.builtin id))(ha:PA X (e::es) t) (hn:x≠"__name__":=by decide) (hdb:(x == ("__debug__" : Str))=false:=by decide)
  (he:starEach (e::es) X.env=(false,eval e X.env)::starEach es X.env:=by rfl) (hpl:(backTo pos (starEach es X.env)).any (·.1)=false:=by rfl):PE X (.Call (.Name x p) (e::es) [] pos) (QD r t):=by
 intro gV s σ H Q I h;refine V2 (jw I hg hm hv ?_ hn hdb);exact PyProof.Rows.callWith_builtin1 (Qk (ha pos gV s σ H _ I h) λus s1 ⟨vs,H1,I1,r1,q1⟩=>hc gV s1 σ H1 vs us Q I1 r1 q1) he hpl
end
end L2
namespace HT
open PySem PyProof.Rows
section
variable{prog:Program}{w:World}{A:Around}{E:Value->Shared->Prop}{s:Shared}
noncomputable def sIx(n d:Nat):Option Int->Nat
 |none=>d
 |some v=>if v<0 then(v+(n:Int)).toNat else min v.toNat n
theorem Lu(n d:Nat)(hd:d<=n)(o:Option Int):sIx n d o<=n:=by
 cases o with
 |none=>exact hd
 | some v =>
  show(if v<0 then(v+(n:Int)).toNat else min v.toNat n)<=n
  by_cases hv:v<0
  . rw[if_pos hv];omega
  . rw[if_neg hv];exact Nat.min_le_right _ _
theorem Cz(v:Int)(n d:Nat):(if v<0 then max (v+(n:Int)) 0 else min v (n:Int))=((sIx n d (some v):Nat):Int):=by
 show(if v<0 then max (v+(n:Int)) 0 else min v (n:Int))=(((if v<0 then(v+(n:Int)).toNat else min v.toNat n):Nat):Int)
 by_cases hv:v<0
 . simp only[if_pos hv];omega
 . simp only[if_neg hv];omega
theorem Bf(lo hi:Option Int)(n:Nat):Builtin.Slice.sliceAdjust lo hi 1 (n:Int)=(((sIx n 0 lo:Nat):Int),((sIx n n hi:Nat):Int)):=by
 have h1:¬((1:Int)<0):=by omega
 unfold Builtin.Slice.sliceAdjust;simp only[h1,WX];refine Prod.ext ?_ ?_
 .
  cases lo with
  |none=>rfl
  |some v=>exact Cz v n 0
 .
  cases hi with
  |none=>rfl
  |some v=>exact Cz v n n
theorem Bg(i j:Nat):Builtin.Slice.slicePlaces (i:Int) (j:Int) 1=j-i:=by
 unfold Builtin.Slice.slicePlaces;have h1:(1:Int) > 0:=by omega
 simp only[h1,W5,Int.ediv_one];split<;>omega
theorem t5{v:Value}{o:Option Int}{Q:Option Int->Shared->Prop}(p:IsPart v o)(h:Q o s):wpAny (model prog w) A (Builtin.Slice.slicePartIndex v) Q E s:=by
 cases p with
 |none=>exact slicePart_none h
 |int i t=>exact slicePart_int h
theorem pX{sl:Addr}{vl vu:Value}{lo hi:Option Int}{n:Nat}{Q:Int×Int×Nat->Shared->Prop}(hs:s.heap.IsSliceOf sl vl vu .none)(pl:IsPart vl lo)(pu:IsPart vu hi)
  (h:Q (((sIx n 0 lo:Nat):Int),1,sIx n n hi-sIx n 0 lo) s):wpAny (model prog w) A (Builtin.Slice.sliceApplied (.ref sl) (pure (n:Int))) Q E s:=by
 obtain⟨os,hos,hcs,hds⟩:=id hs;unfold Builtin.Slice.sliceApplied Builtin.Slice.sliceFields;refine UX (UX (W1 hos hds (x:=vl) rfl (UX (W1 hos hds (x:=vu) rfl (UX (W1 hos hds (x:=.none) rfl (U9 ?_)))))));refine UX (slicePart_none ?_)
 show wpAny _ _ (if((1:Int) == 0)=true then _ else _) _ _ s
 rw[if_neg (by decide)];refine UX (t5 pl (UX (t5 pu (UX (U9 ?_)))))
 show wpAny _ _ (match Builtin.Slice.sliceAdjust lo hi 1 (n:Int)with|(lo,hi)=>pure (lo,(1:Int),Builtin.Slice.slicePlaces lo hi 1)) _ _ s
 rw[Bf lo hi n];show wpAny _ _ (pure (((sIx n 0 lo:Nat):Int),(1:Int),Builtin.Slice.slicePlaces ((sIx n 0 lo:Nat):Int) ((sIx n n hi:Nat):Int) 1)) _ _ s;rw[Bg];exact U9 h
theorem Fq(xs:Array Value)(i k:Nat):((List.range k).filterMap λ(m:Nat)=>xs[((i:Int)+(m:Int)*1).toNat]?).toArray=((xs.toList.drop i).take k).toArray:=by
 have e:(λ(m:Nat)=>xs[((i:Int)+(m:Int)*1).toNat]?)=λm=>xs[i+m]?:=by
  funext m
  have:((i:Int)+(m:Int)*1).toNat=i+m:=by omega
  rw[this]
 rw[e];have:=pick_run xs i k;rw[List.filterMap_map]at this;have e2:((λx=>xs[x]?) ∘ λx=>i+x)=λm=>xs[i+m]?:=rfl;rw[e2]at this;rw[this]
theorem getItem_tuple_cut{t sl:Addr}{items:Array Value}{vl vu:Value}{lo hi:Option Int}{Q:Value->Shared->Prop}(ht:IsTup s.heap t items)(hs:s.heap.IsSliceOf sl vl vu .none)(pl:IsPart vl lo)(pu:IsPart vu hi)
  (hw:¬(sIx items.size 0 lo=0/\sIx items.size items.size hi=items.size))
  (h:Q (.ref s.heap.objs.size) {s with heap:=s.heap.push {cls:=.type "tuple",data:=.seq ((items.toList.drop (sIx items.size 0 lo)).take (sIx items.size items.size hi-sIx items.size 0 lo)).toArray} })
  (hsz:items.size<=sizeLine):wpAny (model prog w) A (getItem (.ref t) (.ref sl)) Q E s:=by
 have htake:sizeOk (.seq ((items.toList.drop (sIx items.size 0 lo)).take (sIx items.size items.size hi-sIx items.size 0 lo)).toArray):=by show((items.toList.drop (sIx items.size 0 lo)).take (sIx items.size items.size hi-sIx items.size 0 lo)).toArray.size<=sizeLine;rw[Vd,Wp,Ww,Array.length_toList];omega
 have hj:sIx items.size items.size hi<=items.size:=Lu _ _ (Vb _) hi;obtain⟨os,hos,hcs,hds⟩:=id hs;have hTs:s.TypeIs (.ref sl) "slice":=⟨os,hos,hcs⟩;unfold getItem
 try with_reducible refine Wi ?_
 first|refine UX (U9 ?_)|skip
 refine UX (wpAny_sequenceKey ht.typeIs x_ ?_)
 refine UX (wpAny_callSpecial?_slot (name:=Str.ofString "__getitem__") ht.typeIs PyProof.Rows.slot_tuple_getitem
  (wpAny_call_entry PyProof.Rows.slot_tuple_getitem ht.typeIs entry_tuple_getitem ?_ (args_tuple_getitem _ _)))
 show wpAny _ _ (Builtin.Tuple.tupleItemsOf (.ref t) >>= _) _ _ s;refine UX (tupleItemsOf_ ht ?_);refine UX (wpAny_typeOf hTs ?_);rw[if_pos (by decide)];refine UX (pX hs pl pu ?_);have hno:¬((((sIx items.size 0 lo:Nat):Int) == 0 && (1:Int) == 1 && (sIx items.size items.size hi-sIx items.size 0 lo) == items.size)=true):=by intro q;rw[U7,U7]at q;have q1:((sIx items.size 0 lo:Nat):Int)=0:=eq_of_beq q.1.1;have q2:sIx items.size items.size hi-sIx items.size 0 lo=items.size:=eq_of_beq q.2;exact hw ⟨xL,xL⟩
 show wpAny _ _ (if(((sIx items.size 0 lo:Nat):Int) == 0 && (1:Int) == 1 && (sIx items.size items.size hi-sIx items.size 0 lo) == items.size)=true then _ else _) _ _ s
 rw[if_neg hno,Fq]
 first
  |exact UX (m:=Builtin.Tuple.tupleExact _) (WD (U9 ⟨_,rfl,U9 h⟩) htake)
  |exact UX (m:=Builtin.Tuple.tupleExact _) (WD (UX (U9 (U9 ⟨_,rfl,U9 h⟩))) htake)
  |exact UX (UX (m:=Builtin.Tuple.tupleExact _) (WD (U9 (U9 ⟨_,rfl,U9 h⟩)) htake))
  |exact UX (UX (m:=Builtin.Tuple.tupleExact _) (WD (U9 ⟨_,rfl,U9 h⟩) htake))
end
end HT
namespace L2
open PySem PySem.Spec PyProof.Rows
noncomputable abbrev TO:=St->Hp->(Option Int->Hp->Prop)->Prop
def PO(X:Cx)(e:Option Expr)(t:TO):Prop :=
 ∀(gV:List (Addr×Obj))(s:Shared)(σ:St)(H:Hp)(Q:Option Int->Hp->Prop),Qi X gV σ H s->t σ H Q ->
  wpAny (model X.prog X.w) X.A (evalPart e X.env) (λu s'=>∃o H',Qi X gV σ H' s'/\IsPart u o/\Q o H') X.xe s
noncomputable def II:TO:=λ_ H Q=>Q none H
noncomputable def NZ(t:TE):TO:=λσ H Q=>t σ H λx H1=>∃i,x=.int i/\Q (some i) H1
section
variable{X:Cx}{e:Expr}{te:TE}{lo hi:Option Expr}{tl th:TO}{pos p2:Pos}
theorem IJ:PO X none II:=by intro gV s σ H Q I h;rw[evalPart_none];exact U9 ⟨none,H,I,.none,h⟩
theorem IK(h:PE X e te):PO X (some e) (NZ te):=by intro gV s σ H Q I hw;rw[evalPart_some];refine Qk (h gV s σ H _ I hw) λu s1 ⟨x,H1,I1,r1,q1⟩=>?_;obtain⟨i,rfl,q⟩:=q1;obtain⟨t,rfl⟩:=r1;exact⟨some i,H1,I1,.int i t,q⟩
def QE(X:Cx)(r:V->Option Int->Option Int->Hp->VK->Prop):Prop :=
 ∀(gV:List (Addr×Obj))(s:Shared)(σ:St)(H:Hp)(x:V)(v vl vu:Value)(lo hi:Option Int)(sl:Addr)(Q:VK),Qi X gV σ H s->cu x v->s.heap.IsSliceOf sl vl vu .none->IsPart vl lo->IsPart vu hi->r x lo hi H Q ->
  ∃ T id,typeLookup (.type T) "__getitem__"=pure (some (.builtin id))/\s.TypeIs v T/\wpAny (model X.prog X.w) X.A (getItem v (.ref sl)) (EP X gV σ Q) X.xe s
theorem QE.or{r r':V->Option Int->Option Int->Hp->VK->Prop}(h:QE X r)(h':QE X r'):QE X (λx lo hi H Q=>r x lo hi H Q∨r' x lo hi H Q):=by
 intro gV s σ H x v vl vu lo hi sl Q I rx hs pl pu q;rcases q with q|q
 . exact h gV s σ H x v vl vu lo hi sl Q I rx hs pl pu q
 . exact h' gV s σ H x v vl vu lo hi sl Q I rx hs pl pu q
def QF(r:V->Option Int->Option Int->Hp->VK->Prop)(te:TE)(tl th:TO):TE:=λσ H Q=>te σ H λx H1=>tl σ H1 λl H2=>th σ H2 λu H3=>r x l u H3 Q
theorem Fs{r:V->Option Int->Option Int->Hp->VK->Prop}(hr:QE X r)(he:PE X e te)(hl:PO X lo tl)(hu:PO X hi th):PE X (.Subscript e (.Slice lo hi none p2) pos) (QF r te tl th):=by intro gV s σ H Q I h;refine Subscript_ (Qk (he gV s σ H _ I h) λv s1 ⟨x,H1,I1,r1,q1⟩=>?_);refine wpAny_Slice (Qk (hl gV s1 σ H1 _ I1 q1) λvl s2 ⟨l,H2,I2,pl,q2⟩=>Qk (hu gV s2 σ H2 _ I2 q2) λvu s3 ⟨u,H3,I3,pu,q3⟩=>?_);rw[evalPart_none];refine U9 ?_;have I4:Qi X gV σ H3 {s3 with heap:=s3.heap.push {cls:=.type "slice",data:=.fields #[vl,vu,.none] } }:=I3.kept (t':=s3.toks) λb ob q=>UY _ q;obtain⟨T,id,hT,ht,hg⟩:=hr gV {s3 with heap:=s3.heap.push {cls:=.type "slice",data:=.fields #[vl,vu,.none] } } σ H3 x v vl vu l u s3.heap.objs.size Q I4 r1 (Heap.IsSliceOf.new ..) pl pu q3;show wpAny (model X.prog X.w) X.A (subscriptTail e (.Slice lo hi none p2) v (.ref s3.heap.objs.size)) (EP X gV σ Q) X.xe {s3 with heap:=s3.heap.push {cls:=.type "slice",data:=.fields #[vl,vu,.none] } };exact tail_any (ops:=[.ref s3.heap.objs.size,v]) ht hT hg (by with_unfolding_all rfl)
noncomputable def HF(xs:List V)(lo hi:Option Int):List V:=(xs.drop (HT.sIx xs.length 0 lo)).take (HT.sIx xs.length xs.length hi-HT.sIx xs.length 0 lo)
theorem qG(xs:List V)(lo hi:Option Int):(HF xs lo hi).length<=xs.length:=by unfold HF;rw[Wp,Ww];omega
def Pp(K:PySem.W.Frag):V->Option Int->Option Int->Hp->VK->Prop:=λx lo hi H Q=>∃a xs,x=.ref a/\Qo K H a xs /\
 ¬(HT.sIx xs.length 0 lo=0/\HT.sIx xs.length xs.length hi=xs.length)/\∀p,H p=none->Q (.ref p) (Qa H p (.tup (HF xs lo hi)))
theorem Lv:QE X (Pp X.K):=by
 intro gV s σ H x v vl vu lo hi sl Q I rx hs pl pu h;obtain⟨a,xs,rfl,hx,hw,q⟩:=h;cases rx;obtain⟨its,r,ht,hz⟩:=I.tuple hx;have p4:its.toArray.size=xs.length:=by rw[Vd];exact r.length.symm
 refine⟨"tuple",_,PyProof.Rows.slot_tuple_getitem.lookup,ht.typeIs,?_⟩;refine HT.getItem_tuple_cut ht hs pl pu (by rw[p4];exact hw) ?_ (by rw[p4];exact hz);rw[p4];refine⟨.ref s.heap.objs.size,_,I.laid (t':=s.toks) (o:=.tup (HF xs lo hi)) (λb ob q=>UY _ q) (Vb _) ?_,rfl,q _ (I.hok.fresh (Vb _))⟩;exact⟨U8 (qG xs lo hi) hz,_,(r.drop (HT.sIx xs.length 0 lo)).take (HT.sIx xs.length xs.length hi-HT.sIx xs.length 0 lo),IsTup.new _ _⟩
end
noncomputable def QG(n:Nat)(i:Int):Option Nat:=if 0<=i then(if i<n then some i.toNat else none)else if -(n:Int)<=i then some (i+n).toNat else none
noncomputable def QH{α:Type}(xs:List α)(i:Int):Option α:=(QG xs.length i).bind λj=>xs[j]?
theorem CA{n:Nat}{i:Int}{j:Nat}(h:QG n i=some j):seqIndex? i n=some j/\j<n/\-(n:Int)<=i/\i<n:=by
 unfold QG at h;by_cases h0:0<=i
 .
  rw[if_pos h0]at h;by_cases h1:i<n
  . rw[if_pos h1]at h;have e:i.toNat=j:=Vq h;exact⟨by rw[seqIndex_of h0 h1,e],xL,xL,h1⟩
  . rw[if_neg h1]at h;cases h
 .
  rw[if_neg h0]at h;by_cases h1 : -(n:Int)<=i
  . rw[if_pos h1]at h;have e:(i+n).toNat=j:=Vq h;exact⟨by rw[seqIndex_neg xL h1,e],xL,h1,xL⟩
  . rw[if_neg h1]at h;cases h
theorem yi{α:Type}{xs:List α}{i:Int}{v:α}(h:QH xs i=some v):∃j,seqIndex? i xs.length=some j/\xs[j]?=some v/\j<xs.length/\-(xs.length:Int)<=i/\i<xs.length:=by
 unfold QH at h
 cases e:QG xs.length i with
 |none=>rw[e]at h;cases h
 | some j =>
  rw[e]at h;obtain⟨h1,h2,h3,h4⟩:=CA e;exact⟨j,h1,h,h2,h3,h4⟩
theorem hJ{α:Type}{xs:List α}{j:Nat}{v:α}(h:xs[j]?=some v):QH xs (j:Int)=some v:=by
 have hj:j<xs.length:=(U1.mp h).1;have e:QG xs.length (j:Int)=some j:=by unfold QG;rw[if_pos (by omega),if_pos (by omega)];simp
 unfold QH;rw[e];exact h
def yj(b:Expr):Prop:=∀o i,subscripted b false o i=operate [o,i] (getItem o i)
def QI(X:Cx)(r:R2):Prop :=
 ∀(value slice:Expr)(gV:List (Addr×Obj))(s:Shared)(σ:St)(H:Hp)(x y:V)(v u:Value)(Q:VK),Qi X gV σ H s->cu x v->cu y u->r x y H Q ->
  subscripted slice false v u=operate [v,u] (getItem v u)->wpAny (model X.prog X.w) X.A (subscriptTail value slice v u) (EP X gV σ Q) X.xe s
def QJ(X:Cx)(id:String)(r:V->List V->Hp->VK->Prop):Prop :=
 ∀(gV:List (Addr×Obj))(s:Shared)(σ:St)(H:Hp)(x:V)(xs:List V)(v:Value)(us:List Value)(Q:VK),Qi X gV σ H s->cu x v->bT xs us->r x xs H Q ->
  wpAny (model X.prog X.w) X.A (call (.builtin id) (v::us)) (EP X gV σ Q) X.xe s
section
variable{X:Cx}{a b:Expr}{ta tb:TE}{pos:Pos}
theorem N0{r:R2}(hr:QI X r)(ha:PE X a ta)(hb:PE X b tb)(hs:yj b):PE X (.Subscript a b pos) (Qx r ta tb):=by intro gV s σ H Q I h;exact Subscript_ (Pl ha hb I h λv u s2 x y H2 I2 rx ry q=>hr a b gV s2 σ H2 x y v u Q I2 rx ry q (hs _ _))
def Pq(K:PySem.W.Frag):R2:=λx y H Q=>∃p xs i v,x=.ref p/\y=.int i/\Qn K H p xs/\QH xs i=some v/\Q v H
def Pu(K:PySem.W.Frag):R2:=λx y H Q=>∃p xs i v,x=.ref p/\y=.int i/\Qo K H p xs/\QH xs i=some v/\Q v H
def Pv:R2:=λx y H Q=>∃z i c,x=.str z/\y=.int i/\z.length<=sizeLine/\QH z.cps.toList i=some c/\Q (.str ⟨#[c]⟩) H
theorem CB:QI X (Pq X.K):=by
 intro value slice gV s σ H x y v u Q I rx ry h hs;obtain⟨p,xs,i,z,rfl,rfl,hq,he,q⟩:=h;cases rx;obtain⟨t,rfl⟩:=ry;obtain⟨its,r,pl,hz⟩:=I.list hq;obtain⟨j,h1,h2,h3,h4,h5⟩:=yi he;obtain⟨w,ew,rw'⟩:=r.get h2;have hl:=r.length;have hn:=t4;have Qm:EP X gV σ Q w s:=⟨z,H,I,rw',q⟩;by_cases h0:0<=i
 .
  have hj:i.toNat=j:=by rw[seqIndex_of h0 h5]at h1;exact Vq h1
  exact item_listR pl.isList h0 xL (by rw[hj];simpa using ew) Qm hs
 .
  have hj:(i+(its.toArray.size:Int)).toNat=j:=by rw[seqIndex_neg xL h4]at h1;rw[Vd,<- hl];exact Vq h1
  exact subscriptTail_builtinR (x:=w) pl.isList.typeIs slot_list_getitem.lookup
   (wpAny_getItem_list_neg (Q:=λr s'=>r=w/\EP X gV σ Q r s') pl.isList xL (by rw[Vd]<;>omega) xL (by rw[hj];simpa using ew) ⟨rfl,Qm⟩) hs
theorem Lw:QI X (Pu X.K):=by
 intro value slice gV s σ H x y v u Q I rx ry h hs;obtain⟨p,xs,i,z,rfl,rfl,hq,he,q⟩:=h;cases rx;obtain⟨t,rfl⟩:=ry;obtain⟨its,r,pl,hz⟩:=I.tuple hq;obtain⟨j,h1,h2,h3,h4,h5⟩:=yi he;obtain⟨w,ew,rw'⟩:=r.get h2;have hl:=r.length;have hn:=t4;have Qm:EP X gV σ Q w s:=⟨z,H,I,rw',q⟩
 exact subscriptTail_builtinR (x:=w) pl.typeIs slot_tuple_getitem.lookup
  (getItem_tuple (j:=j) (Q:=λr s'=>r=w/\EP X gV σ Q r s') pl xL xL (by rw[Vd,<- hl];exact h1) (by simpa using ew) ⟨rfl,Qm⟩) hs
theorem Lx:QI X Pv:=by
 intro value slice gV s σ H x y v u Q I rx ry h hs;obtain⟨z,i,c,rfl,rfl,hz,he,q⟩:=h;obtain⟨t,rfl⟩:=rx;obtain⟨t',rfl⟩:=ry;obtain⟨j,h1,h2,h3,h4,h5⟩:=yi he;have hl:z.cps.toList.length=z.length:=by simp[Str.length]
 rw[hl]at h1 h4 h5;have hn:=t4
 exact tail_any (typeIs_str s z t) slot_str_getitem.lookup (getItem_str (c:=c) (by
  have e1:decide (i < -(2^63:Int))=false:=Va xL;have e2:decide (i≥2^63)=false:=Va xL
  rw[e1,e2,W4]) (by rw[h1];simpa using h2) ⟨.str ⟨#[c]⟩,H,I.tok _,⟨_,rfl⟩,q⟩) hs
theorem Bh(its:List Value)(n j:Nat)(u:Value):Obj.mapSeq (·.setIfInBounds j u) {cls:=.type "list",data:=.seq its.toArray n}={cls:=.type "list",data:=.seq (its.set j u).toArray n}:=by simp[Obj.mapSeq]
theorem Qi.lst{gV:List (Addr×Obj)}{σ:St}{H:Hp}{s:Shared}{p:Addr}{xs:List V}(I:Qi X gV σ H s)(h:H p=some (.lst xs)) :
  ∃(its:List Value)(n:Nat),bT xs its/\s.heap.get? p=some {cls:=.type "list",data:=.seq its.toArray n}/\xs.length<=sizeLine:=by
 obtain⟨z,its,n,r,e⟩:=I.hok p _ h;exact⟨its,n,r,e,z⟩
theorem Qi.lstUpd{gV:List (Addr×Obj)}{σ:St}{H:Hp}{s:Shared}{p:Addr}{xs ys:List V}{its its':List Value}{n n':Nat}{f:Obj->Obj}(I:Qi X gV σ H s)(h:H p=some (.lst xs))
  (ho:s.heap.get? p=some {cls:=.type "list",data:=.seq its.toArray n}) (hf:f {cls:=.type "list",data:=.seq its.toArray n}={cls:=.type "list",data:=.seq its'.toArray n' }) (r:bT ys its') (hz:ys.length<=sizeLine) (t:Nat) :
  Qi X gV σ (Qa H p (.lst ys)) {s with heap:=s.heap.update p f,toks:=t}:=by
 have e:(s.heap.update p f).get? p=some {cls:=.type "list",data:=.seq its'.toArray n' }:=by rw[Wg f ho (by rw[hf]<;>rfl),hf]
 refine I.write (x:=p) (e:=p) (by rw[h];trivial) (.inl rfl) (λb u hb q=>(VN _ _ (VX hb)).trans q) ⟨_,e⟩ ?_;exact⟨hz,its',n',r,e⟩
def N1:V->V->V->Hp->(Hp->Prop)->Prop:=λo i v H Q=>∃p xs k j,o=.ref p/\i=.int k/\H p=some (.lst xs)/\QG xs.length k=some j/\Q (Qa H p (.lst (xs.set j v)))
theorem Ft:OU X N1:=by
 intro gV s σ H o i v ov iv u Q I ro ri rv h;obtain⟨p,xs,k,j,rfl,rfl,hp,hj,q⟩:=h;cases ro;obtain⟨t,rfl⟩:=ri;obtain⟨its,n,r,ho,hz⟩:=I.lst hp;obtain⟨h1,h2,h3,h4⟩:=CA hj;have hl:=r.length;have hn:=t4
 have I':Qi X gV σ (Qa H p (.lst (xs.set j v))) {s with heap:=s.heap.update p (Obj.mapSeq (·.setIfInBounds j u)) } :=
  I.lstUpd hp ho (Bh its n j u) (r.set rv j) (by rw[Wc];exact hz) s.toks
 by_cases h0:0<=k
 .
  have hk:k.toNat=j:=by rw[seqIndex_of h0 h4]at h1;exact Vq h1
  exact PySem.W.ki_setAt ho h0 xL (by rw[Vd,<- hl];exact h4) (by rw[hk];exact⟨_,I',q⟩)
 .
  have hk:(k+(its.toArray.size:Int)).toNat=j:=by rw[seqIndex_neg xL h3]at h1;rw[Vd,<- hl];exact Vq h1
  exact PySem.W.ki_setBack ho xL (by rw[Vd,<- hl];exact h3) xL (by rw[hk];exact⟨_,I',q⟩)
theorem v5(lo hi:Option Int)(n:Nat):(sliceBounds lo hi none n).1=((HT.sIx n 0 lo:Nat):Int)/\(sliceBounds lo hi none n).2.1=((HT.sIx n n hi:Nat):Int)/\(sliceBounds lo hi none n).2.2=1:=by
 refine⟨?_,?_,rfl⟩
 .
  cases lo with
  |none=>simp[sliceBounds,HT.sIx]
  | some i =>
   simp only[sliceBounds,HT.sIx,Option.getD_none,show(1:Int) > 0 by decide,W5];by_cases h:i<0
   . simp only[h,W5]<;>omega
   . simp only[h,WX]<;>omega
 .
  cases hi with
  |none=>simp[sliceBounds,HT.sIx]
  | some i =>
   simp only[sliceBounds,HT.sIx,Option.getD_none,show(1:Int) > 0 by decide,W5];by_cases h:i<0
   . simp only[h,W5]<;>omega
   . simp only[h,WX]<;>omega
theorem uz(its:List Value)(lo hi:Option Int):slicePick its.toArray lo hi none=((its.drop (HT.sIx its.length 0 lo)).take (HT.sIx its.length its.length hi-HT.sIx its.length 0 lo)).toArray:=by obtain⟨h1,h2,h3⟩:=v5 lo hi its.toArray.size;unfold slicePick;rw[h1,h2,h3];simp only[sliceRange_one,pick_run,Vd]<;>rfl
def Pw(K:PySem.W.Frag):V->Option Int->Option Int->Hp->VK->Prop:=λx lo hi H Q=>∃a xs,x=.ref a/\Qn K H a xs/\∀p,H p=none->Q (.ref p) (Qa H p (.lst (HF xs lo hi)))
theorem IL:QE X (Pw X.K):=by intro gV s σ H x v vl vu lo hi sl Q I rx hs pl pu h;obtain⟨a,xs,rfl,hx,q⟩:=h;cases rx;obtain⟨its,r,ht,hz⟩:=I.list hx;have p4:=r.length;refine⟨"list",_,slot_list_getitem.lookup,ht.isList.typeIs,?_⟩;refine wpAny_getItem_list_slice ht.isList hs pl pu .none v6 ?_ (by rw[Vd]<;>omega);rw[uz,<- p4];refine⟨.ref s.heap.objs.size,_,I.laid (t':=s.toks) (o:=.lst (HF xs lo hi)) (λb ob q=>UY _ q) (Vb _) ?_,rfl,q _ (I.hok.fresh (Vb _))⟩;exact⟨U8 (qG xs lo hi) hz,_,0,(r.drop (HT.sIx xs.length 0 lo)).take (HT.sIx xs.length xs.length hi-HT.sIx xs.length 0 lo),Vn _ rfl⟩
noncomputable def tj:V->Bool
 |.non=>true
 |.bl _=>true
 |.int _=>true
 |.str _=>true
 |_=>false
noncomputable def QK:V->V->Bool
 |.non,.non=>true
 |.bl a,.bl b=>a == b
 |.bl a,.int b=>(if a then 1 else 0) == b
 |.int a,.bl b=>a == (if b then 1 else 0)
 |.int a,.int b=>a == b
 |.str a,.str b=>a == b
 |_,_=>false
theorem Ly{A:Around}{s:Shared}{y x:V}{u v:Value}(ry:cu y u)(rx:cu x v)(fy:tj y=true)(fx:tj x=true):SeqAt.EqAt A s u v (QK y x):=by
 cases y with
 | non =>
  cases ry
  cases x with
  |non=>cases rx;exact SeqAt.EqAt.same _
  |bl b=>cases rx;exact SeqAt.EqAt.none_bool b
  |int b=>obtain⟨t,rfl⟩:=rx;exact SeqAt.EqAt.none_int b t
  |str b=>obtain⟨t,rfl⟩:=rx;exact SeqAt.EqAt.none_str b t
  |_=>exact absurd (show false=true from fx) Vt
 | bl a =>
  cases ry
  cases x with
  |non=>cases rx;exact SeqAt.EqAt.bool_none a
  |bl b=>cases rx;exact SeqAt.EqAt.bool_bool a b
  |int b=>obtain⟨t,rfl⟩:=rx;exact SeqAt.EqAt.bool_int a b t
  |str b=>obtain⟨t,rfl⟩:=rx;exact SeqAt.EqAt.bool_str a b t
  |_=>exact absurd (show false=true from fx) Vt
 | int a =>
  obtain⟨t',rfl⟩:=ry
  cases x with
  |non=>cases rx;exact SeqAt.EqAt.int_none a t'
  |bl b=>cases rx;exact SeqAt.EqAt.int_bool a t' b
  |int b=>obtain⟨t,rfl⟩:=rx;exact SeqAt.EqAt.int_int a t' b t
  |str b=>obtain⟨t,rfl⟩:=rx;exact SeqAt.EqAt.int_str a t' b t
  |_=>exact absurd (show false=true from fx) Vt
 | str a =>
  obtain⟨t',rfl⟩:=ry
  cases x with
  |non=>cases rx;exact SeqAt.EqAt.str_none a t'
  |bl b=>cases rx;exact SeqAt.EqAt.str_bool a t' b
  |int b=>obtain⟨t,rfl⟩:=rx;exact SeqAt.EqAt.str_int a t' b t
  |str b=>obtain⟨t,rfl⟩:=rx;exact SeqAt.EqAt.str_str a t' b t
  |_=>exact absurd (show false=true from fx) Vt
 |_=>exact absurd (show false=true from fy) Vt
noncomputable def QL(x:V)(u:Value):Bool:=match u with
 |.none=>QK .non x
 |.bool b=>QK (.bl b) x
 |.int i _=>QK (.int i) x
 |.str z _=>QK (.str z) x
 |_=>false
theorem HG{x y:V}{u:Value}(r:cu y u)(f:tj y=true):QL x u=QK y x:=by
 cases y with
 |non=>cases r;rfl
 |bl b=>cases r;rfl
 |int i=>obtain⟨t,rfl⟩:=r;rfl
 |str z=>obtain⟨t,rfl⟩:=r;rfl
 |_=>exact absurd (show false=true from f) Vt
theorem qH{x:V}:∀{xs:List V}{us:List Value},bT xs us->xs.all tj=true->us.any (QL x)=xs.any λy=>QK y x
 |_,_,.nil,_=>rfl
 | y::xs,u::us,.cons r t,f=>by rw[List.all_cons,U7]at f;rw[WL,WL,HG r f.1,qH t f.2]
theorem mU{A:Around}{s:Shared}{x:V}{v:Value}(rx:cu x v)(fx:tj x=true):∀{xs:List V}{us:List Value},bT xs us->xs.all tj=true->∀u∈us,SeqAt.EqAt A s u v (QL x u)
 |_,_,.nil,_=>λu hu=>by cases hu
 | y::xs,u::us,.cons r t,f=>λu' hu=>by
  rw[List.all_cons,U7]at f;rcases Vc.mp hu with rfl|hu
  . rw[HG r f.1];exact Ly r rx f.1 fx
  . exact mU rx fx t f.2 u' hu
noncomputable def QM(x:V)(xs:List V):Bool:=xs.any λy=>QK y x
def QN(K:PySem.W.Frag)(neg:Bool):R2:=λx y H Q=>∃p xs,y=.ref p/\(Qn K H p xs∨Qo K H p xs)/\tj x=true/\xs.all tj=true/\Q (.bl (if neg then !QM x xs else QM x xs)) H
theorem CC:Qv X (compareOp .In) (QN X.K false):=by
 intro gV s σ H x y v u Q I rx ry h;obtain⟨p,xs,rfl,hq,fx,fs,q⟩:=h;cases ry;rcases hq with hq|hq
 . obtain⟨its,r,pl,hz⟩:=I.list hq;refine SeqAt.in_listAt (QL x) pl.isList (λw hw=>mU rx fx r fs w (by simpa using hw)) ⟨.bl _,H,I,rfl,?_⟩;rw[show its.toArray.any (QL x)=its.any (QL x) by simp,qH r fs];exact q
 . obtain⟨its,r,pl,hz⟩:=I.tuple hq;refine SeqAt.in_tupleAt (QL x) pl (λw hw=>mU rx fx r fs w (by simpa using hw)) ⟨.bl _,H,I,rfl,?_⟩;rw[show its.toArray.any (QL x)=its.any (QL x) by simp,qH r fs];exact q
theorem v7:Qv X (compareOp .NotIn) (QN X.K true):=by
 intro gV s σ H x y v u Q I rx ry h;obtain⟨p,xs,rfl,hq,fx,fs,q⟩:=h;cases ry;rcases hq with hq|hq
 . obtain⟨its,r,pl,hz⟩:=I.list hq;refine SeqAt.notIn_listAt (QL x) pl.isList (λw hw=>mU rx fx r fs w (by simpa using hw)) ⟨.bl _,H,I,rfl,?_⟩;rw[show its.toArray.any (QL x)=its.any (QL x) by simp,qH r fs];exact q
 . obtain⟨its,r,pl,hz⟩:=I.tuple hq;refine SeqAt.notIn_tupleAt (QL x) pl (λw hw=>mU rx fx r fs w (by simpa using hw)) ⟨.bl _,H,I,rfl,?_⟩;rw[show its.toArray.any (QL x)=its.any (QL x) by simp,qH r fs];exact q
theorem pE:jP X (.builtin "len") (λxs H Q=>∃ p ys,xs=[.ref p]/\(Qn X.K H p ys∨Qo X.K H p ys)/\Q (.int ys.length) H):=by
 intro gV s σ H xs us Q I r h;obtain⟨p,ys,rfl,hq,q⟩:=h;obtain⟨u,rfl,rx⟩:=sY r;cases rx;have hn:=t4;rcases hq with hq|hq
 . obtain⟨its,r',pl,hz⟩:=I.list hq;have p4:=r'.length;exact Calls.call_len_list pl.isList (by simp only[Vd]<;>omega) ⟨.int ys.length,H,I.tok _,⟨s.toks+1,by rw[Vd,p4]⟩,q⟩
 . obtain⟨its,r',pl,hz⟩:=I.tuple hq;have p4:=r'.length;exact len_tuple pl (by simp only[Vd]<;>omega) ⟨.int ys.length,H,I.tok _,⟨s.toks+1,by rw[Vd,p4]⟩,q⟩
theorem v8:jP X (.builtin "len") (λxs H Q=>∃ z,xs=[.str z]/\z.length<=sizeLine/\Q (.int z.length) H):=by intro gV s σ H xs us Q I r h;obtain⟨z,rfl,hz,q⟩:=h;obtain⟨u,rfl,t,rfl⟩:=sY r;have hn:=t4;exact len_str xL ⟨.int z.length,H,I.tok _,⟨_,rfl⟩,q⟩
theorem jP.or{f:Value}{r r':List V->Hp->VK->Prop}(h:jP X f r)(h':jP X f r'):jP X f (λxs H Q=>r xs H Q∨r' xs H Q):=by
 intro gV s σ H xs us Q I rs q;rcases q with q|q
 . exact h gV s σ H xs us Q I rs q
 . exact h' gV s σ H xs us Q I rs q
theorem v9:jP X (.type "list") (λxs H Q=>∃ p ys,xs=[.ref p]/\(Qn X.K H p ys∨Qo X.K H p ys)/\∀ l,H l=none->Q (.ref l) (Qa H l (.lst ys))):=by
 intro gV s σ H xs us Q I r h;obtain⟨p,ys,rfl,hq,q⟩:=h;obtain⟨u,rfl,rx⟩:=sY r;cases rx
 have Qm:∀(its:List Value),bT ys its->ys.length<=sizeLine->∀(h':Heap)(c':Nat),(∀b o',s.heap.get? b=some o'->h'.get? b=some o') ->
   h'.get? s.heap.objs.size=some {cls:=.type "list",dict:=none,data:=.seq its.toArray c',slots:=#[] }->EP X gV σ Q (.ref s.heap.objs.size) {s with heap:=h' }:=λits r' hz h' c' kp e =>
  ⟨.ref s.heap.objs.size,_,I.laid (t':=s.toks) kp (Vb _) (show d6 X.prog X.w _ h' _ (.lst ys)from⟨hz,its,c',r',e⟩),rfl,q _ (I.hok.fresh (Vb _))⟩
 rcases hq with hq|hq
 . obtain⟨its,r',pl,hz⟩:=I.list hq;have p4:=r'.length;obtain⟨o,ho,hc,n,hd⟩:=pl.isList;exact call_list_seq p (.inl rfl) ho hc hd (λh' c' kp e=>Qm its r' hz h' c' kp e) (by simp only[Vd]<;>omega)
 . obtain⟨its,r',pl,hz⟩:=I.tuple hq;have p4:=r'.length;obtain⟨o,ho,hc,n,hd⟩:=pl;exact call_list_seq p (.inr rfl) ho hc hd (λh' c' kp e=>Qm its r' hz h' c' kp e) (by simp only[Vd]<;>omega)
theorem uA:jP X (.type "tuple") (λxs H Q=>∃ p ys,xs=[.ref p]/\((Qn X.K H p ys/\∀ l,H l=none->Q (.ref l) (Qa H l (.tup ys)))∨(Qo X.K H p ys/\Q (.ref p) H))):=by
 intro gV s σ H xs us Q I r h;obtain⟨p,ys,rfl,h⟩:=h;obtain⟨u,rfl,rx⟩:=sY r;cases rx;rcases h with⟨hq,q⟩|⟨hq,q⟩
 .
  obtain⟨its,r',pl,hz⟩:=I.list hq;have p4:=r'.length;refine call_tuple_list pl.isList (λh' kp=>?_) (by simp only[Vd]<;>omega);have I1:Qi X gV σ H {s with heap:=h' }:=I.kept (t':=s.toks) kp
  have I2:Qi X gV σ (Qa H h'.objs.size (.tup ys)) {s with heap:=h'.push {cls:=.type "tuple",data:=.seq its.toArray} } :=
   I1.laid (t':=s.toks) (λb o e=>UY _ e) (Vb _) (show d6 X.prog X.w _ _ _ (.tup ys)from⟨hz,its,r',IsTup.new _ _⟩)
  exact⟨.ref h'.objs.size,_,I2,rfl,q _ (I1.hok.fresh (Vb _))⟩
 . obtain⟨its,r',pl,hz⟩:=I.tuple hq;exact call_tuple_same pl ⟨.ref p,H,I,rfl,q⟩
def QO(K:PySem.W.Frag)(T:String)(x:V)(H:Hp):Prop:=match x with
 |.str _=>T="str"
 |.int _=>T="int"
 | .ref p=>(T="list"/\∃ xs,Qn K H p xs)∨(T="tuple"/\∃ o,K.lookup p=some o/\o.cls=.type "tuple"/\o.dict=none) ∨
   (T="dict"/\((∃ kvs,H p=some (.dK kvs))∨∃ kvs,H p=some (.dT kvs)))∨(T="set"/\∃ S n,H p=some (.set S n))
 |_=>False
theorem HH{gV:List (Addr×Obj)}{σ:St}{H:Hp}{s:Shared}{T:String}{x:V}{v:Value}(I:Qi X gV σ H s)(r:cu x v)(ty:QO X.K T x H) :
  s.TypeIs v T/\∀a,v=.ref a->∃ob,s.heap.get? a=some ob/\ob.dict=none:=by
 cases x with
 | str z =>
  obtain⟨t,rfl⟩:=r;cases(show T="str" from ty);exact⟨typeIs_str s z t,λ_ e=>nomatch e⟩
 | int i =>
  obtain⟨t,rfl⟩:=r;cases(show T="int" from ty);exact⟨typeIs_int s i t,λ_ e=>nomatch e⟩
 | ref p =>
  cases r;rcases ty with⟨rfl,xs,hq⟩|⟨rfl,o,hk,hc,hd⟩|⟨rfl,hk⟩|⟨rfl,S,n,hk⟩
  . obtain⟨its,_,pl,_⟩:=I.list hq;refine⟨pl.isList.typeIs,λa e=>?_⟩;cases e;obtain⟨o,n,e,c,hd,_⟩:=pl;exact⟨o,e,hd⟩
  . refine⟨⟨o,I.kIn p o hk,hc⟩,λa e=>?_⟩;cases e;exact⟨o,I.kIn _ o hk,hd⟩
  .
   have z:∃o,s.heap.get? p=some o/\o.ExactDict:=by
    rcases hk with⟨kvs,hk⟩|⟨kvs,hk⟩
    . obtain⟨_,_,_,_,o,_,_,e,ex,_⟩:=I.hok p _ hk;exact⟨o,e,ex⟩
    . obtain⟨_,_,_,_,o,_,_,e,ex,_⟩:=I.hok p _ hk;exact⟨o,e,ex⟩
   obtain⟨o,e,ex⟩:=z;refine⟨⟨o,e,ex.1⟩,λa e2=>?_⟩;cases e2;exact⟨o,e,ex.2.1⟩
  . obtain⟨o,_,_,_,e,ex,_⟩:=I.hok p _ hk;refine⟨⟨o,e,ex.1⟩,λa e2=>?_⟩;cases e2;exact⟨o,e,ex.2.1⟩
 |_=>exact False.elim ty
def Px(K:PySem.W.Frag)(T:String)(r:V->List V->Hp->VK->Prop)(to:TE):TE:=λσ H Q=>to σ H λx H1=>QO K T x H1/\r x [] H1 Q
def QP(K:PySem.W.Frag)(T:String)(r:V->List V->Hp->VK->Prop)(to:TE)(t:TA):TE:=λσ H Q=>to σ H λx H1=>QO K T x H1/\t σ H1 λxs H2=>r x xs H2 Q
variable{o e:Expr}{es:List Expr}{to:TE}{t:TA}{name:Str}{apos cpos:Pos}{T id:String}{r:V->List V->Hp->VK->Prop}
theorem Lz(pa:PlainAttrs T)(slot:Slot T name id) (hty:typeOf (.builtin id)=pure (.type "method_descriptor")) (hm:QJ X id r) (ho:PE X o to)
  (hbase:attributeBase o name X.env (eval o X.env)=eval o X.env:=by rfl) (hline:(apos.endLine == cpos.line)=true:=by rfl):PE X (.Call (.Attribute o name apos) [] [] cpos) (Px X.K T r to):=by
 intro gV s σ H Q I h;refine wpAny_Call_method0_late hbase hline (Qk (ho gV s σ H _ I h) λv s1 ⟨x,H1,I1,r1,ty,q1⟩=>?_);obtain⟨h1,h2⟩:=HH I1 r1 ty;exact⟨T,id,pa,slot,hty,h1,h2,Calls.callWith_builtin rfl (PySem.evalArgs_none (hm gV s1 σ H1 x [] v [] Q I1 r1 .nil q1))⟩
theorem LA(pa:PlainAttrs T)(slot:Slot T name id) (hty:typeOf (.builtin id)=pure (.type "method_descriptor")) (hm:QJ X id r) (ho:PE X o to) (ha:PA X (e::es) t)
  (hbase:attributeBase o name X.env (eval o X.env)=eval o X.env:=by rfl)
  (hfew:((backTo cpos (starEach (e::es) X.env)).all (λx=>!x.1) && (backToKw cpos (keywordEach [] X.env)).all (λx=>x.1.isSome)
   && decide ((e::es).length+([]:List Keyword).length+(if([]:List Keyword).isEmpty then 0 else 1)<30))=true:=by rfl)
  (hline:(apos.endLine == cpos.line)=true:=by rfl) (hs:starEach (e::es) X.env=(false,eval e X.env)::starEach es X.env:=by rfl) (hplain:(backTo cpos (starEach es X.env)).any (·.1)=false:=by rfl) :
  PE X (.Call (.Attribute o name apos) (e::es) [] cpos) (QP X.K T r to t):=by
 intro gV s σ H Q I h;refine wpAny_Call_method_late hbase hfew hline rfl (Qk (ho gV s σ H _ I h) λv s1 ⟨x,H1,I1,r1,ty,q1⟩=>?_);obtain⟨h1,h2⟩:=HH I1 r1 ty;refine⟨T,id,pa,slot,hty,h1,h2,?_⟩;have hA:=ha cpos gV s1 σ H1 _ I1 q1;rw[hs]at hA ⊢;refine Calls.callWith_builtin (by show(false ||(backTo cpos (starEach es X.env)).any (·.1))=false;rw[hplain]<;>rfl) (Calls.evalArgs_plain ?_);exact Qk hA λus s2 ⟨vs,H2,I2,r2,q2⟩=>hm gV s2 σ H2 x vs v us Q I2 r1 r2 q2
/- xs.append(e),list.index on a module's tuple .. are QJ facts of 06m -/
end
def QQ(X:Cx)(id:String)(r:V->List V->Hp->VK->Prop):Prop :=
 ∀(gV:List (Addr×Obj))(s:Shared)(σ:St)(H:Hp)(x:V)(xs:List V)(v:Value)(us:List Value)(Q:VK),Qi X gV σ H s->cu x v->bT xs us->r x xs H Q ->
  wpAny (model X.prog X.w) X.A (call (.builtin id) (v::us)) (EP X gV σ Q) X.xe s
theorem bT.one:∀{x:V}{us:List Value},bT [x] us->∃u,us=[u]/\cu x u
 |_,_,.cons r .nil=>⟨_,rfl,r⟩
theorem bT.two:∀{x y:V}{us:List Value},bT [x,y] us->∃u v,us=[u,v]/\cu x u/\cu y v
 |_,_,_,.cons r (.cons q .nil)=>⟨_,_,rfl,r,q⟩
theorem bT.zero:∀{us:List Value},bT [] us->us=[]
 |_,.nil=>rfl
theorem bT.eraseIdx:∀{xs:List V}{us:List Value}(i:Nat),bT xs us->bT (xs.eraseIdx i) (us.eraseIdx i)
 |_,_,_,.nil=>.nil
 |_,_,0,.cons _ t=>t
 |_,_,i+1,.cons r t=>.cons r (bT.eraseIdx i t)
theorem bT.reverse{xs:List V}{us:List Value}(h:bT xs us):bT xs.reverse us.reverse:=by
 induction h with
 |nil=>exact .nil
 |cons r t ih=>rw[List.reverse_cons,List.reverse_cons];exact bT.append ih (.cons r .nil)
theorem bT.rep{xs:List V}{us:List Value}(h:bT xs us):∀k:Nat,bT (List.replicate k xs).flatten (List.replicate k us).flatten
 |0=>.nil
 | k+1=>by rw[VG,VG,WA,WA];exact bT.append h (bT.rep h k)
theorem wb{α:Type}:∀(l:List α)(i:Nat),(l.eraseIdx i).length<=l.length
 |[],_=>Vb _
 |_::_,0=>Nat.le_succ _
 |_::r,i+1=>Nat.succ_le_succ (wb r i)
theorem wc(its:List Value):∀(k:Nat)(acc:List Value),
  List.foldl (λx1 x2=>x1++x2) acc.toArray (List.replicate k its.toArray)=(acc++(List.replicate k its).flatten).toArray
 |0,acc=>by simp
 | k+1,acc=>by
  have e:acc.toArray++its.toArray=(acc++its).toArray:=by simp
  have e2:(acc++its)++(List.replicate k its).flatten=acc++(List.replicate (k+1) its).flatten:=by rw[VG,WA,VT]
  rw[<- e2,<- wc its k (acc++its),<- e,VG,List.foldl_cons]
section
variable{X:Cx}{gV:List (Addr×Obj)}{σ:St}{H:Hp}{s:Shared}{l:Addr}{xs ys:List V}
theorem Qi.lset{its its':List Value}{n:Nat}{f:Array Value->Array Value}{t':Nat}(I:Qi X gV σ H s)(hH:H l=some (.lst xs))
  (e:s.heap.get? l=some {cls:=.type "list",data:=.seq its.toArray n}) (hf:f its.toArray=its'.toArray) (hv:bT ys its') (hz:ys.length<=sizeLine) :
  Qi X gV σ (Qa H l (.lst ys)) {s with heap:=s.heap.update l (Obj.mapSeq f),toks:=t' }:=by
 have q:=PySem.IsL.update e f;rw[hf]at q;refine I.write (x:=l) (e:=l) (by rw[hH];exact trivial) (.inl rfl) (λb' u hb hu=>(VN s.heap (Obj.mapSeq f) (VX hb)).trans hu) ⟨_,q⟩ ?_;exact⟨hz,its',_,hv,q⟩
theorem Qi.lnew{its:List Value}{t':Nat}(I:Qi X gV σ H s)(hv:bT ys its)(hz:ys.length<=sizeLine) :
  Qi X gV σ (Qa H s.heap.objs.size (.lst ys)) {s with heap:=s.heap.push {cls:=.type "list",data:=.seq its.toArray},toks:=t' } :=
 I.laid (λ_ _ q=>UY _ q) (Vb _) ⟨hz,its,0,hv,Vn _ rfl⟩
theorem Qi.fresh(I:Qi X gV σ H s):H s.heap.objs.size=none:=I.hok.fresh (Vb _)
theorem Qi.lstM(I:Qi X gV σ H s)(hH:H l=some (.lst xs)):xs.length<=sizeLine/\∃(its:List Value)(n:Nat),bT xs its/\xs.length=its.length/\s.heap.get? l=some {cls:=.type "list",data:=.seq its.toArray n}:=by obtain⟨z,its,n,r,e⟩:=I.hok l _ hH;exact⟨z,its,n,r,r.length,e⟩
theorem Fu{n:Nat}(h:n<=sizeLine):Builtin.List.listTooLong n=false:=by unfold Builtin.List.listTooLong;exact Va xL
end
section
variable{X:Cx}
def IM:V->List V->Hp->VK->Prop:=λx vs H Q=>∃l xs y,x=.ref l/\vs=[y]/\H l=some (.lst xs)/\xs.length<sizeLine/\Q .non (Qa H l (.lst (xs++[y])))
theorem wd:QQ X "list.append" IM:=by intro gV s σ H x vs v us Q I rx rv h;obtain⟨l,xs,y,rfl,rfl,hH,hz,q⟩:=h;cases rx;obtain⟨u,rfl,ru⟩:=rv.one;obtain⟨z,its,n,r,hl,e⟩:=I.lstM hH;refine call_meets F.slot_list_append ⟨_,e,rfl⟩ F.entry_list_append (F.args_list_append_2 _ _) (PySem.list_append l its.toArray n u (by rw[Vd];omega)) ⟨e,?_⟩;refine⟨.non,_,I.lset (its':=its++[u]) hH e v6 (r.append (.cons ru .nil)) ?_,rfl,q⟩;rw[VL,List.length_singleton];omega
def P5:V->List V->Hp->VK->Prop:=λx vs H Q=>∃l xs y,x=.ref l/\vs=[]/\H l=some (.lst xs)/\xs[xs.length-1]?=some y/\Q y (Qa H l (.lst xs.dropLast))
def LC:V->List V->Hp->VK->Prop:=λx vs H Q=>∃l xs i k y,x=.ref l/\vs=[.int i]/\H l=some (.lst xs)/\-(2^63)<=i/\i<2^63/\seqIndex? i xs.length=some k/\xs[k]?=some y/\Q y (Qa H l (.lst (xs.eraseIdx k)))
theorem Fv:QQ X "list.pop" LC:=by
 intro gV s σ H x vs v us Q I rx rv h;obtain⟨l,xs,i,k,y,rfl,rfl,hH,h1,h2,hk,hy,q⟩:=h;cases rx;obtain⟨u,rfl,ru⟩:=rv.one;obtain⟨t,rfl⟩:=ru;obtain⟨z,its,n,r,hl,e⟩:=I.lstM hH;obtain⟨w,hw,rw'⟩:=r.get hy
 refine call_meets F.slot_list_pop ⟨_,e,rfl⟩ F.entry_list_pop (F.args_list_pop_2 _ _)
  (MeetsSeq.list_pop_at l its.toArray n i t k w (fitsIndex_both h1 h2) (by rw[Vd,<- hl];exact hk) (by rw[<- Array.getElem?_toList];exact hw) (by rw[Vd];omega)) ⟨e,?_⟩
 refine⟨y,_,I.lset (its':=its.eraseIdx k) hH e ?_ (r.eraseIdx k) ?_,rw',q⟩
 . show its.toArray.eraseIdxIfInBounds k=(its.eraseIdx k).toArray;rw[List.eraseIdxIfInBounds_toArray]
 . have:=wb xs k;omega
def Fw:V->List V->Hp->VK->Prop:=λx vs H Q=>∃l xs,x=.ref l/\vs=[]/\H l=some (.lst xs)/\Q .non (Qa H l (.lst xs.reverse))
theorem Bi:QQ X "list.reverse" Fw:=by intro gV s σ H x vs v us Q I rx rv h;obtain⟨l,xs,rfl,rfl,hH,q⟩:=h;cases rx;have hus:=rv.zero;subst hus;obtain⟨z,its,n,r,hl,e⟩:=I.lstM hH;refine call_meets F.slot_list_reverse ⟨_,e,rfl⟩ F.entry_list_reverse (F.args_list_reverse_1 _) (AutoSeq1.list_reverse_list_0 l its.toArray n (by rw[Vd];omega)) ⟨e,?_⟩;refine⟨.non,_,I.lset (its':=its.reverse) hH e v6 r.reverse ?_,rfl,q⟩;rw[List.length_reverse];omega
def Py:R2:=λx y H Q=>∃l k xs,x=.ref l/\y=.int k/\H l=some (.lst xs)/\-(2^63)<=k/\k<2^63/\xs.length*k.toNat<=sizeLine /\
 ∀p,H p=none->Q (.ref p) (Qa H p (.lst (List.replicate k.toNat xs).flatten))
theorem IP{α:Type}(xs:List α)(k:Nat):(List.replicate k xs).flatten.length=k*xs.length:=by
 induction k with
 |zero=>simp
 |succ k ih=>rw[VG,WA,VL,ih,Nat.succ_mul,Nat.add_comm]
theorem LD:Qv X (binaryOp .Mult) Py:=by
 intro gV s σ H x y v u Q I rx ry h;obtain⟨l,k,xs,rfl,rfl,hH,h1,h2,hz,q⟩:=h;cases rx;obtain⟨t,rfl⟩:=ry;obtain⟨z,its,n,r,hl,e⟩:=I.lstM hH;have p4:its.toArray.size*k.toNat<=sizeLine:=by rw[Vd,<- hl];exact hz
 have hcap:¬its.toArray.size*k.toNat > (2^63-1) / 8:=by
  have:(sizeLine:Nat)<=(2^63-1) / 8:=by decide
  omega
 have hfit:¬(!Builtin.List.listFitsIndex k)=true:=by rw[fitsIndex_both h1 h2];exact Vt
 have hlong:¬Builtin.List.listTooLong (its.toArray.size*k.toNat)=true:=by rw[Fu p4];exact Vt
 have hnew:List.foldl (λx1 x2=>x1++x2) #[] (List.replicate (if its.toArray.isEmpty=true then 0 else k.toNat) its.toArray)=(List.replicate k.toNat its).flatten.toArray:=by
  have f0:∀m:Nat,List.foldl (λx1 x2=>x1++x2) #[] (List.replicate m its.toArray)=(List.replicate m its).flatten.toArray:=λm=>by have:=wc its m [];rw[Wk]at this;exact this
  rw[f0]
  cases its with
  |nil=>simp
  |cons a r'=>rw[if_neg (by simp)]
 refine wpAny_binaryOp_repeat_ref (T:="list") (U:="int") x_ ⟨_,e,rfl⟩ (λs'=>typeIs_int s' k t) noFill_list_mul F.fills_int_mul F.slot_int_rmul repeat_list F.slot_int_index.lookup
  (call_meets F.slot_int_rmul (typeIs_int s k t) F.entry_int_rmul (F.args_int_rmul_2 _ _) (int___rmul___int_list k t l its.toArray n)
   ⟨e,rfl,⟨_,e,rfl⟩,call_meets F.slot_list_mul ⟨_,e,rfl⟩ F.entry_list_mul (F.args_list_mul_2 _ _) (AutoListH.list___mul___list_int_3 l its.toArray n k t hfit hcap hlong) ⟨e,?_⟩⟩)
 rw[hnew];exact⟨.ref _,_,I.lnew (t':=s.toks) (r.rep k.toNat) (by rw[IP,Nat.mul_comm];exact hz),rfl,q _ I.fresh⟩
end
end L2
namespace Att
open PySem PySem.W PySem.Calls PyProof.Rows
theorem qI{P:Params}{h:Heap}:∀(ns:List Int)(vs:List Value),WellAll P h vs (ns.map WData.int)->IntsAre vs ns:=by
 intro ns
 induction ns with
 | nil =>
  intro vs w;rw[List.map_nil]at w;cases w;exact .nil
 | cons n ns ih =>
  intro vs w;rw[Vo]at w
  cases w with
  | cons a b =>
   cases a;exact .cons _ _ (ih _ b)
theorem CD{l:OpenLaw}{n:Nat}(hn:l.most=some n){P:Params}{h:Heap}{args:List WData}{vals:List Value}
  (hpre:l.row.toRowW.claim.pre args=true) (hwl:WellAll P h vals args) :
  ∃ a vs ns,vals=[Value.ref a]/\args=[WData.list (ns.map WData.int)]/\h.get? a=some {cls:=.type "list",data:=.seq vs.toArray}/\IntsAre vs ns/\ns.length<=n:=by
 have hsh:WShape.hasAll [] args [.list .int]=true:=(pre_splitW hpre).1;have hc:l.pre.holds [] {args:=args}=true:=(pre_splitW hpre).2;obtain⟨d,r,rfl,h1,h2⟩:=hasAllW_cons hsh;obtain rfl:=hasAllW_nil h2;obtain⟨xs,rfl,h3⟩:=hasW_list h1;obtain⟨ns,rfl⟩:=items_int h3
 have p4:ns.length<=n:=by
  unfold OpenLaw.pre at hc;have h4:(WTm.not (.lt (.lit (.int (n:Int))) (.len (.arg 0)))).holds [] {args:=[.list (ns.map .int)] }=true:=by have h4:=(holds_andW hc).1;rw[hn]at h4;exact h4
  have h5:=condW_of h4 (w_not (w_lt w_lit (w_len_list (w_arg rfl))));rw[U4]at h5;refine Nat.le_of_not_lt λq=>?_;have q':(n:Int)<((ns.length:Nat):Int):=by omega
  first
   |(rw[Vm q']at h5;exact absurd h5 x_)
   |(simp at h5;omega)
 cases hwl with
 | cons w1 w2 =>
  cases w2
  cases w1 with
  |list ho hall=>exact⟨_,_,ns,rfl,rfl,ho,qI ns _ hall,p4⟩
theorem CF(l:OpenLaw)(args:List WData):l.row.toRowW.claim.post args (.bool true) args=true :=
 postW_of (r:=l.row.toRowW) (X:=(true == true))
  (show WShape.has [] (.bool true) .bool=true by first|rfl|decide|simp[WShape.has,WShape.arms,WShape.armsAll])
  (show(WTm.eq .res (.lit (.bool true))).value [] {args:=args,res:=some (.bool true),after:=args}=some (.bool (true == true))from w_eq_bool (w_res rfl) w_lit) rfl
theorem attach_call{l:OpenLaw}{n:Nat}{q:Program}{loose:List Str}{XP:(Str->Option Value)->Heap->Prop}{YP:World->Heap->Prop}{d:DefRec}
  (hn:l.most=some n) (hdf:d.params.defaults=[])
  (call:∀(w:World)(s₀ s₁:Shared)(mg mb:Str->Option Value)(fa:Addr)(o:Obj)(pm cd doc:Value)(a:Addr)(vs:List Value)(ns:List Int),
   Ground q loose [] XP w s₀ mg mb s₁.heap->YP w s₁.heap ->
   s₁.heap.get? fa=some o->o.data=.func (docDef d.name d.params d.body d.scope pm cd doc)->s₁.heap.CodeRec cd d.name->mg d.name=some (.ref fa) ->
   s₁.heap.get? a=some {cls:=.type "list",data:=.seq vs.toArray}->IntsAre vs ns->ns.length<=n->s₁.gens=#[] ->
   codeAny (model l.prog w) callerA (.call (.ref fa) ⟨[.ref a],[]⟩) (λr s'=>r=.ok (.ret (.bool true))/\OldK s₁.heap s'.heap/\s'.os=s₁.os/\AllBare s'.gens) s₁) :
  WalkO q loose XP YP l.row.toRowW d [] (λf vs=>PySem.call f vs):=by
 intro w s₀ s₁ mg mb G Y fa o pm cd doc dV kV ho hd hcd hD hmg hg args vals as hpre hlay hrd hwl hlo;obtain rfl:dV=.none:=Dflts.none hD hdf;obtain rfl:kV=.none:=Dflts.noKw hD;obtain⟨a,vs,ns,rfl,rfl,hobj,hints,p4⟩:=CD hn hpre hwl;refine enter_call (codeAny_mono (call w s₀ s₁ mg mb fa o pm cd doc a vs ns G Y ho (fd_plain hd) hcd hmg hobj hints p4 hg) λr s' hq=>?_);obtain⟨rfl,h2,h3,h4⟩:=hq;exact⟨.inl ⟨.bool true,.bool true,[],rfl,λ_=>rfl,.bool true,CF l _,λ_=>⟨List.Pairwise.nil,λ_ hm=>(nomatch hm)⟩⟩,h2,h3,h4⟩
section
noncomputable def noObjs(h:Heap):Heap:={h with objs:=#[] }
theorem noObjs_get(h:Heap)(b:Addr):(noObjs h).get? b=none:=by
 cases e:(noObjs h).get? b with
 |none=>rfl
 |some o=>exact absurd (U6 e) (Nat.not_lt_zero _)
noncomputable def OX(h:Heap)(L d:Addr):List (Addr×Obj):=(List.range h.objs.size).filterMap λa=>if a=L∨a=d then none else(h.get? a).map λo=>(a,o)
end
end Att
namespace L2
open PySem PySem.Spec PyProof.Rows
theorem we:∀{vs:List Value}{ns:List Int},IntsAre vs ns->bT (ns.map V.int) vs
 |_,_,.nil=>.nil
 |_,_,.cons n t h=>.cons ⟨t,rfl⟩ (we h)
def NF(H:Hp):Prop:=∀b,H b=none∨(∃o xs,H b=some (.frz o (.lst xs)))∨∃q,H b=some (.tbl q)
noncomputable def eT(K:PySem.W.Frag):List (Addr×Str):=lamNames.filterMap λx=>(PySem.W.tabIn K x).map λp=>(p.2,tZ x)
noncomputable def tabsOk(K:PySem.W.Frag):Bool:=decide ((eT K).map (·.1)).Nodup && (eT K).all λp=>(K.lookup p.1).isNone
theorem CG{K:PySem.W.Frag}{P:Addr}{q:Str}(h:(P,q)∈eT K):∃x∈lamNames,∃c,PySem.W.tabIn K x=some (c,P)/\q=tZ x:=by
 obtain⟨x,hx,e⟩:=WQ.mp h
 cases z:PySem.W.tabIn K x with
 |none=>rw[z]at e;cases e
 |some p=>rw[z]at e;cases e;exact⟨x,hx,p.1,z,rfl⟩
theorem lE{α β:Type}[BEq α][LawfulBEq α]:∀{l:List (α×β)}{a:α}{b:β},l.lookup a=some b->(a,b)∈l
 |[],_,_,h=>nomatch h
 | (x,y)::r,a,b,h=>by
  rw[VJ]at h
  cases hb:a == x with
  |true=>rw[hb]at h;cases h;rw[eq_of_beq hb];exact .head _
  |false=>rw[hb]at h;exact .tail _ (lE h)
theorem jQ{α β:Type}[BEq α][LawfulBEq α]:∀{l:List (α×β)}{a:α}{b:β},(l.map (·.1)).Nodup->(a,b)∈l->l.lookup a=some b
 |[],_,_,_,h=>nomatch h
 | (x,y)::r,a,b,nd,h=>by
  rw[Vo,VC]at nd;rw[VJ];rcases Vc.mp h with e|h
  . cases e;simp
  . have:a≠x:=λz=>nd.1 (z ▸ List.mem_map_of_mem (f:=(·.1)) h);rw[show(a == x)=false from beq_false_of_ne this];exact jQ nd.2 h
theorem Bj{K:PySem.W.Frag}{x:Str}{c P:Addr}(h:PySem.W.tabIn K x=some (c,P)):K.lookup c≠none:=by
 unfold PySem.W.tabIn at h;split at h
 .
  split at h
  .
   split at h
   .
    split at h
    .
     rename_i hco;split at h
     . cases h;intro z;rw[hco]at z;cases z
     . cases h
    . cases h
   . cases h
  . cases h
 . cases h
theorem Fx{P:Program}{w:World}{K:PySem.W.Frag}{mg mb:Str->Option Value}{CX:QC}{k:Nat}{fa a:Addr}{fd:FuncData}{x:Str}{sp:Sp}{s₁:Shared}{vs:List Value}{ns:List Int}
  (KX:K.In s₁.heap) (hns:s₁.heap.Ns mainGlobals mg) (hb:s₁.heap.Ns builtinsNs mb) (hbb:∀ x:Str,x≠"__name__"->mb x=bootBuiltins x) (hlim:s₁.heap.NoLimit) (hsys:∃ mm,s₁.heap.Ns sysModules mm) (hbm:Ld mg s₁.heap) (hto:tabsOk K=true)
  (htb:∀x∈lamNames,∀c P,PySem.W.tabIn K x=some (c,P)->PySem.W.CodeHd s₁.heap c P/\s₁.heap.get? P=some (PySem.W.tabObj #[])) (hg:s₁.gens=#[])
  (ha:s₁.heap.get? a=some {cls:=.type "list",data:=.seq vs.toArray}) (hi:IntsAre vs ns) (hl:ns.length<=sizeLine) (hr:gI k callerA)
  (F:∀base:Heap,K.In base->base.Ns mainGlobals mg->FnOk P w K mg base CX k fa fd [x] sp) (hbind:∀(s:Shared)(u:Value),BindsTo s fd ⟨[u],[]⟩ [(x,u)])
  (hsp:∀H:Hp,NF H->Qn K H a (ns.map V.int)->sp [.ref a] H (λv _=>v=.bl true) λ_ _ _=>False)
  (hCX:∀H e s',CX [] H s₁ (λ_ _ _=>False) e s'->False) :
  codeAny (model P w) callerA (.call (.ref fa) ⟨[.ref a],[]⟩) (λr s'=>r=.ok (.ret (.bool true))/\OldK s₁.heap s'.heap/\s'.os=s₁.os/\AllBare s'.gens) s₁:=by
 have rv:=we hi;have lenV:=hi.length;obtain⟨nd,kn⟩:=WW.mp hto;have nd:=of_decide_eq_true nd;have tabAt:∀{b:Addr}{q:Str},(eT K).lookup b=some q->PySem.isCodeTable s₁.heap b/\s₁.heap.get? b=some (PySem.W.tabObj #[])/\K.lookup b=none:=λ{b q} e=>by have hm:(b,q)∈eT K:=lE e;obtain⟨x,hx,c,e1,_⟩:=CG hm;obtain⟨h1,h2⟩:=htb x hx c b e1;refine⟨(h1.tab h2).isCodeTable,h2,?_⟩;have:=VI.mp kn (b,q) hm;simpa using this
 have core:∀H:Hp,NF H->Qn K H a (ns.map V.int)->Qb P w H s₁.heap->(∀b,H b≠none->b=a∨∃q,H b=some (.tbl q)/\(eT K).lookup b=some q)->(∀b,H b≠none->K.lookup b=none)->Qe K H ->
   codeAny (model P w) callerA (.call (.ref fa) ⟨[.ref a],[]⟩) (λr s'=>r=.ok (.ret (.bool true))/\OldK s₁.heap s'.heap/\s'.os=s₁.os/\AllBare s'.gens) s₁:=by
  intro H hO hS hok hA hK hT;have base_of:∀{b:Addr}{o:Obj},s₁.heap.get? b=some o->H b=none->(Fh s₁.heap H).get? b=some o:=λe n=>Fi e n
  have noB:∀{b:Addr}{o:Obj},s₁.heap.get? b=some o->(∀us n,o.data≠.seq us n)->(∀us,o.data≠.fields us)->H b=none:=λ{b o} e d1 d2=>by
   cases q:H b with
   |none=>rfl
   | some u =>
    rcases hA b (by rw[q];simp)with e' | ⟨z,_,e'⟩
    . subst e';rw[ha]at e;cases e;exact absurd rfl (d1 _ _)
    . rw[(tabAt e').2.1]at e;cases e;exact absurd rfl (d2 _)
  have noA:∀{b:Addr}{o:Obj}{es:Array DictEntry}{ep:Nat},s₁.heap.get? b=some o->o.data=.dict es ep->H b=none:=λ{b o es ep} e d =>
   noB e (λus n z=>by rw[d]at z;cases z) λus z=>by rw[d]at z;cases z
  have nsK:∀{b:Addr}{m:Str->Option Value},s₁.heap.Ns b m->(Fh s₁.heap H).Ns b m:=λ{b m} ⟨o,es,ep,e,d,r⟩=>⟨o,es,ep,base_of e (noA e d),d,r⟩
  have hKb:K.In (Fh s₁.heap H):=λb o e=>base_of (KX b o e) (by
   cases q:H b with
   |none=>rfl
   |some u=>rw[hK b (by rw[q];simp)]at e;cases e)
  have hM:Mod K mg (Fh s₁.heap H):=⟨hKb,nsK hns,⟨mb,nsK hb,hbb⟩,let ⟨mc,h1,h2⟩:=hlim;⟨mc,nsK h1,h2⟩,let ⟨mm,h1⟩:=hsys;⟨mm,nsK h1⟩,by
   obtain⟨bm,ob,b1,b2,b3,b4,b5,b6⟩:=hbm
   exact⟨bm,ob,b1,b2,base_of b3 (noB b3 (λus n z=>by rw[b6]at z;cases z) λus z=>by rw[b6]at z;cases z),b4,b5,b6⟩,λx hx c P e=>by
   obtain⟨⟨o,vs,file,tf,flags,tg,QR,text,tt,e1,r⟩,_⟩:=htb x hx c P e
   exact⟨o,vs,file,tf,flags,tg,QR,text,tt,base_of e1 (by
    cases q:H c with
    |none=>rfl
    |some u=>exact absurd (hK c (by rw[q];simp)) (Bj e)),r⟩⟩
  have e0:Be P w K mg (Fh s₁.heap H) callerA [] s₁ H:=⟨rfl,hM,λb o e=>Io e,Nat.le_of_eq (Cg _ _),trivial,λb hb=>absurd (show b∈([]:List Addr)from hb) v6,hok,.of_eq hg,hT⟩;refine codeAny_mono ((F _ hKb (nsK hns)).run callerA [] s₁ H ⟨[.ref a],[]⟩ [.ref a] [.ref a] _ _ hr e0 (hbind s₁ (.ref a)) (.cons rfl .nil) (hsp H hO hS)) λr s' h=>?_
  cases r with
  |error e=>exact(hCX H e s' h).elim
  | ok fl =>
   cases fl with
   |next=>exact False.elim h
   |brk=>exact False.elim h
   |cont=>exact False.elim h
   | ret u =>
    obtain⟨v,H',os,bare,un,hok',r',q⟩:=h;have q':v=.bl true:=q;subst q';obtain rfl:u=Value.bool true:=r'
    have Qm:∀b o,s₁.heap.get? b=some o->s'.heap.get? b=some o∨(PySem.isCodeTable s₁.heap b/\o=PySem.W.tabObj #[]/\∃ps,s'.heap.get? b=some (PySem.W.tabObj ps)):=λb o e=>by
     cases q:H b with
     |none=>exact .inl (un.keep b o e q (by intro z;exact absurd (show b∈([]:List Addr)from z) v6) v6)
     | some u =>
      rcases hO b with z|⟨ob,xs,z⟩|⟨t,z⟩
      . rw[q]at z;cases z
      . have z2:=un.frzs b ob _ z;obtain⟨e1,_⟩:=hok b _ z;obtain⟨e2,_⟩:=hok' b _ z2;rw[e]at e1;cases e1;exact .inl e2
      .
       rcases hA b (by rw[q];simp)with e' | ⟨t2,_,e'⟩
       . subst e';obtain⟨ps,e1,_⟩:=hok b _ z;rw[ha]at e1;cases e1
       . obtain⟨ps,e2,_⟩:=hok' b _ (un.tbls b _ z);obtain⟨t1,t2,_⟩:=tabAt e';rw[e]at t2;cases t2;exact .inr ⟨t1,rfl,ps,e2⟩
    refine⟨rfl,⟨λb o e=>?_,λb o e=>?_⟩,os,bare⟩
    .
     rcases Qm b o e with z|⟨t,rfl,ps,z⟩
     . exact .inl z
     . exact .inr (.inl ⟨t,rfl,#[],ps,rfl,by rw[Array.empty_append];exact z⟩)
    .
     rcases Qm b o e with z|⟨t,_,ps,z⟩
     . exact⟨o,z⟩
     . exact⟨_,z⟩
 have tbsOf:∀{H:Hp},(∀b q,(eT K).lookup b=some q->H b=some (.tbl q))->Qe K H:=λ{H} h x hx c P e=>h P _ (jQ nd (WQ.mpr ⟨x,hx,by rw[e];rfl⟩));have okT:∀{H:Hp}{b:Addr}{q:Str},(eT K).lookup b=some q->d6 P w H s₁.heap b (.tbl q):=λ{H b q} e=>⟨#[],(tabAt e).2.1,trivial,λpos cv z=>by simp[codeAmong]at z⟩;have na:∀q,(eT K).lookup a≠some q:=λq z=>by have:=(tabAt z).2.1;rw[ha]at this;cases this
 cases hk:K.lookup a with
 | some o =>
  have e:=KX a o hk;rw[ha]at e;cases e;refine core (λb=>((eT K).lookup b).map .tbl) (λb=>?_) (.inr ⟨_,vs.toArray,_,hk,rfl,rfl,rfl,by rw[Vd,lenV];exact hl,by simpa using rv⟩) (λb u z=>?_) (λb z=>?_) (λb z=>?_) (tbsOf λb q e=>by show Option.map _ _=_;rw[e];rfl)
  .
   show Option.map HO.tbl ((eT K).lookup b)=none∨_
   cases q:(eT K).lookup b with
   |none=>exact .inl rfl
   |some t=>exact .inr (.inr ⟨t,by show Option.map _ _=_;rw[q];rfl⟩)
  .
   have z':Option.map HO.tbl ((eT K).lookup b)=some u:=z
   cases q:(eT K).lookup b with
   |none=>rw[q]at z';cases z'
   |some t=>rw[q]at z';cases z';exact okT q
  .
   have z':Option.map HO.tbl ((eT K).lookup b)≠none:=z
   cases q:(eT K).lookup b with
   |none=>rw[q]at z';exact absurd rfl z'
   |some t=>exact .inr ⟨t,rfl,rfl⟩
  .
   have z':Option.map HO.tbl ((eT K).lookup b)≠none:=z
   cases q:(eT K).lookup b with
   |none=>rw[q]at z';exact absurd rfl z'
   |some t=>exact(tabAt q).2.2
 | none =>
  have at_a:∀ b,(if b=a then some (HO.frz {cls:=.type "list",data:=.seq vs.toArray} (.lst (ns.map V.int)))else((eT K).lookup b).map .tbl)≠none->b=a∨∃ q,(eT K).lookup b=some q:=λb z=>by
   by_cases hb:b=a
   . exact .inl hb
   .
    rw[if_neg hb]at z
    cases q:(eT K).lookup b with
    |none=>rw[q]at z;exact absurd rfl z
    |some t=>exact .inr ⟨t,rfl⟩
  have tabA:∀ b q,(eT K).lookup b=some q->(if b=a then some (HO.frz {cls:=.type "list",data:=.seq vs.toArray} (.lst (ns.map V.int)))else((eT K).lookup b).map .tbl)=some (.tbl q):=λb q e=>by rw[if_neg (λ(z:b=a)=>na q (by rw[<- z];exact e)),e];rfl
  refine core (λb=>if b=a then some (.frz {cls:=.type "list",data:=.seq vs.toArray} (.lst (ns.map V.int)))else((eT K).lookup b).map .tbl) (λb=>?_) (.inl (.inr ⟨{cls:=.type "list",data:=.seq vs.toArray},if_pos rfl⟩)) (λb u z=>?_) (λb z=>?_) (λb z=>?_) (tbsOf λb q e=>tabA b q e)
  .
   by_cases hb:b=a
   . exact .inr (.inl ⟨_,_,if_pos hb⟩)
   .
    cases q:(eT K).lookup b with
    |none=>exact .inl (by show ite _ _ _=_;rw[if_neg hb,q];rfl)
    |some t=>exact .inr (.inr ⟨t,tabA b t q⟩)
  .
   by_cases hb:b=a
   . have z':=(if_pos hb).symm.trans z;cases z';subst hb;exact⟨ha,by rw[U4];exact hl,vs,_,rv,ha⟩
   .
    have z':=(if_neg hb).symm.trans z
    cases q:(eT K).lookup b with
    |none=>rw[q]at z';cases z'
    |some t=>rw[q]at z';cases z';exact okT q
  .
   rcases at_a b z with e|⟨q,e⟩
   . exact .inl e
   . exact .inr ⟨q,tabA b q e,e⟩
  .
   rcases at_a b z with e|⟨q,e⟩
   . rw[e];exact hk
   . exact(tabAt e).2.2
theorem walk_of{l:PySem.W.OpenLaw}{n k:Nat}{q:Program}{loose:List Str}{XP:(Str->Option Value)->Heap->Prop}{YP:World->Heap->Prop}{d:DefRec}{K:Params->PySem.W.Frag}{CX:World->QC}{sp:World->Sp}{x:Str}
  (hn:l.most=some n) (hq:importsNone q=true) (hn2:n<=sizeLine) (hdf:d.params.defaults=[]) (hr:gI k callerA)
  (hY:∀(w:World)(h:Heap),YP w h->(K w.params).In h) (hto:∀w:World,tabsOk (K w.params)=true) (hrc:∀(w:World),∀x∈lamNames,PySem.W.tabIn (K w.params) x=none∨((recsOf q).find? λe=>e.name == x).isSome=true)
  (F:∀(w:World)(mg:Str->Option Value)(fa:Addr)(h:Heap),(K w.params).In h->h.Ns mainGlobals mg->mg d.name=some (.ref fa) ->
   ∃fd:FuncData,(∀(s:Shared)(u:Value),BindsTo s fd ⟨[u],[]⟩ [(x,u)]) /\
    ∀base:Heap,(K w.params).In base->base.Ns mainGlobals mg->FnOk l.prog w (K w.params) mg base (CX w) k fa fd [x] (sp w))
  (hsp:∀(w:World)(H:Hp)(a:Addr)(ns:List Int),ns.length<=n->NF H->Qn (K w.params) H a (ns.map V.int)->sp w [.ref a] H (λv _=>v=.bl true) λ_ _ _=>False)
  (hCX:∀(w:World)(H:Hp)(s:Shared)(e:Value)(s':Shared),CX w [] H s (λ_ _ _=>False) e s'->False) :
  PySem.W.WalkO q loose XP YP l.row.toRowW d [] (λf vs=>PySem.call f vs):=by
 refine Att.attach_call hn hdf λw s₀ s₁ mg mb fa o pm cd doc a vs ns G Y ho hd hcd hmg hobj hints p4 hg=>?_;have KX:=hY w _ Y;obtain⟨fd,hb,hF⟩:=F w mg fa _ KX G.T.g hmg
 exact Fx KX G.T.g G.T.b G.T.builtins G.T.nolimit (let ⟨mm,h1,_⟩:=(G.T.seer hq).mods;⟨mm,h1⟩) (let ⟨bm,ob,b1,b2,b3,b4,b5,b6⟩:=G.T.bmain;⟨bm,ob,b1,b2,b3,b4,b5,b6⟩) (hto w) (λy hy c P e=>by
  rcases hrc w y hy with z|z
  . rw[z]at e;cases e
  .
   obtain⟨d',hd'⟩:=Option.isSome_iff_exists.mp z
   exact PySem.W.tab_of G.T KX hd' e) hg hobj hints (U8 p4 hn2) hr hF hb (λH hO hS=>hsp w H a ns p4 hO hS) λH e s'=>hCX w H s₁ e s'
noncomputable def jR(s:Stmt):Arguments:=match s with
 |.FunctionDef _ a _ _ _ _ _ _ _ _=>a
 |_=>{posonlyargs:=[],args:=[],vararg:=none,kwonlyargs:=[],kw_defaults:=[],kwarg:=none,defaults:=[] }
noncomputable def de(s:Stmt):List Stmt:=match s with
 |.FunctionDef _ _ b _ _ _ _ _ _ _=>b
 |_=>[]
noncomputable def aq(s:Stmt):Scope:=match s with
 |.FunctionDef _ _ _ _ _ _ sc _ _ _=>sc
 |_=>{kind:=.function,names:=[],isGenerator:=false,isCoroutine:=false}
noncomputable abbrev CX0:QC:=λ_ _ _ _ _ _=>False
noncomputable abbrev E0:XK:=λ_ _ _=>False
theorem IQ{X:Cx}:zR CX0 X E0:=λ_ _ _ _ _ _ _ h=>h.elim
structure QS (K:PySem.W.Frag) (x qual:Str) (st:Stmt) (f:Addr) (fd:FuncData):Prop where
 ex:∃(oc:Value)(od:Option Addr)(kV doc pm:Value)(an:Option Addr)(cdv ct:Value)(osl:Array (Option Value)),
  fd=PySem.W.fnOf x qual (jR st) (de st) (aq st) .none kV doc pm an cdv ct/\K.lookup f=some ⟨oc,od,.func fd,osl⟩/\PySem.W.codeIn K cdv qual=true
 kp:PySem.W.keepIn K (.ref f)=true
section
variable{P:Program}{w:World}{K:PySem.W.Frag}{mg:Str->Option Value}{base:Heap}
theorem QS.ok{x qual:Str}{st:Stmt}{f:Addr}{fd:FuncData}{N ps:List Str}{k:Nat}{sp:Sp}(F:QS K x qual st f fd)(S:az N ps (aq st))(len:∀vs H Q E,sp vs H Q E->vs.length=ps.length)
  (hbody:∀(cdv:Value)(A:Around)(outer:List Env)(s:Shared)(H:Hp)(vs:List V)(Q:VK)(E:XK),gI k (A.deeper (envOfC qual (aq st) s.heap.objs.size f cdv))->sp vs H Q E ->
   ∃t,Qj (Fd CX0 P w K mg base N qual (aq st) f cdv A outer s H E).nox (de st) t/\t {nx:=λ_ H'=>Q .non H',rt:=Q} (om N vs) H):FnOk P w K mg base CX0 (k+1) f fd ps sp:=by
 obtain⟨oc,od,kV,doc,pm,an,cdv,ct,osl,rfl,lk,hcd⟩:=F.ex;refine IH lk hcd S len λA outer s H vs Q E hr hsp=>?_;obtain⟨t,h,q⟩:=hbody cdv A outer s H vs Q E hr hsp;exact⟨t,h.nox,q⟩
theorem QS.binds{x qual:Str}{st:Stmt}{f:Addr}{fd:FuncData}{ps:List Str}(F:QS K x qual st f fd)
  (h:∀(kV doc pm:Value)(an:Option Addr)(cdv ct:Value)(us:List Value),us.length=ps.length->bindArgs (PySem.W.fnOf x qual (jR st) (de st) (aq st) .none kV doc pm an cdv ct) ⟨us,[]⟩=pure (ps.zip us)):oj K fd ps []:=by
 obtain⟨oc,od,kV,doc,pm,an,cdv,ct,osl,rfl,lk,hcd⟩:=F.ex;exact .all (h kV doc pm an cdv ct)
theorem t6{x qual:Str}{st:Stmt}{f:Addr}{oc:Value}{od an:Option Addr}{osl:Array (Option Value)}{kV doc pm cdv ct:Value}(l:K.lookup f=some ⟨oc,od,.func (PySem.W.fnOf x qual (jR st) (de st) (aq st) .none kV doc pm an cdv ct),osl⟩)
  (c:PySem.W.codeIn K cdv qual=true) (k:PySem.W.keepIn K (.ref f)=true):QS K x qual st f (PySem.W.fnOf x qual (jR st) (de st) (aq st) .none kV doc pm an cdv ct):=⟨⟨oc,od,kV,doc,pm,an,cdv,ct,osl,rfl,l,c⟩,k⟩
end
section
variable{X:Cx}
theorem pv(i:Nat){x:Str}{pos:Pos}(hN:X.N[i]?=some x:=by rfl)(hv:Qg X.env.scope x:=by first | exact Or.inl rfl | exact Or.inr (Or.inl rfl) | exact Or.inr (Or.inr rfl)) (hd:(x == ("__debug__" : Str))=false:=by decide)
  (hcd:(x == ("__classdict__" : Str))=false:=by decide):PE X (.Name x pos) (Iq i):=gJ hN hv hd hcd
end
def OY(H H':Hp):Prop:=∀b o,H b=some o->H' b=some o
theorem OY.free{H H':Hp}(e:OY H H'){l:Addr}(h:H' l=Option.none):H l=Option.none:=by
 cases q:H l with
 |none=>rfl
 | some o =>
  rw[e l o q]at h;cases h
end L2
set_option maxHeartbeats 0
namespace L2
open PySem PySem.Spec
open Sem (wp)
theorem kX:Slot "function" "__getattribute__" "object.__getattribute__" :=
 .of (owner:="object") (n:="__getattribute__") (by rw[typeLookup_type,builtinLookup_eq_fast]; kernel_rfl) y_ y_ y_
  (by first|exact .inl y_|exact .inr y_) (by rw[isSubtype_type];kernel_rfl)
theorem yk:entryFor table "object.__getattribute__"=some Builtin.«object.__getattribute__»:=by
 first | exact F.entry_object_getattribute | exact entryFor_alias (id':="object.__getattribute__") z_ (by first | rfl | decide +kernel) y_ z_ | kernel_rfl
theorem Bk(a b:Value):argsOk "object.__getattribute__" ⟨[a,b],[]⟩:=by
 first|exact F.args_object_getattribute_2 a b|(unfold argsOk;kernel_rfl)
theorem yl:typeLookup (.type "function") "__class__"=pure (some (.builtin "object.__class__")):=by rw[typeLookup_type,builtinLookup_eq_fast]; kernel_rfl
theorem mV:isSubtype (.type "function") (.type (".".intercalate ("object.__class__".cutAt '.').dropLast))=pure true:=by rw[F.owner_object_class,isSubtype_type];kernel_rfl
section
variable{prog:Program}{w:World}{A:Around}{E:Value->Shared->Prop}{h:Heap}{g:Array GenState}{d:Drawn}{t:Nat}{os:OsState}{a:Addr}{o:Obj}
theorem wg{R:Result->Shared->Prop}(hx:h.get? a=some o) (hc:o.cls=.type "function") (hq:R (.ok (.ret (.type "function"))) ⟨h,g,d,t,os⟩) :
  codeAny (model prog w) A (.call (.builtin "getset_descriptor.__get__") ⟨[.builtin "object.__class__",.ref a,.type "function"],[]⟩) R ⟨h,g,d,t,os⟩:=by
 have hT:(⟨h,g,d,t,os⟩:Shared).TypeIs (.ref a) "function":=⟨_,hx,hc⟩;have hT5:(⟨h,g,d,t,os⟩:Shared).TypeIs (.builtin "object.__class__") "getset_descriptor":=F.typeOf_object_class;have f8:=mV;refine WY F.slot_gs_get.plain F.entry_gs_get (F.slot_gs_get.check _ _ _ _ _ _ _ _ hT5 (F.args_gs_get _ _ _) ?_)
 repeat (any_goals (first|assumption|wp_step))
 refine⟨Code.quiet_builtin _ y_,codeAny_builtin F.entry_object_class ?_⟩
 repeat (any_goals (first|assumption|wp_step))
theorem tD{tk:Tok}{Q:PySem.Fin->Shared->Prop}(hx:h.get? a=some o) (hc:o.cls=.type "function") (hq:Q (.done (.ret (.type "function"))) ⟨h,g,d,t,os⟩) :
  wpAny (model prog w) A (Builtin.«object.__getattribute__» ⟨[.ref a,.str "__class__" tk],[]⟩) Q E ⟨h,g,d,t,os⟩:=by
 have hT:(⟨h,g,d,t,os⟩:Shared).TypeIs (.ref a) "function":=⟨_,hx,hc⟩;have hT5:(⟨h,g,d,t,os⟩:Shared).TypeIs (.builtin "object.__class__") "getset_descriptor":=F.typeOf_object_class;have f4:=yl;have f5:=F.typeOf_object_class;have f6:=F.slot_gs_get.lookup;have f7:=F.slot_gs_set.lookup
 repeat (any_goals (first|assumption|wp_step))
 refine wg hx hc ?_
 repeat (any_goals (first|assumption|wp_step))
theorem uB{tk:Tok}{R:Result->Shared->Prop}(hx:h.get? a=some o) (hc:o.cls=.type "function") (hq:R (.ok (.ret (.type "function"))) ⟨h,g,d,t,os⟩) :
  codeAny (model prog w) A (.call (.builtin "object.__getattribute__") ⟨[.ref a,.str "__class__" tk],[]⟩) R ⟨h,g,d,t,os⟩ :=
 WY kX.plain yk (kX.check _ _ _ _ _ _ _ _ (show(⟨h,g,d,t,os⟩:Shared).TypeIs (.ref a) "function" from⟨_,hx,hc⟩) (Bk _ _) (tD hx hc hq))
theorem ym{tk:Tok}{Q:Value->Shared->Prop}(hx:h.get? a=some o) (hc:o.cls=.type "function") (hq:Q (.type "function") ⟨h,g,d,t,os⟩):wpAny (model prog w) A (getAttrBy (.ref a) (.str "__class__" tk) false) Q E ⟨h,g,d,t,os⟩:=by
 have hT:(⟨h,g,d,t,os⟩:Shared).TypeIs (.ref a) "function":=⟨_,hx,hc⟩;have f2:=kX.lookup;have f3:=kX.bind (.ref a)
 repeat (any_goals (first|assumption|wp_step))
 refine uB hx hc ?_
 repeat (any_goals (first|assumption|wp_step))
theorem uC{Q:Option Value->Shared->Prop}(hx:h.get? a=some o) (hc:o.cls=.type "function") (hq:Q (some (.type "function")) ⟨h,g,d,t+1,os⟩):wpAny (model prog w) A (getAttr? (.ref a) "__class__") Q E ⟨h,g,d,t,os⟩:=by
 unfold getAttr? getAttrBy?
 repeat (any_goals (first|assumption|with_reducible apply ym hx hc|wp_step))
end
theorem IR{K:PySem.W.Frag}{a:Addr}:PySem.W.KitX K (.ref a) (.type "function") (PySem.W.KitAt a "function"):=PySem.W.kitx_of PySem.W.kitAt_ty (λ{_ _ _ _ _ s} p k=>by obtain⟨h,g,d,t,os⟩:=s; obtain⟨o,h1,h2⟩:=p; exact uC h1 h2 k)
end L2
namespace L2
open PySem PySem.Spec PyProof.Rows
inductive D where
 |non|bl (b:Bool)|int (i:Int)|str (x:Str)|tup (xs:List D)|lst (xs:List D)|dct (n:Nat)|exc (c:Str) (ns:List Str) (xs:List D)|fn (x:Str) (d:D)
def QT(K:PySem.W.Frag)(H:Hp)(a:Addr)(xs:List V):Prop :=
 (∃o,H a=some (.frz o (.lst xs))) ∨
  ∃(o:Obj)(its:Array Value)(n:Nat),K.lookup a=some o/\o.cls=.type "list"/\o.dict=none/\o.data=.seq its n/\its.size<=sizeLine/\bT xs its.toList
theorem QT.l{K:PySem.W.Frag}{H:Hp}{a:Addr}{xs:List V}(h:QT K H a xs):Qn K H a xs:=by
 rcases h with⟨o,h⟩|h
 . exact .inl (.inr ⟨o,h⟩)
 . exact .inr h
def Fy:HO->Prop
 |.frz _ u=>Fy u
 |.ins _ _ _=>False
 |_=>True
noncomputable def B8(C L:Addr):List Value:=(if C=L then[]else[.ref C])++[.ref L,.type "ValueError",.type "Exception",.type "BaseException",.type "object"]
noncomputable def jS(K:PySem.W.Frag)(c:Str)(C:Addr):Bool:=match PySem.W.clsIn K C,PySem.W.nsIn K mainGlobals "LoadError" with
 | some cd,some (some (.ref L))=>cd.name == c && cd.hasDict && cd.mro == B8 C L && (PySem.W.clsIn K L).any (λk=>k.name == ("LoadError" : Str)) &&
  PySem.W.findIn K (.ref C) "__getattribute__" == some (some (.builtin "BaseException.__getattribute__")) && PySem.W.findIn K (.ref C) "__getattr__" == some none && PySem.W.findIn K (.ref C) "__class__" == some (some (.builtin "object.__class__")) &&
  PySem.W.findIn K (.ref C) "__setattr__" == some (some (.builtin "object.__setattr__")) && PySem.W.typeIn K (.ref C) == some (.type "type") && PySem.W.nsIn K mainGlobals c == some (some (.ref C))
 |_,_=>false
noncomputable def CH:List Stmt->Option (Arguments×Expr×Scope×Pos)
 |[]=>none
 | st::r=>match CH r with
  |some l=>some l
  | none=>match st with
   | .Expr (.Call _ args _ _) _=>(match args.getLast? with
    |some (.Lambda p b sc pos)=>some (p,b,sc,pos)
    |_=>none)
   | .Return (some (.Call _ _ kws _)) _=>(match kws.getLast? with
    |some ⟨_,.Lambda p b sc pos,_⟩=>some (p,b,sc,pos)
    |_=>none)
   |_=>none
noncomputable def Bl(K:PySem.W.Frag)(x:Str):Option (Arguments×Expr×Scope×Pos):=match PySem.W.nsIn K mainGlobals x with
 | some (some (.ref f))=>(match K.lookup f with
  | some ⟨_,_,.func fd,_⟩=>(match fd.body with
   |.stmts b=>CH b
   |_=>none)
  |_=>none)
 |_=>none
def XF(H:Hp)(dx:Option Addr)(ns:List Str)(vs:List V):Prop:=(ns=[]/\vs=[]/\dx=none)∨∃d od,dx=some d/\H d=some (.frz od (.xd (ns.zip vs)))/\ns.length=vs.length
mutual
inductive QU (K:PySem.W.Frag) (H:Hp):V->D->Prop where
 |non:QU K H .non .non
 |bl (b:Bool):QU K H (.bl b) (.bl b)
 |int (i:Int):QU K H (.int i) (.int i)
 |str (x:Str):QU K H (.str x) (.str x)
 |tup {a:Addr} {vs:List V} {ds:List D} (h:Qo K H a vs) (r:bJ K H vs ds):QU K H (.ref a) (.tup ds)
 |lst {a:Addr} {vs:List V} {ds:List D} (h:QT K H a vs) (r:bJ K H vs ds):QU K H (.ref a) (.lst ds)
 |dct {a:Addr} {o:Obj} {kvs:List (P9×V)} (h:H a=some (.frz o (.dK kvs))):QU K H (.ref a) (.dct kvs.length)
 |exc {a:Addr} {o:Obj} {u:HO} {c:Str} {C:Addr} {ns:List Str} {vs:List V} {ds:List D} (h:H a=some (.frz o u)) (hv:Fy u) (hc:o.cls=.ref C) (hn:PySem.W.notCls o=true) (hs:jS K c C=true) (hq:∀f∈ns,PySem.W.findIn K (.ref C) f=some none) (hf:XF H o.dict ns vs) (r:bJ K H vs ds):QU K H (.ref a) (.exc c ns ds)
 | fn {f c c':Addr} {oc oq:Obj} {x y:Str} {pr:Arguments} {bd:Expr} {sc:Scope} {pos:Pos} {pm ctv u:Value} {v:V} {d:D} (hl:Bl K x=some (pr,bd,sc,pos)) (hf:H f=some (.frz (PySem.W.kla_obj "<lambda>" (tZ x) pr bd sc [(y,c)] pm c' ctv) (.own f)))
  (hq:H c'=some (.frz oq (.own c'))) (hc:pD oq (tZ x)) (hz:H c=some (.frz oc (.own c))) (hd:oc.data=.cell (some u)) (hv:cu v u) (hm:(y,NameKind.free)∈sc.names) (r:QU K H v d):QU K H (.ref f) (.fn x d)
inductive bJ (K:PySem.W.Frag) (H:Hp):List V->List D->Prop where
 |nil:bJ K H [] []
 |cons {v:V} {d:D} {vs:List V} {ds:List D} (h:QU K H v d) (t:bJ K H vs ds):bJ K H (v::vs) (d::ds)
end
def NG:HO->Prop
 |.tup _=>True
 |.frz _ _=>True
 |.tbl _=>True
 |_=>False
def vQ(H H':Hp):Prop:=∀b o,NG o->H b=some o->H' b=some o
theorem Qo.pres{K:PySem.W.Frag}{H H':Hp}{a:Addr}{xs:List V}(p:vQ H H')(h:Qo K H a xs):Qo K H' a xs:=by
 rcases h with(h|⟨o,h⟩)|h
 . exact .inl (.inl (p _ _ True.intro h))
 . exact .inl (.inr ⟨o,p _ _ True.intro h⟩)
 . exact .inr h
theorem QT.pres{K:PySem.W.Frag}{H H':Hp}{a:Addr}{xs:List V}(p:vQ H H')(h:QT K H a xs):QT K H' a xs:=by
 rcases h with⟨o,h⟩|h
 . exact .inl ⟨o,p _ _ True.intro h⟩
 . exact .inr h
theorem XF.pres{H H':Hp}(p:vQ H H'){dx:Option Addr}{ns:List Str}{vs:List V}(h:XF H dx ns vs):XF H' dx ns vs:=by
 rcases h with h|⟨d,od,e,h,l⟩
 . exact .inl h
 . exact .inr ⟨d,od,e,p _ _ True.intro h,l⟩
mutual
theorem QU.pres{K:PySem.W.Frag}{H H':Hp}(p:vQ H H'):∀{v:V}{d:D},QU K H v d->QU K H' v d
 |_,_,.non=>.non
 |_,_,.bl b=>.bl b
 |_,_,.int i=>.int i
 |_,_,.str x=>.str x
 |_,_,.tup h r=>.tup (h.pres p) (bJ.pres p r)
 |_,_,.lst h r=>.lst (h.pres p) (bJ.pres p r)
 |_,_,.dct h=>.dct (p _ _ True.intro h)
 |_,_,.exc h hv hc hn hs hq hf r=>.exc (p _ _ True.intro h) hv hc hn hs hq (hf.pres p) (bJ.pres p r)
 |_,_,.fn hl hf hq hc hz hd hv hm r=>.fn hl (p _ _ True.intro hf) (p _ _ True.intro hq) hc (p _ _ True.intro hz) hd hv hm (QU.pres p r)
theorem bJ.pres{K:PySem.W.Frag}{H H':Hp}(p:vQ H H'):∀{vs:List V}{ds:List D},bJ K H vs ds->bJ K H' vs ds
 |_,_,.nil=>.nil
 |_,_,.cons h t=>.cons (QU.pres p h) (bJ.pres p t)
end
theorem bJ.length{K:PySem.W.Frag}{H:Hp}:∀{vs:List V}{ds:List D},bJ K H vs ds->vs.length=ds.length
 |_,_,.nil=>rfl
 |_,_,.cons _ t=>by simp[bJ.length t]
theorem bJ.get{K:PySem.W.Frag}{H:Hp}:∀{vs:List V}{ds:List D}{i:Nat}{d:D},bJ K H vs ds->ds[i]?=some d->∃v,vs[i]?=some v/\QU K H v d
 |_,_,_,_,.nil,e=>by simp at e
 |_,_,0,_,.cons h _,e=>by simp at e;subst e;exact⟨_,rfl,h⟩
 | _,_,i+1,d,.cons _ t,e=>by obtain⟨v,h1,h2⟩:=bJ.get (i:=i) (d:=d) t (by simpa using e);exact⟨v,by simpa using h1,h2⟩
theorem bJ.set{K:PySem.W.Frag}{H:Hp}{v:V}{d:D}(r:QU K H v d):∀{vs:List V}{ds:List D}(i:Nat),bJ K H vs ds->bJ K H (vs.set i v) (ds.set i d)
 |_,_,_,.nil=>.nil
 |_,_,0,.cons _ t=>.cons r t
 |_,_,i+1,.cons h t=>.cons h (bJ.set r i t)
theorem bJ.append{K:PySem.W.Frag}{H:Hp}:∀{vs us:List V}{ds es:List D},bJ K H vs ds->bJ K H us es->bJ K H (vs++us) (ds++es)
 |_,_,_,_,.nil,s=>s
 |_,_,_,_,.cons h t,s=>.cons h (bJ.append t s)
theorem bJ.take{K:PySem.W.Frag}{H:Hp}:∀{vs:List V}{ds:List D}(n:Nat),bJ K H vs ds->bJ K H (vs.take n) (ds.take n)
 |_,_,0,_=>.nil
 |_,_,_+1,.nil=>.nil
 |_,_,n+1,.cons h t=>.cons h (bJ.take n t)
theorem bJ.drop{K:PySem.W.Frag}{H:Hp}:∀{vs:List V}{ds:List D}(n:Nat),bJ K H vs ds->bJ K H (vs.drop n) (ds.drop n)
 |_,_,0,r=>r
 |_,_,_+1,.nil=>.nil
 |_,_,n+1,.cons _ t=>bJ.drop n t
theorem bJ.reverse{K:PySem.W.Frag}{H:Hp}:∀{vs:List V}{ds:List D},bJ K H vs ds->bJ K H vs.reverse ds.reverse
 |_,_,.nil=>.nil
 | _,_,.cons h t=>by rw[List.reverse_cons,List.reverse_cons];exact(bJ.reverse t).append (.cons h .nil)
inductive L where
 |un|d (x:D)|own (a:Addr) (xs:List D)|bx (k:Option Addr) (ls:List L)|dic (a:Addr) (kvs:List (P9×D))
noncomputable abbrev Ev:=List L
mutual
noncomputable def bb:L->List Addr
 |.un=>[]
 |.d _=>[]
 |.own a _=>[a]
 |.bx k ls=>k.toList++eU ls
 |.dic a _=>[a]
noncomputable def eU:List L->List Addr
 |[]=>[]
 |l::ls=>bb l++eU ls
end
noncomputable def owns(Z:Ev):List Addr:=Z.flatMap bb
theorem eV:∀ls:List L,eU ls=owns ls
 |[]=>rfl
 |l::ls=>by rw[eU,eV ls];rfl
mutual
def a8(K:PySem.W.Frag)(H:Hp)(s:Option V):L->Prop
 |.un=>True
 |.d x=>∃v,s=some v/\QU K H v x
 |.own a xs=>s=some (.ref a)/\∃vs,H a=some (.lst vs)/\bJ K H vs xs
 |.bx none ls=>∃a vs,s=some (.ref a)/\Qo K H a vs/\cb K H vs ls
 |.bx (some a) ls=>s=some (.ref a)/\∃vs,H a=some (.lst vs)/\cb K H vs ls
 |.dic a kvs=>s=some (.ref a)/\∃vs,H a=some (.dK vs)/\Paired (λ(p:P9×V) (q:P9×D)=>p.1=q.1/\QU K H p.2 q.2) vs kvs
def cb(K:PySem.W.Frag)(H:Hp)(vs:List V):List L->Prop
 |[]=>vs=[]
 |l::ls=>∃v us,vs=v::us/\a8 K H (some v) l/\cb K H us ls
end
mutual
theorem a8.pres{K:PySem.W.Frag}{H H':Hp}(p:vQ H H'):∀{s:Option V}(l:L),(∀a∈bb l,H' a=H a)->a8 K H s l->a8 K H' s l
 |_,.un,_,_=>by simp only[a8]
 | _,.d x,_,h=>by
  simp only[a8]at h ⊢
  obtain⟨v,e,r⟩:=h
  exact⟨v,e,r.pres p⟩
 | _,.own a xs,q,h=>by
  simp only[a8]at h ⊢
  obtain⟨e,vs,ha,r⟩:=h
  exact⟨e,vs,(q a (by simp[bb])).trans ha,r.pres p⟩
 | _,.bx none ls,q,h=>by
  simp only[a8]at h ⊢
  obtain⟨a,vs,e,ha,r⟩:=h
  exact⟨a,vs,e,ha.pres p,cb.pres p ls (λb hb=>q b (by simp[bb,hb])) r⟩
 | _,.bx (some a) ls,q,h=>by
  simp only[a8]at h ⊢
  obtain⟨e,vs,ha,r⟩:=h
  exact⟨e,vs,(q a (by simp[bb])).trans ha,cb.pres p ls (λb hb=>q b (by simp[bb,hb])) r⟩
 | _,.dic a kvs,q,h=>by
  simp only[a8]at h ⊢
  obtain⟨e,vs,ha,r⟩:=h
  exact⟨e,vs,(q a (by simp[bb])).trans ha,Paired.mapP r λ_ _ z=>⟨z.1,z.2.pres p⟩⟩
theorem cb.pres{K:PySem.W.Frag}{H H':Hp}(p:vQ H H'):∀{vs:List V}(ls:List L),(∀a∈eU ls,H' a=H a)->cb K H vs ls->cb K H' vs ls
 |_,[],_,h=>by simpa only[cb]using h
 | _,l::ls,q,h=>by
  simp only[cb]at h ⊢
  obtain⟨v,us,e,h1,h2⟩:=h
  exact⟨v,us,e,a8.pres p l (λb hb=>q b (by simp[eU,hb])) h1,cb.pres p ls (λb hb=>q b (by simp[eU,hb])) h2⟩
end
def IS:HO->Prop
 |.lst _=>True
 |.dK _=>True
 |_=>False
theorem IS.no{o:HO}(h:IS o)(p:NG o):False:=by cases o<;>first|exact h|exact p
mutual
theorem a8.lstAt{K:PySem.W.Frag}{H:Hp}:∀{s:Option V}(l:L),a8 K H s l->∀a∈bb l,∃o,H a=some o/\IS o
 |_,.un,_,a,ha=>by simp[bb]at ha
 |_,.d x,_,a,ha=>by simp[bb]at ha
 | _,.own b xs,h,a,ha=>by
  simp only[a8]at h
  have e:a=b:=by simpa[bb]using ha
  subst e
  obtain⟨_,vs,q,_⟩:=h
  exact⟨_,q,True.intro⟩
 | _,.bx none ls,h,a,ha=>by
  simp only[a8]at h
  obtain⟨b,vs,e,_,r⟩:=h
  exact cb.lstAt ls r a (by simpa[bb]using ha)
 | _,.bx (some b) ls,h,a,ha=>by
  simp only[a8]at h
  obtain⟨e,vs,q,r⟩:=h
  rcases(by simpa[bb]using ha:a=b∨a∈eU ls)with z|z
  .
   subst z;exact⟨_,q,True.intro⟩
  .
   exact cb.lstAt ls r a z
 | _,.dic b xs,h,a,ha=>by
  simp only[a8]at h
  have e:a=b:=by simpa[bb]using ha
  subst e
  obtain⟨_,vs,q,_⟩:=h
  exact⟨_,q,True.intro⟩
theorem cb.lstAt{K:PySem.W.Frag}{H:Hp}:∀{vs:List V}(ls:List L),cb K H vs ls->∀a∈eU ls,∃o,H a=some o/\IS o
 |_,[],_,a,ha=>by simp[eU]at ha
 | _,l::ls,h,a,ha=>by
  simp only[cb]at h
  obtain⟨v,us,e,h1,h2⟩:=h
  rcases(by simpa[eU]using ha:a∈bb l∨a∈eU ls)with z|z
  .
   exact a8.lstAt l h1 a z
  .
   exact cb.lstAt ls h2 a z
end
structure aA (K:PySem.W.Frag) (Pr H:Hp) (σ:St) (Z:Ev):Prop where
 sub:∀b o,Pr b=some o->H b=some o
 nd:(owns Z).Nodup
 off:∀a∈owns Z,Pr a=none
 sl:Paired (a8 K H) σ Z
theorem iO{Z:Ev}{a:Addr}:a∈owns Z↔∃l∈Z,a∈bb l:=by unfold owns;rw[List.mem_flatMap]
theorem IT{Z:Ev}{a:Addr}{xs:List D}(h:L.own a xs∈Z):a∈owns Z:=iO.mpr ⟨_,h,by simp[bb]⟩
theorem aF(a b:Ev):owns (a++b)=owns a++owns b:=List.flatMap_append
theorem Paired.mem2{α β:Type}{F:α->β->Prop}:∀{l1:List α}{l2:List β}{b:β},Paired F l1 l2->b∈l2->∃a,a∈l1/\F a b
 |_,_,_,.nil,h=>by simp at h
 | _,_,_,.cons r t,h=>by
  rcases Vc.mp h with rfl|h
  . exact⟨_,UZ,r⟩
  . obtain⟨a,h1,h2⟩:=Paired.mem2 t h;exact⟨a,UW _ h1,h2⟩
theorem Paired.app{α β:Type}{F:α->β->Prop}:∀{a c:List α}{b d:List β},Paired F a b->Paired F c d->Paired F (a++c) (b++d)
 |_,_,_,_,.nil,s=>s
 |_,_,_,_,.cons r t,s=>.cons r (Paired.app t s)
theorem Paired.unapp{α β:Type}{F:α->β->Prop}:∀{a c:List α}{b d:List β},a.length=b.length->Paired F (a++c) (b++d)->Paired F a b/\Paired F c d
 |[],_,[],_,_,s=>⟨.nil,s⟩
 | x::a,_,y::b,_,hl,.cons r t=>by obtain⟨p,q⟩:=Paired.unapp (a:=a) (b:=b) (by simpa using hl) t;exact⟨.cons r p,q⟩
 |[],_,_::_,_,hl,_=>by simp at hl
 |_::_,_,[],_,hl,_=>by simp at hl
theorem Paired.get2{α β:Type}{F:α->β->Prop}:∀{l1:List α}{l2:List β}{i:Nat}{b:β},Paired F l1 l2->l2[i]?=some b->∃a,l1[i]?=some a/\F a b
 |_,_,_,_,.nil,e=>by simp at e
 |_,_,0,_,.cons h _,e=>by simp at e;subst e;exact⟨_,rfl,h⟩
 | _,_,i+1,d,.cons _ t,e=>by obtain⟨v,h1,h2⟩:=Paired.get2 (i:=i) (b:=d) t (by simpa using e);exact⟨v,by simpa using h1,h2⟩
theorem Paired.set2{α β:Type}{F:α->β->Prop}{a:α}{b:β}(r:F a b):∀{l1:List α}{l2:List β}(i:Nat),Paired F l1 l2->Paired F (l1.set i a) (l2.set i b)
 |_,_,_,.nil=>.nil
 |_,_,0,.cons _ t=>.cons r t
 |_,_,i+1,.cons h t=>.cons h (Paired.set2 r i t)
theorem Paired.impMem{α β:Type}{F G:α->β->Prop}:∀{l1:List α}{l2:List β},Paired F l1 l2->(∀b∈l2,∀a,F a b->G a b)->Paired G l1 l2
 |_,_,.nil,_=>.nil
 |_,_,.cons r t,h=>.cons (h _ UZ _ r) (Paired.impMem t λb hb=>h b (UW _ hb))
theorem Paired.set_r{α β:Type}{F:α->β->Prop}{b:β}:∀{l1:List α}{l2:List β}(i:Nat),Paired F l1 l2->(∀a,l1[i]?=some a->F a b)->Paired F l1 (l2.set i b)
 |_,_,_,.nil,_=>.nil
 |_,_,0,.cons _ t,h=>.cons (h _ rfl) t
 |_,_,i+1,.cons q t,h=>.cons q (Paired.set_r i t λa e=>h a (by simpa using e))
section
variable{K:PySem.W.Frag}{Pr H H':Hp}{σ τ w σ':St}{Z μ lam Z':Ev}
theorem aA.len(E:aA K Pr H σ Z):σ.length=Z.length:=Paired.length E.sl
noncomputable def bE(H:Hp)(Z:Ev):Hp:=λb=>if b∈owns Z then none else H b
theorem aA.at_own(E:aA K Pr H σ Z){a:Addr}(h:a∈owns Z):∃o,H a=some o/\IS o:=by obtain⟨l,hx,ha⟩:=iO.mp h;obtain⟨s,_,q⟩:=Paired.mem2 E.sl hx;exact q.lstAt l a ha
theorem aA.wide(E:aA K Pr H σ Z):aA K (bE H Z) H σ Z :=
 ⟨λb o e=>by unfold bE at e;split at e;cases e;exact e,E.nd,λa h=>by unfold bE;rw[if_pos h],E.sl⟩
theorem aA.drop(E:aA K Pr H (τ++σ) (lam++Z))(hl:τ.length=lam.length):aA K Pr H σ Z :=
 ⟨E.sub,(Vv.mp (aF lam Z ▸ E.nd)).2.1,λa h=>E.off a (by rw[aF];exact Vi _ h),(Paired.unapp hl E.sl).2⟩
theorem aA.left(E:aA K Pr H (τ++σ) (lam++Z))(hl:τ.length=lam.length):aA K Pr H τ lam :=
 ⟨E.sub,(Vv.mp (aF lam Z ▸ E.nd)).1,λa h=>E.off a (by rw[aF];exact Vh _ h),(Paired.unapp hl E.sl).1⟩
theorem uD{H H':Hp}{Z:Ev}{σ:St}{Pr:Hp}(E:aA K Pr H σ Z)(h:∀b o,bE H Z b=some o->H' b=some o):vQ H H':=λb o p e=>by refine h b o ?_;unfold bE;rw[if_neg,e];intro hm;obtain⟨u,e',m⟩:=E.at_own hm;rw[e]at e';cases e';exact m.no p
theorem aA.step(E:aA K Pr H (τ++σ) (lam++Z))(hl:τ.length=lam.length)(E':aA K (bE H Z) H' (w++σ') (μ++Z'))(hw:w.length=μ.length):aA K Pr H' (w++(τ++σ')) (μ++(lam++Z')):=by
 have Eσ:=E.drop hl;have p:vQ H H':=uD Eσ E'.sub;have dis:∀a∈owns lam,a∉owns Z:=λa h1 h2=>(Vv.mp (aF lam Z ▸ E.nd)).2.2 a h1 a h2 rfl;have at':∀a∈owns lam,bE H Z a=H a:=λa h=>by unfold bE;rw[if_neg (dis a h)]
 have some':∀a∈owns lam,∃o,H a=some o/\IS o:=λa h=>E.at_own (by rw[aF];exact Vh _ h);have out:∀a∈owns lam,a∉owns (μ++Z'):=λa h h2=>by have z:=E'.off a h2;rw[at' a h]at z;obtain⟨vs,e,_⟩:=some' a h;rw[e]at z;cases z
 have s1:=(Paired.unapp hw E'.sl);have s2:=(Paired.unapp hl E.sl).1;refine⟨λb o e=>?_,?_,λa ha=>?_,Paired.app s1.1 (Paired.app ?_ s1.2)⟩
 . refine E'.sub b o ?_;unfold bE;rw[if_neg,E.sub b o e];intro hm;have z:=Eσ.off b hm;rw[e]at z;cases z
 .
  have n1:=E'.nd;rw[aF]at n1;rw[aF,aF];obtain⟨q1,q2,q3⟩:=Vv.mp n1;refine Vv.mpr ⟨q1,Vv.mpr ⟨(Vv.mp (aF lam Z ▸ E.nd)).1,q2,λa ha b hb=>?_⟩,λa ha b hb=>?_⟩
  . rintro rfl;exact out a ha (by rw[aF];exact Vi _ hb)
  .
   rcases Vx.mp hb with hb|hb
   . rintro rfl;exact out a hb (by rw[aF];exact Vh _ ha)
   . exact q3 a ha b hb
 .
  rw[aF,aF]at ha
  have key:a∈owns (μ++Z')->Pr a=none:=λh=>by
   have z:=E'.off a h;unfold bE at z;by_cases hm:a∈owns Z
   . exact Eσ.off a hm
   .
    rw[if_neg hm]at z
    cases q:Pr a with
    |none=>rfl
    |some o=>rw[E.sub a o q]at z;cases z
  rcases Vx.mp ha with h|h
  . exact key (by rw[aF];exact Vh _ h)
  .
   rcases Vx.mp h with h|h
   . exact E.off a (by rw[aF];exact Vh _ h)
   . exact key (by rw[aF];exact Vi _ h)
 .
  have:∀l∈lam,∀s,a8 K H s l->a8 K H' s l:=λl hlm s h=>h.pres p l λa e=>by have ha:a∈owns lam:=iO.mpr ⟨l,hlm,e⟩;obtain⟨vs,e,_⟩:=some' a ha;rw[E'.sub a _ ((at' a ha).trans e),e]
  exact Paired.impMem s2 this
end
end L2
namespace L2
open PySem PySem.Spec PyProof.Rows PySem.W
structure sU (K:Frag) (c:Str) (C L:Addr) (cd:ClassData):Prop where
 cls:clsIn K C=some cd
 load:nsIn K mainGlobals "LoadError"=some (some (.ref L))
 name:cd.name=c
 dct:cd.hasDict=true
 mro:cd.mro=B8 C L
 lname:∃ k,clsIn K L=some k/\k.name=("LoadError" : Str)
 ga:findIn K (.ref C) "__getattribute__"=some (some (.builtin "BaseException.__getattribute__"))
 gx:findIn K (.ref C) "__getattr__"=some none
 gc:findIn K (.ref C) "__class__"=some (some (.builtin "object.__class__"))
 sa:findIn K (.ref C) "__setattr__"=some (some (.builtin "object.__setattr__"))
 ty:typeIn K (.ref C)=some (.type "type")
 own:nsIn K mainGlobals c=some (some (.ref C))
theorem jT{K:Frag}{c:Str}{C:Addr}(h:jS K c C=true):∃L cd,sU K c C L cd:=by
 unfold jS at h;split at h
 . rename_i cd L e1 e2;simp only[U7,WE]at h;obtain⟨⟨⟨⟨⟨⟨⟨⟨⟨h1,h2⟩,h3⟩,h4⟩,h5⟩,h6⟩,h7⟩,h8⟩,h9⟩,h10⟩:=h;obtain⟨k,hk,hn⟩:=any_some h4;exact⟨L,cd,e1,e2,h1,h2,h3,⟨k,hk,WE.mp hn⟩,h5,h6,h7,h8,h9,h10⟩
 . cases h
section
variable{K:Frag}{c:Str}{C L:Addr}{cd:ClassData}
theorem yn(C L:Addr):B8 C L=[.ref C,.ref L,.type "ValueError",.type "Exception",.type "BaseException",.type "object"]∨B8 C L=[.ref L,.type "ValueError",.type "Exception",.type "BaseException",.type "object"]/\C=L:=by
 by_cases h:C=L
 . exact .inr ⟨by unfold B8;rw[if_pos h];rfl,h⟩
 . exact .inl (by unfold B8;rw[if_neg h];rfl)
theorem Fz(C L:Addr)(b:Value):(B8 C L).contains b=([.ref C,.ref L,.type "ValueError",.type "Exception",.type "BaseException",.type "object"]:List Value).contains b:=by
 rcases yn C L with e|⟨e,h⟩
 . rw[e]
 . subst h;rw[e];simp only[Wv,<- Bool.or_assoc,Bool.or_self]
theorem sU.mroIn(S:sU K c C L cd)(b:Value):PySem.W.mroIn K C b=some (([.ref C,.ref L,.type "ValueError",.type "Exception",.type "BaseException",.type "object"]:List Value).contains b):=by
 unfold PySem.W.mroIn;rw[S.cls,Option.bind_some,S.mro];have ne:(B8 C L).isEmpty=false:=by rcases yn C L with e|⟨e,_⟩<;>rw[e]<;>rfl
 show(if(B8 C L).isEmpty=true then none else some ((B8 C L).contains b))=_
 rw[ne,Fz];rfl
theorem qJ(C L:Addr)(T:String):(([.ref C,.ref L,.type "ValueError",.type "Exception",.type "BaseException",.type "object"]:List Value).contains (.type T))=(["ValueError","Exception","BaseException","object"]:List String).contains T:=by
 simp only[Wv,List.contains_nil,W4];have e:∀a:Addr,(Value.type T == Value.ref a)=false:=λ_=>rfl
 have f:∀U:String,(Value.type T == Value.type U)=(T == U):=λU=>by
  by_cases q:T=U
  . subst q;simp
  . rw[VP.mpr q,VP];intro z;injection z with z;exact q z
 rw[e,e,f,f,f,f];rfl
theorem FC(C L D:Addr):(([.ref C,.ref L,.type "ValueError",.type "Exception",.type "BaseException",.type "object"]:List Value).contains (.ref D))=(D == C ||D == L):=by
 simp only[Wv,List.contains_nil,W4];have e:∀T:String,(Value.ref D == Value.type T)=false:=λ_=>rfl
 have f:∀a:Addr,(Value.ref D == Value.ref a)=(D == a):=λU=>by
  by_cases q:D=U
  . subst q;simp
  . rw[VP.mpr q,VP];intro z;injection z with z;exact q z
 rw[e,e,e,e,f,f,W4,W4,W4,W4]
theorem sU.has(S:sU K c C L cd){T:String} (h:(["ValueError","Exception","BaseException","object"]:List String).contains T=true):PySem.W.mroIn K C (.type T)=some true:=by rw[S.mroIn,qJ,h]
theorem sU.isT(S:sU K c C L cd){M:Model}{h:Heap}(X:K.In h)(T:String):Looks M h (isSubtype (.ref C) (.type T)) ((["ValueError","Exception","BaseException","object"]:List String).contains T):=looks_mroIn X (by rw[S.mroIn,qJ])
end
section
variable{prog:Program}{w:World}{A:Around}{E:Value->Shared->Prop}{s:Shared}{K:Frag}{c:Str}{x C L:Addr}{cd:ClassData}{ox:Obj}{od:Option Obj}{name:Str}
theorem wj{tk:Tok}{Q:Fin->Shared->Prop}(S:sU K c C L cd)(X:K.In s.heap)(I:InstAt s.heap x ox C od) (hf:findObj K C od "__class__"=some (.bind (.builtin "getset_descriptor.__get__") (.builtin "object.__class__"))) (hq:Q (.done (.ret (.ref C))) s) :
  wpAny (model prog w) A (Builtin.«object.__getattribute__» ⟨[.ref x,.str "__class__" tk],[]⟩) Q E s:=by
 obtain⟨hh,g,d,t,os⟩:=s;have L0:=I.type (M:=model prog w);have L1:=looks_find (M:=model prog w) X I hf;unfold Builtin.«object.__getattribute__»;refine UX (U9 (UX (U9 ?_)));refine UX (L0.at (UX (L1.at ?_)));show wpAny _ _ (holding [Value.builtin "object.__class__"] (call (.builtin "getset_descriptor.__get__") [.builtin "object.__class__",.ref x,.ref C]) >>= ret) _ _ _;refine UX (Wi (Xe ?_));exact class_get (s:=⟨hh,g,d,t,os⟩) (ox:=ox) (od:=od) X I (S.has x_) (U9 hq)
theorem IU{tk:Tok}{v:Value}{fill expr:Bool}{Q:Value->Shared->Prop}(S:sU K c C L cd)(X:K.In s.heap)(I:InstAt s.heap x ox C od)
  (he:∀(A':Around)(Q':Fin->Shared->Prop),Q' (.done (.ret v)) s->wpAny (model prog w) A' (Builtin.«object.__getattribute__» ⟨[.ref x,.str name tk],[]⟩) Q' (λ_ _=>False) s) (hh:handedIn v=true) (hq:Q v s) :
  wpAny (model prog w) A (getAttrBy (.ref x) (.str name tk) fill expr) Q E s:=by
 have FB:=F.excAttr_ValueError;have L0:=I.type (M:=model prog w);have L1:=looks_findIn (M:=model prog w) X S.ga;have L2:=looks_findIn (M:=model prog w) X S.gx;unfold getAttrBy;refine Wi (UX (L0.here (UX (L1.here ?_))));have hx2:(Value.builtin "BaseException.__getattribute__" == Value.builtin "object.__getattribute__")=false:=by decide +kernel
 dsimp only;rw[hx2,Bool.and_false,if_neg (by decide)];unfold getAttrByItsOwn;refine UX ((looks_hook (mc:=.ref C) X (r:=none) S.gx).here ?_);refine UX (wpAny_attempt (Wi ?_));have hx0:(expr && onTheHeap (Value.builtin "BaseException.__getattribute__"))=false:=by cases expr <;> rfl
 unfold callGetattribute boundAndCalled;rw[hx0,if_neg (by decide),FB.ga.bind];refine UX (U9 (Xe ?_));have hi:Looks (model prog w) s.heap (isInstance (.ref x) (.type "BaseException")) true:=L0.andThen (S.isT X _);have hkd:builtinKind "BaseException.__getattribute__"=some .slot:=by decide +kernel
 have hsp:splitId "BaseException.__getattribute__"=some ("BaseException","__getattribute__"):=by decide +kernel
 refine WY FB.ga.plain F.entry_bexc_ga (@check_slot (model prog w) _ _ s "BaseException.__getattribute__" "BaseException" "__getattribute__" (.ref x) [.str name tk] [] _ hkd hsp hi (F.args_bexc_ga (.ref x) (.str name tk)) ?_);refine V7 (he _ _ ?_) (λ_ _ z=>z) λ_ _ z=>z.elim;show wpAny _ _ (handedOut v) _ _ _;rw[handedOut_of hh];exact U9 hq
end
theorem IV(K:Frag):specialIn K (.builtin "object.__class__") "__get__"=some (some (.builtin "getset_descriptor.__get__")):=(by decide +kernel:specialIn [] (.builtin "object.__class__") "__get__"=some (some (.builtin "getset_descriptor.__get__")))
theorem CI(K:Frag):takesIn K (.builtin "object.__class__")=some true:=(by decide +kernel:takesIn [] (.builtin "object.__class__")=some true)
section
variable{prog:Program}{w:World}{A:Around}{E:Value->Shared->Prop}{s:Shared}{K:Frag}{c:Str}{x C L:Addr}{cd:ClassData}{ox:Obj}{od:Option Obj}
theorem sU.fclass(S:sU K c C L cd)(od:Option Obj):findObj K C od "__class__"=some (.bind (.builtin "getset_descriptor.__get__") (.builtin "object.__class__")):=by unfold findObj;rw[S.cls,Option.bind_some,S.gc,Option.bind_some];simp[IV,CI]
theorem yo{Q:Option Value->Shared->Prop}(S:sU K c C L cd)(X:K.In s.heap)(I:InstAt s.heap x ox C od)(hq:Q (some (.ref C)) {s with toks:=s.toks+1}) :
  wpAny (model prog w) A (getAttr? (.ref x) "__class__") Q E s:=by
 obtain⟨hh,g,d,t,os⟩:=s;unfold getAttr? getAttrBy?;refine UX (wpAny_mkText (UX (wpAny_attempt ?_)));exact IU (s:=⟨hh,g,d,t+1,os⟩) (ox:=ox) (od:=od) S X I (λA' Q' q=>wj (s:=⟨hh,g,d,t+1,os⟩) S X I (S.fclass od) q) rfl (U9 hq)
theorem FD(S:sU K c C L cd):KitX K (.ref x) (.ref C) (λh=>∃ox od,InstAt h x ox C od) where
 ty:=λ_ _ _ ⟨_,_,I⟩=>I.type
 it:=λ_ _ X _=>by
  have hc:=S.cls;unfold clsIn at hc;split at hc
  . rename_i ho;intro A' Q' E' s' k q;unfold isType loadHead;exact UX (wpAny_loadPart (k _ _ (X _ _ ho)) (U9 q))
  . cases hc
 ne:=λh tp dd its n sl X htp=>by
  refine Bool.eq_false_iff.mpr λq=>?_;have e:C=tp:=Value.ref.inj (WE.mp q);subst e;have hc:=S.cls;unfold clsIn at hc;split at hc
  . rename_i ho;have z:=(X _ _ ho).symm.trans htp;cases z
  . cases hc
 ca:=λX ⟨_,_,I⟩ k=>yo S X I k
end
theorem qK{K:Frag}{C:Addr}{cd:ClassData}(h:clsIn K C=some cd):∃oc odc sl,K.lookup C=some ⟨oc,odc,.cls cd,sl⟩:=by
 unfold clsIn at h;split at h
 . rename_i ho;cases h;exact⟨_,_,_,ho⟩
 . cases h
section
variable{prog:Program}{w:World}{A:Around}{E:Value->Shared->Prop}{s:Shared}{K:Frag}{c:Str}{x C L:Addr}{cd:ClassData}{ox:Obj}{od:Option Obj}{name:Str}
theorem N2{vs:Array Value}{text:Value}{Q:Value->Shared->Prop}(S:sU K c C L cd)(X:K.In s.heap)(I:InstAt s.heap x ox C od)(hd:ox.data=.fields vs)(hz:0<vs.size)
  (hq:∀ t,Q .none {s with heap:=(s.heap.push {cls:=.type "tuple",data:=.seq #[text] }).update x (Obj.mapFields (·.setIfInBounds 0 (.ref s.heap.objs.size))),toks:=t}) :
  wpAny (model prog w) A (call (.builtin "ValueError.__init__") [.ref x,text]) Q E s:=by
 have FB:=F.excBase_ValueError;have hi:Looks (model prog w) s.heap (isInstance (.ref x) (.type "ValueError")) true:=I.type.andThen (S.isT X _);have hx:=I.at_;obtain⟨hh,g,d,t,os⟩:=s;have hx1:=UY (h:=hh) {cls:=.type "tuple",data:=.seq #[text] } hx;have h0:vs[0]?=some vs[0]:=Array.getElem?_eq_getElem hz;have hst:=FB.noStar;refine Xe (WY FB.init.plain FB.initEntry ?_);simp only[checkBuiltinCall,FB.initKind,FB.initSplit,FB.initRow];refine UX (hi.here ?_);simp only[Bool.not_true,Wl,WX];have hcl:=I.cls;obtain⟨oc,odc,sl,hK⟩:=qK S.cls;have hC:hh.get? C=some ⟨oc,odc,.cls cd,sl⟩:=X _ _ hK
 repeat (first|(with_reducible refine VS hx ?_;rw[hcl])|with_reducible refine VS hC ?_|with_reducible refine(S.isT X _).here ?_|wp_step)
 rw[hd];refine U9 ?_;rw[h0];refine U9 (UX (wpAny_setField hx1 hd hz ?_))
 have done:∀t',wpAny (model prog w) A.in1 (ret Value.none) (λQm s'=>match Qm with
   | Fin.done f=>(match (Except.ok f:Result)with
    |.ok (.ret v)=>Q v s'
    |.ok _=>False
    |.error e=>E e s')
   | Fin.again c'=>c'.quiet=true/\codeAny (model prog w) A c' (λr s'=>match r with
    |.ok (.ret v)=>Q v s'
    |.ok _=>False
    |.error e=>E e s') s') (λe s'=>E e s') ⟨(hh.push {cls:=.type "tuple",data:=.seq #[text] }).update x (Obj.mapFields (·.setIfInBounds 0 (.ref hh.objs.size))),g,d,t',os⟩:=λt'=>U9 (hq t')
 split
 . exact wpAny_letGo (done _)
 . exact U9 (done _)
theorem wk{v:Value}{Q:Unit->Shared->Prop}(S:sU K c C L cd)(X:K.In s.heap)(I:InstAt s.heap x ox C od)(hna:findIn K (.ref C) name=some none)
  (h:∀(A':Around)(R:Fin->Shared->Prop),(∀s',Q () s'->R (.done (.ret .none)) s')->wpAny (model prog w) A' (Builtin.ObjectAttr.storeInOwnDict (.ref x) (.ref C) (.str name s.toks) name v false) R (λ_ _=>False) {s with toks:=s.toks+1}) :
  wpAny (model prog w) A (setAttr (.ref x) name v) Q E s:=by
 have SF:=PySem.F.store_ValueError;obtain⟨hh,g,d,t,os⟩:=s;have L0:=I.type (M:=model prog w);have L1:=looks_findIn (M:=model prog w) X S.sa;have L2:=looks_findIn (M:=model prog w) X hna;have Lm:Looks (model prog w) hh (mroOf (.ref C)) cd.mro:=(looks_clsIn X S.cls).andThen .now;have hi:Looks (model prog w) hh (isInstance (.ref x) (.type "object")) true:=L0.andThen (S.isT X _);unfold setAttr callSpecial? specialOf;refine UX (wpAny_mkText (UX (UX (UX (L0.at (L1.at ?_))))));dsimp only;refine Wi (UX ?_);rw[SF.slot.bind];refine U9 (UX (Xe ?_));refine WY SF.slot.plain SF.entry (@check_slot (model prog w) _ _ ⟨hh,g,d,t+1,os⟩ "object.__setattr__" "object" "__setattr__" (.ref x) [.str name t,v] [] _ SF.kind SF.split hi (SF.args (.ref x) (.str name t) v) ?_);show wpAny _ _ (Builtin.«object.__setattr__» ⟨[.ref x,.str name t,v],[]⟩) _ _ _;rw[osa_eq,refuse_eq];refine UX (UX (L0.at (UX (Lm.at ?_))));rw[S.mro];have em:B8 C L=[.ref C,.ref L,.type "ValueError",.type "Exception",.type "BaseException",.type "object"]∨B8 C L=[.ref L,.type "ValueError",.type "Exception",.type "BaseException",.type "object"]:=(yn C L).imp id And.left;rcases em with e|e
 all_goals
  rw[e]
  first|rw[refuseLoop_ref,refuseLoop_ref,SF.passes] | rw[refuseLoop_ref,SF.passes]
  refine U9 (UX (L0.at (UX (L2.at (UX (U9 ?_))))));dsimp only;refine V7 (h _ _ λs' q=>?_) (λ_ _ z=>z) λ_ _ z=>z.elim;exact U9 (U9 q)
theorem FE{v:Value}{Q:Unit->Shared->Prop}(S:sU K c C L cd)(X:K.In s.heap)(I:InstAt s.heap x ox C od)(hdn:ox.dict=none)(hna:findIn K (.ref C) name=some none)
  (hq:∀h' tk,h'.get? x=some {ox with dict:=some s.heap.objs.size}->h'.Ns1 s.heap.objs.size (λy=>if y=name then some v else none)->(∀b o,b≠x->s.heap.get? b=some o->h'.get? b=some o)->Q () {s with heap:=h',toks:=tk}) :
  wpAny (model prog w) A (setAttr (.ref x) name v) Q E s:=by
 refine wk S X I hna λA' R k=>?_;obtain⟨hh,g,d,t,os⟩:=s;have hx:=I.at_;have hcl:=I.cls;have hno:=I.no;have Lc:=looks_clsIn (M:=model prog w) X S.cls;have hxs:x≠hh.objs.size:=Vp (U6 hx);unfold Builtin.ObjectAttr.storeInOwnDict;refine UX (U9 ?_);rw[if_neg (by show ¬ ((Value.ref C == Value.type "module")=true); exact λz=>by cases z)];refine UX ?_;show wpAny _ _ (instanceDict x true) _ _ _;unfold instanceDict;refine UX (VS hx ?_);rw[hcl];dsimp only;refine UX (Lc.at ?_);rw[S.dct];simp only[Bool.not_true,Wl,WX];rw[hdn];dsimp only;rw[if_neg (by simp[typeHasDict])]
 have go:∀(Q':Option Addr->Shared->Prop),(∀ h1,h1.get? x=some {ox with dict:=some hh.objs.size}->h1.get? hh.objs.size=some {cls:=.type "dict",data:=.dict #[] }->(∀ b o,b≠x->hh.get? b=some o->h1.get? b=some o)->Q' (some hh.objs.size) ⟨h1,g,d,t+1,os⟩) ->
   wpAny (model prog w) A' (do
    let d <- alloc {cls:=.type "dict",data:=.dict #[] }
    update x λo=>{o with dict:=some d}
    dictMade (.ref C) x d) Q' (λ_ _=>False) ⟨hh,g,d,t+1,os⟩:=λQ' q=>by
  have hx1:(hh.push {cls:=.type "dict",data:=.dict #[] }).get? x=some ox:=UY _ hx;refine UX (wpAny_alloc' ?_);refine UX (wpAny_update' hx1 ?_);refine U9 (q _ ?_ ?_ λb o hb e=>?_)
  .
   refine Wg _ hx1 ?_;have fr:=(Heap.get?_some_iff.mp hx).2;obtain⟨c0,d0,dt,s0⟩:=ox
   cases dt<;>first|rfl|exact fr
  . exact(Heap.get?_update_ne _ _ _ _ hxs.symm).trans (Heap.get?_push_at rfl rfl)
  . exact(Heap.get?_update_ne _ _ _ _ hb).trans (UY _ e)
 have Qm:∀ h1,h1.get? x=some {ox with dict:=some hh.objs.size}->h1.get? hh.objs.size=some {cls:=.type "dict",data:=.dict #[] }->(∀ b o,b≠x->hh.get? b=some o->h1.get? b=some o) ->
   wpAny (model prog w) A' (Builtin.ObjectAttr.storeInDict hh.objs.size (.str name t) name v) R (λ_ _=>False) ⟨h1,g,d,t+1,os⟩:=λh1 e1 e2 e3=>by
  have n0:h1.Ns hh.objs.size (λ_=>none):=⟨_,#[],_,e2,rfl,λe he=>absurd he v6,λ_=>rfl⟩;unfold Builtin.ObjectAttr.storeInDict Builtin.ObjectAttr.newKeyGuard;refine UX (U9 (UX (wpAny_nsSet1 (Heap.Ns1.of_empty n0) λh2 n2 hs=>?_)));obtain⟨oD,esD,epD,hoD,hdD,hcD⟩:=n2.count (Within.cons name v Within.nil);refine UX (wpAny_lookBehind hoD (by rw[hdD];exact pastItsLine_dict (U8 hcD (by rw[V5,List.length_nil,WZ];omega))) ?_);refine U9 (k _ (hq h2 _ ((hs.2 x hxs).trans e1) n2 λb o hb e=>(hs.2 b (Vp (U6 e))).trans (e3 b o hb e)))
 split
 . rename_i q;rw[notCls,q]at hno;cases hno
 . exact go _ Qm
theorem FF{v:Value}{Q:Unit->Shared->Prop}{dx:Addr}{mA:Str->Option Value}{ns:List Str}(S:sU K c C L cd)(X:K.In s.heap)(I:InstAt s.heap x ox C od)(hdx:ox.dict=some dx)(hN:s.heap.Ns1 dx mA)(hw:PySem.Within mA ns)(hz:ns.length<=1000)(hna:findIn K (.ref C) name=some none)
  (hq:∀h' tk,h'.Ns1 dx (λy=>if y=name then some v else mA y)->Heap.SameBut dx s.heap h'->Q () {s with heap:=h',toks:=tk}) :
  wpAny (model prog w) A (setAttr (.ref x) name v) Q E s:=by
 refine wk S X I hna λA' R k=>?_;obtain⟨hh,g,d,t,os⟩:=s;have hx:=I.at_;have hcl:=I.cls;have Lc:=looks_clsIn (M:=model prog w) X S.cls;unfold Builtin.ObjectAttr.storeInOwnDict;refine UX (U9 ?_);rw[if_neg (by show ¬ ((Value.ref C == Value.type "module")=true); exact λz=>by cases z)];refine UX ?_;show wpAny _ _ (instanceDict x true) _ _ _;unfold instanceDict;refine UX (VS hx ?_);rw[hcl];dsimp only;refine UX (Lc.at ?_);rw[S.dct];simp only[Bool.not_true,Wl,WX];rw[hdx];refine U9 ?_;show wpAny _ _ (Builtin.ObjectAttr.storeInDict dx (.str name t) name v) _ _ _;unfold Builtin.ObjectAttr.storeInDict Builtin.ObjectAttr.newKeyGuard;refine UX (U9 (UX (wpAny_nsSet1 hN λh2 n2 hs=>?_)));obtain⟨oD,esD,epD,hoD,hdD,hcD⟩:=n2.count (Within.cons name v hw);refine UX (wpAny_lookBehind hoD (by rw[hdD];exact pastItsLine_dict (U8 hcD (by rw[V5,WZ];omega))) ?_);exact U9 (k _ (hq h2 _ n2 hs))
end
end L2
namespace L2
open PySem PySem.Spec PyProof.Rows
section
variable{X:Cx}{gV:List (Addr×Obj)}{σ:St}{H:Hp}{s:Shared}
theorem Qi.reword{a:Addr}{u w:HO}(I:Qi X gV σ H s)(h:H a=some u)(hu:¬NG u)(hw:∀y,u≠.own y)(nw:d6 X.prog X.w H s.heap a w)(hw2:∀C dx fs,w≠.ins C dx fs):Qi X gV σ (Qa H a w) s:=by
 have ne:∀b,H b=none->b≠a:=λb n e=>by subst e;rw[h]at n;cases n
 have nt:∀b xs,H b=some (.tup xs)->b≠a:=λb xs n e=>by subst e;rw[h]at n;cases n;exact hu True.intro
 have nf:∀b o z,H b=some (.frz o z)->b≠a:=λb o z n e=>by subst e;rw[h]at n;cases n;exact hu True.intro
 have no:∀b z,H b=some (.own z)->b≠a:=λb z n e=>by subst e;rw[h]at n;cases n;exact hw _ rfl
 refine⟨I.ok,I.os,I.bare,⟨I.base.keep,I.base.slot,λb ob e n hx=>?_,I.base.there,λb xs e=>?_,λb ob z e=>?_,λb ps e=>?_⟩,I.loc,I.cell,?_,λx c e=>?_,λp hp=>?_,λb z e=>?_,I.len⟩
 . have q:=I.base.free b ob e n hx;rw[ax (ne b q)];exact q
 . have q:=I.base.tups b xs e;rw[ax (nt b xs q)];exact q
 . have q:=I.base.frzs b ob z e;rw[ax (nf b ob z q)];exact q
 . have q:=I.base.tbls b ps e;rw[ax (λz=>by subst z;rw[h]at q;cases q;exact hu True.intro)];exact q
 . rw[ax (ne _ I.free)];exact I.free
 .
  rcases I.freeC x c e with z|⟨hf,o,z⟩
  . exact .inl (by rw[ax (ne _ z)];exact z)
  . exact .inr ⟨hf,o,by rw[ax (nf _ _ _ z)];exact z⟩
 . obtain⟨e,n,r⟩:=I.pin p hp;exact⟨e,by rw[ax (ne _ n)];exact n,r⟩
 .
  by_cases hb:b=a
  . subst hb;rw[aW]at e;cases e;exact nw.stay (λc v _ q=>q) (λc q=>by rw[ax (no c _ q)];exact q) (λc xs q=>by rw[ax (nt c xs q)];exact q) λc ob _ _ q=>by rw[ax (nf c ob _ q)];exact q
  . rw[ax hb]at e;exact(I.hok b z e).stay (λc v _ q=>q) (λc q=>by rw[ax (no c _ q)];exact q) (λc xs q=>by rw[ax (nt c xs q)];exact q) λc ob _ _ q=>by rw[ax (nf c ob _ q)];exact q
theorem Qi.freezeL{a:Addr}{xs:List V}(I:Qi X gV σ H s)(h:H a=some (.lst xs)):∃o,Qi X gV σ (Qa H a (.frz o (.lst xs))) s:=by obtain⟨z,its,n,r,e⟩:=id (I.hok a _ h);exact⟨_,I.reword h (λq=>q) (λ_ q=>nomatch q) ⟨e,z,its,n,r,e⟩ (λ_ _ _ q=>nomatch q)⟩
end
section
variable{K:PySem.W.Frag}{Pr H:Hp}{σ:St}{Z:Ev}
theorem aA.new(E:aA K Pr H σ Z){p:Addr}{o:HO}(h:H p=none):aA K Pr (Qa H p o) σ Z:=by
 have k:∀b u,H b=some u->Qa H p o b=some u:=λb u e=>by rw[ax (bf e h)];exact e
 exact⟨λb u e=>k b u (E.sub b u e),E.nd,E.off,Paired.impMem E.sl λl hl s q=>q.pres (λb u _ e=>k b u e) l λa e=>by
  obtain⟨vs,e,_⟩:=E.at_own (iO.mpr ⟨l,hl,e⟩)
  rw[k _ _ e,e]⟩
theorem bJ.new{vs:List V}{ds:List D}(r:bJ K H vs ds){p:Addr}{o:HO}(h:H p=none):bJ K (Qa H p o) vs ds:=r.pres λb u _ e=>by rw[ax (bf e h)];exact e
theorem QU.new{v:V}{d:D}(r:QU K H v d){p:Addr}{o:HO}(h:H p=none):QU K (Qa H p o) v d:=r.pres λb u _ e=>by rw[ax (bf e h)];exact e
theorem pF:owns (.un::Z)=owns Z:=rfl
theorem a9{a:Addr}{xs:List D}:owns (.own a xs::Z)=a::owns Z:=rfl
theorem aA.cons_d(E:aA K Pr H σ Z){v:V}{x:D}(r:QU K H v x):aA K Pr H (some v::σ) (.d x::Z):=⟨E.sub,E.nd,E.off,.cons ⟨v,rfl,r⟩ E.sl⟩
theorem aA.cons_un(E:aA K Pr H σ Z){v:Option V}:aA K Pr H (v::σ) (.un::Z):=⟨E.sub,E.nd,E.off,.cons True.intro E.sl⟩
theorem aA.cons_own(E:aA K Pr H σ Z){p:Addr}{vs:List V}{xs:List D}(h:H p=none)(r:bJ K H vs xs):aA K Pr (Qa H p (.lst vs)) (some (.ref p)::σ) (.own p xs::Z):=by
 have E':=E.new (o:=.lst vs) h;refine⟨E'.sub,?_,λa ha=>?_,.cons ⟨rfl,vs,aW,r.new h⟩ E'.sl⟩
 . rw[a9];refine VC.mpr ⟨λhm=>?_,E.nd⟩;obtain⟨us,e,_⟩:=E.at_own hm;rw[h]at e;cases e
 .
  rw[a9]at ha;rcases Vc.mp ha with rfl|ha
  .
   cases q:Pr a with
   |none=>rfl
   |some u=>rw[E.sub a u q]at h;cases h
  . exact E.off a ha
theorem aA.cons_tup(E:aA K Pr H σ Z){p:Addr}{vs:List V}{xs:List D}(h:H p=none)(r:bJ K H vs xs):aA K Pr (Qa H p (.tup vs)) (some (.ref p)::σ) (.d (.tup xs)::Z) :=
 (E.new h).cons_d (.tup (Qo.of aW) (r.new h))
theorem aA.freeze(E:aA K Pr H σ (.own a xs::Z)){vs:List V}(h:H a=some (.lst vs))(o:Obj):aA K Pr (Qa H a (.frz o (.lst vs))) σ (.d (.lst xs)::Z):=by
 have pa:Pr a=none:=E.off a (by rw[a9];exact UZ);have nd:=E.nd;rw[a9]at nd;obtain⟨hn,nd⟩:=VC.mp nd;have p:vQ H (Qa H a (.frz o (.lst vs))):=λb u pu e=>by rw[ax];exact e;rintro rfl;rw[h]at e;cases e;exact pu
 refine⟨λb u e=>?_,nd,λb hb=>E.off b (by rw[a9];exact UW _ hb),?_⟩
 . rw[ax];exact E.sub b u e;rintro rfl;rw[pa]at e;cases e
 .
  have sl:=E.sl
  cases sl with
  | cons q t =>
   obtain⟨e,us,e2,r⟩:=q;rw[h]at e2;cases e2;refine .cons ⟨.ref a,e,.lst (.inl ⟨o,aW⟩) (r.pres p)⟩ (Paired.impMem t λl hl s z=>z.pres p l λb hbm=>?_);rw[ax];rintro rfl;exact hn (iO.mpr ⟨l,hl,hbm⟩)
theorem aK(l:L)(Z:Ev):owns (l::Z)=bb l++owns Z:=rfl
theorem iz{k:L}:∀{Z:Ev}{i:Nat}{l:L},Z[i]?=some k->bb l=[]->(owns Z).Perm (bb k++owns (Z.set i l))
 |[],_,_,h,_=>by simp at h
 | _::Z,0,l,h,hl=>by simp at h;subst h;show(owns (_::Z)).Perm (_++owns (l::Z));rw[aK,aK,hl];exact List.Perm.refl _
 | m::Z,i+1,l,h,hl=>by have ih:=iz (i:=i) (Z:=Z) (l:=l) (by simpa using h) hl;show(owns (m::Z)).Perm (bb k++owns (m::Z.set i l));rw[aK,aK];refine(List.Perm.append_left _ ih).trans ?_;rw[<- VT,<- VT];exact List.Perm.append_right _ VW
theorem CJ{a:Addr}{xs:List D}{Z:Ev}{i:Nat}{l:L}(h:Z[i]?=some (.own a xs))(hl:bb l=[]):(owns Z).Perm (a::owns (Z.set i l)):=iz h hl
theorem zU{Z:Ev}{i:Nat}(l:L)(h:Z[i]?=some .un):(owns (Z.set i l)).Perm (bb l++owns Z):=by
 have hi:i<Z.length:=(U1.mp h).1;have pm:=iz (Z:=Z.set i l) (i:=i) (k:=l) (l:=.un) (by simp[hi]) rfl;rw[WK]at pm;have e2:Z.set i .un=Z:=by have:=List.set_getElem_self (as:=Z) (i:=i) hi;have e3:Z[i]=.un:=(U1.mp h).2;rw[e3]at this;exact this
 rw[e2]at pm;exact pm
theorem aA.outL(E:aA K Pr H σ Z){i:Nat}{k:L}{s:Option V}(h:Z[i]?=some k)(hs:σ[i]?=some s):aA K Pr H (s::σ) (k::Z.set i .un):=by have pm:=iz (l:=.un) h rfl;obtain⟨s',hs',q⟩:=Paired.get2 E.sl h;rw[hs]at hs';cases hs';refine⟨E.sub,?_,λb hb=>E.off b (pm.mem_iff.mpr (by rw[aK]at hb;exact hb)),.cons q (Paired.set_r i E.sl λ_ _=>by simp only[a8])⟩;rw[aK];exact pm.nodup_iff.mp E.nd
theorem aA.out(E:aA K Pr H σ Z){i:Nat}{a:Addr}{xs:List D}(h:Z[i]?=some (.own a xs)):aA K Pr H (some (.ref a)::σ) (.own a xs::Z.set i .un):=by
 have pm:=CJ (l:=.un) h rfl;obtain⟨s,hs,q⟩:=Paired.get2 E.sl h;refine⟨E.sub,?_,λb hb=>E.off b (pm.mem_iff.mpr (by rw[a9]at hb;exact hb)),.cons ?_ (Paired.set_r i E.sl λ_ _=>by simp only[a8])⟩
 . rw[a9];exact pm.nodup_iff.mp E.nd
 . obtain⟨_,r⟩:=q;exact⟨rfl,r⟩
theorem aA.back{v:Option V}{l:L}(E:aA K Pr H (v::σ) (l::Z)){i:Nat}(h:Z[i]?=some .un)(hs:σ[i]?=some v):aA K Pr H σ (Z.set i l):=by
 have sl:=E.sl
 cases sl with
 | cons q t =>
  have e1:Z.set i l=(Z.set i l):=rfl;refine⟨E.sub,?_,λb hb=>?_,Paired.set_r i t λa e=>by rw[hs]at e;cases e;exact q⟩
  . exact(zU l h).nodup_iff.mpr E.nd
  . exact E.off b ((zU l h).mem_iff.mp hb)
theorem aA.write(E:aA K Pr H σ (.own a xs::Z)){vs:List V}{ys:List D}(r:bJ K H vs ys):aA K Pr (Qa H a (.lst vs)) σ (.own a ys::Z):=by
 have pa:Pr a=none:=E.off a (by rw[a9];exact UZ);have nd:=E.nd;rw[a9]at nd;obtain⟨hn,nd'⟩:=VC.mp nd;obtain⟨us,ha,mu⟩:=E.at_own (a:=a) (by rw[a9];exact UZ);have p:vQ H (Qa H a (.lst vs)):=λb u pu e=>by rw[ax];exact e;rintro rfl;rw[ha]at e;cases e;exact mu.no pu
 refine⟨λb u e=>?_,nd,λb hb=>E.off b hb,?_⟩
 . rw[ax];exact E.sub b u e;rintro rfl;rw[pa]at e;cases e
 .
  have sl:=E.sl
  cases sl with
  | cons q t =>
   obtain⟨e,_⟩:=q;refine .cons ⟨e,vs,aW,r.pres p⟩ (Paired.impMem t λl hl s z=>z.pres p l λb hbm=>?_);rw[ax];rintro rfl;exact hn (iO.mpr ⟨l,hl,hbm⟩)
end
noncomputable abbrev W(α:Type):=Ev->(α->Ev->Prop)->Prop
inductive Fl where
 |nx|bk|ct|rt (r:L)
def EL(X:Cx)(gV:List (Addr×Obj))(σ:St)(Pr:Hp)(so:L->Ev->Prop)(u:Value)(s':Shared):Prop :=
 ∃v H' r Z',Qi X gV σ H' s'/\cu v u/\aA X.K Pr H' (some v::σ) (r::Z')/\so r Z'
def PL(X:Cx)(e:Expr)(t:W L):Prop :=
 ∀(gV:List (Addr×Obj))(s:Shared)(σ:St)(H Pr:Hp)(Z:Ev)(so:L->Ev->Prop),Qi X gV σ H s->aA X.K Pr H σ Z->t Z so->wpAny (model X.prog X.w) X.A (eval e X.env) (EL X gV σ Pr so) X.xe s
def EB(X:Cx)(gV:List (Addr×Obj))(σ:St)(Pr:Hp)(so:Bool->Ev->Prop)(b:Bool)(s':Shared):Prop :=
 ∃H' Z',Qi X gV σ H' s'/\aA X.K Pr H' σ Z'/\so b Z'
def PB(X:Cx)(e:Expr)(t:W Bool):Prop :=
 ∀(gV:List (Addr×Obj))(s:Shared)(σ:St)(H Pr:Hp)(Z:Ev)(so:Bool->Ev->Prop),Qi X gV σ H s->aA X.K Pr H σ Z->t Z so->wpAny (model X.prog X.w) X.A (isTrue e X.env (eval e X.env)) (EB X gV σ Pr so) X.xe s
def EA(X:Cx)(gV:List (Addr×Obj))(σ:St)(Pr:Hp)(bs:List (Option Nat))(so:List L->Ev->Prop)(us:List Value)(s':Shared):Prop :=
 ∃vs H' ls Z',Qi X gV σ H' s'/\bT vs us/\vs.length=ls.length/\vs.length=bs.length/\aA X.K Pr H' (vs.map some++σ) (ls++Z')/\(∀(k i:Nat),bs[k]?=some (some i)->ls[k]?=some L.un/\∃v,vs[k]?=some v/\σ[i]?=some (some v))/\so ls Z'
def QV(X:Cx)(es:List Expr)(bs:List (Option Nat))(t:W (List L)):Prop :=
 ∀(pos:Pos)(gV:List (Addr×Obj))(s:Shared)(σ:St)(H Pr:Hp)(Z:Ev)(so:List L->Ev->Prop),Qi X gV σ H s->aA X.K Pr H σ Z->t Z so ->
  wpAny (model X.prog X.w) X.A (spliced (backTo pos (starEach es X.env))) (EA X gV σ Pr bs so) X.xe s
def SM(X:Cx)(gV:List (Addr×Obj))(Pr:Hp)(so:Fl->Ev->Prop)(f:Flow)(s':Shared):Prop :=
 match f with
 |.next=>∃σ' H' Z',Qi X gV σ' H' s'/\aA X.K Pr H' σ' Z'/\so .nx Z'
 |.brk=>∃σ' H' Z',Qi X gV σ' H' s'/\aA X.K Pr H' σ' Z'/\so .bk Z'
 |.cont=>∃σ' H' Z',Qi X gV σ' H' s'/\aA X.K Pr H' σ' Z'/\so .ct Z'
 |.ret u=>∃v σ' H' r Z' τ,Qi X gV σ' H' s'/\cu v u/\aA X.K Pr H' (some v::τ) (r::Z')/\so (.rt r) Z'
def PM(X:Cx)(st:Stmt)(t:W Fl):Prop :=
 ∀(gV:List (Addr×Obj))(s:Shared)(σ:St)(H Pr:Hp)(Z:Ev)(so:Fl->Ev->Prop),Qi X gV σ H s->aA X.K Pr H σ Z->t Z so->wpAny (model X.prog X.w) X.A (exec st X.env) (SM X gV Pr so) X.xe s
def QW(X:Cx)(st:List Stmt)(t:W Fl):Prop :=
 ∀(gV:List (Addr×Obj))(s:Shared)(σ:St)(H Pr:Hp)(Z:Ev)(so:Fl->Ev->Prop),Qi X gV σ H s->aA X.K Pr H σ Z->t Z so->wpAny (model X.prog X.w) X.A (execs st X.env) (SM X gV Pr so) X.xe s
section
variable{X:Cx}{e a b:Expr}{pos:Pos}{ta tb:W L}
theorem PL.of{t:TE}{u:W L}(h:PE X e t)(q:∀σ H Pr Z so,aA X.K Pr H σ Z->u Z so->t σ H λv H'=>∃r Z',aA X.K Pr H' (some v::σ) (r::Z')/\so r Z'):PL X e u :=
 λgV s σ H Pr Z so I E hu=>Qk (h gV s σ H _ I (q σ H Pr Z so E hu)) λu s1 ⟨v,H1,I1,r1,r,Z',E1,p⟩=>⟨v,H1,r,Z',I1,r1,E1,p⟩
mutual
noncomputable def bK:L->Option D
 |.un=>none
 |.d x=>some x
 |.own _ xs=>some (.lst xs)
 |.bx none ls=>(cx ls).map .tup
 |.bx (some _) ls=>(cx ls).map .lst
 |.dic _ _=>none
noncomputable def cx:List L->Option (List D)
 |[]=>some []
 | l::ls=>match bK l,cx ls with
  |some x,some xs=>some (x::xs)
  |_,_=>none
end
def d7:Option D->(D->Prop)->Prop
 |some x,k=>k x
 |none,_=>False
theorem Bm{o:Option D}{k:D->Prop}(h:d7 o k):∃x,o=some x/\k x:=by
 cases o with
 |some x=>exact⟨x,rfl,h⟩
 |none=>exact h.elim
def B9(a:Option Addr)(ls:List L)(k:D->Prop):Prop:=d7 (bK (.bx a ls)) k
def QX:L->(D->Prop)->Prop
 |.un,_=>False
 |.d x,k=>k x
 |.own _ xs,k=>k (.lst xs)
 |.bx a ls,k=>B9 a ls k
 |.dic _ _,_=>False
theorem yp{a:Option Addr}{ls:List L}{k:D->Prop}(h:B9 a ls k):∃x,bK (.bx a ls)=some x/\k x:=Bm h
def FG(ls:List L)(k:List D->Prop):Prop:=∃xs,cx ls=some xs/\k xs
theorem LF(ls:List L)(k:D->Prop):B9 none ls k=FG ls λxs=>k (.tup xs):=by
 unfold B9 FG;simp only[bK]
 cases cx ls with
 |none=>simp[d7]
 |some xs=>simp[d7]
theorem LG(a:Addr)(ls:List L)(k:D->Prop):B9 (some a) ls k=FG ls λxs=>k (.lst xs):=by
 unfold B9 FG;simp only[bK]
 cases cx ls with
 |none=>simp[d7]
 |some xs=>simp[d7]
theorem FH(k:List D->Prop):FG [] k=k []:=by unfold FG;simp[cx]
theorem IW(l:L)(k:D->Prop):QX l k=∃x,bK l=some x/\k x:=by
 cases l with
 |un=>simp[QX,bK]
 |d x=>simp[QX,bK]
 |own a xs=>simp[QX,bK]
 | bx a ls =>
  show d7 _ k=_
  cases bK (.bx a ls)with
  |none=>simp[d7]
  |some x=>simp[d7]
 |dic a kvs=>simp[QX,bK]
theorem CK(l:L)(ls:List L)(k:List D->Prop):FG (l::ls) k=QX l λx=>FG ls λxs=>k (x::xs):=by
 rw[IW];unfold FG;simp only[cx]
 cases bK l with
 |none=>simp
 | some x =>
  cases cx ls with
  |none=>simp
  |some xs=>simp
theorem dD{K:PySem.W.Frag}{H:Hp}:∀{vs:List V}{ls:List L},cb K H vs ls↔Paired (a8 K H) (vs.map some) ls
 |[],[]=>⟨λ_=>.nil,λ_=>by simp only[cb]⟩
 | v::vs,l::ls=>by
  simp only[cb,Vo];constructor
  . rintro⟨w,us,e,h1,h2⟩;cases e;exact .cons h1 (dD.mp h2)
  .
   intro h
   cases h with
   |cons q t=>exact⟨v,vs,rfl,q,dD.mpr t⟩
 | [],l::ls=>by
  simp only[cb,List.map_nil];constructor
  . rintro⟨w,us,e,_⟩;cases e
  . intro h;cases h
 | v::vs,[]=>by
  simp only[cb,Vo];constructor
  . intro h;cases h
  . intro h;cases h
theorem yq{K:PySem.W.Frag}{H:Hp}:∀{vs:List V}{xs:List D},Paired (a8 K H) (vs.map some) (xs.map .d)->bJ K H vs xs
 |[],[],_=>.nil
 | v::vs,x::xs,h=>by
  simp only[Vo]at h
  cases h with
  | cons q t =>
   simp only[a8]at q;obtain⟨w,e,r⟩:=q;cases e;exact .cons r (yq t)
 |[],_::_,h=>by simp only[Vo,List.map_nil]at h;cases h
 |_::_,[],h=>by simp only[Vo,List.map_nil]at h;cases h
theorem cb.len{K:PySem.W.Frag}{H:Hp}{vs:List V}{ls:List L}(h:cb K H vs ls):vs.length=ls.length:=by have:=Paired.length (dD.mp h);simpa using this
theorem iP:∀{ls:List L}{xs:List D},cx ls=some xs->xs.length=ls.length
 |[],_,h=>by simp[cx]at h;subst h;rfl
 | l::ls,xs,h=>by
  simp only[cx]at h;split at h
  . rename_i x ys h1 h2;cases h;simp[iP h2]
  . cases h
theorem aA.openT{K:PySem.W.Frag}{Pr H:Hp}{σ:St}{Z:Ev}{v:Option V}{ls:List L}(E:aA K Pr H (v::σ) (.bx none ls::Z)):∃a vs,v=some (.ref a)/\Qo K H a vs/\vs.length=ls.length/\aA K Pr H (vs.map some++σ) (ls++Z):=by
 have sl:=E.sl
 cases sl with
 | cons q t =>
  simp only[a8]at q;obtain⟨a,vs,e,h,r⟩:=q;have ow:owns (.bx none ls::Z)=owns (ls++Z):=by rw[aK,aF];simp only[bb,Option.toList,Wk,eV]
  exact⟨a,vs,e,h,r.len,E.sub,by rw[<- ow];exact E.nd,λb hb=>E.off b (by rw[ow];exact hb),Paired.app (dD.mp r) t⟩
theorem aA.openO{K:PySem.W.Frag}{Pr H:Hp}{σ:St}{Z:Ev}{v:Option V}{a:Addr}{ls:List L}(E:aA K Pr H (v::σ) (.bx (some a) ls::Z)):∃vs,v=some (.ref a)/\H a=some (.lst vs)/\vs.length=ls.length/\a∉owns (ls++Z)/\Pr a=none/\aA K Pr H (vs.map some++σ) (ls++Z):=by
 have sl:=E.sl
 cases sl with
 | cons q t =>
  simp only[a8]at q;obtain⟨e,vs,h,r⟩:=q;have ow:owns (.bx (some a) ls::Z)=a::owns (ls++Z):=by rw[aK,aF];simp only[bb,Option.toList,W8,Wk,eV]
  have nd:=E.nd;rw[ow]at nd;obtain⟨n1,n2⟩:=VC.mp nd;exact⟨vs,e,h,r.len,n1,E.off a (by rw[ow];exact UZ),E.sub,n2,λb hb=>E.off b (by rw[ow];exact UW _ hb),Paired.app (dD.mp r) t⟩
theorem CL(xs:List D):owns (xs.map .d)=[]:=by
 induction xs with
 |nil=>rfl
 |cons x xs ih=>rw[Vo,aK,ih];rfl
def pG(H H':Hp)(S:List Addr):Prop:=vQ H H'/\(∀b,b∉S->H' b=H b)/\∀a∈S,∀vs,H a=some (.lst vs)->∃o,H' a=some (.frz o (.lst vs))
theorem pG.refl(H:Hp):pG H H []:=⟨λ_ _ _ e=>e,λ_ _=>rfl,λ_ h=>by simp at h⟩
mutual
theorem LH:∀(l:L){gV:List (Addr×Obj)}{σ0:St}{s:Shared}{Pr H:Hp}{σ:St}{Z:Ev}{v:Option V}{x:D},Qi X gV σ0 H s->aA X.K Pr H (v::σ) (l::Z)->bK l=some x->∃H',Qi X gV σ0 H' s/\aA X.K Pr H' (v::σ) (.d x::Z)/\pG H H' (bb l)
 |.un,_,_,_,_,_,_,_,_,_,_,_,h=>by simp[bK]at h
 |.dic _ _,_,_,_,_,_,_,_,_,_,_,_,h=>by simp[bK]at h
 | .d y,_,_,_,_,_,_,_,_,_,I,E,h=>by
  simp only[bK,Vz]at h
  subst h
  exact⟨_,I,E,pG.refl _⟩
 | .own a xs,_,_,_,_,H,σ,Z,v,_,I,E,h=>by
  simp only[bK,Vz]at h
  subst h
  have sl:=E.sl
  cases sl with
  | cons q t =>
   simp only[a8]at q
   obtain⟨e0,vs,ha,r⟩:=q
   obtain⟨o,I'⟩:=I.freezeL ha
   refine⟨_,I',E.freeze ha o,λb u pu eb=>?_,λb hb=>?_,λb hb vs' eb=>?_⟩
   .
    rw[ax];exact eb
    rintro rfl
    rw[ha]at eb;cases eb;exact pu
   .
    rw[ax]
    rintro rfl
    exact hb (by simp[bb])
   .
    have e:b=a:=by simpa[bb]using hb
    subst e
    rw[ha]at eb;cases eb
    exact⟨o,aW⟩
 | .bx none ls,_,_,_,Pr,H,σ,Z,v,x,I,E,h=>by
  simp only[bK,Option.map_eq_some_iff]at h
  obtain⟨xs,h,rfl⟩:=h
  obtain⟨a,vs,rfl,ha,hl,E1⟩:=E.openT
  obtain⟨H',I',E',F⟩:=IX ls hl I E1 h
  have hxl:=iP h
  obtain⟨s1,s2⟩:=Paired.unapp (by simp[hl,hxl]) E'.sl
  refine⟨H',I',(E'.drop (by simp[hl,hxl])).cons_d (.tup (ha.pres F.1) (yq s1)),F.1,λb hb=>F.2.1 b ?_,λb hb=>F.2.2 b ?_⟩
  .
   simpa[bb,eV]using hb
  .
   simpa[bb,eV]using hb
 | .bx (some a) ls,_,_,_,Pr,H,σ,Z,v,x,I,E,h=>by
  simp only[bK,Option.map_eq_some_iff]at h
  obtain⟨xs,h,rfl⟩:=h
  obtain⟨vs,rfl,ha,hl,hn,hp,E1⟩:=E.openO
  obtain⟨H',I',E',F⟩:=IX ls hl I E1 h
  have hxl:=iP h
  have hal:a∉owns ls:=λz=>hn (by rw[aF];exact Vh _ z)
  have haρ:a∉owns Z:=λz=>hn (by rw[aF];exact Vi _ z)
  have ha':H' a=some (.lst vs):=(F.2.1 a hal).trans ha
  obtain⟨s1,s2⟩:=Paired.unapp (by simp[hl,hxl]) E'.sl
  have E2:=E'.drop (by simp[hl,hxl])
  have E3:aA X.K Pr H' (some (.ref a)::σ) (.own a xs::Z):=by
   refine⟨E2.sub,?_,λb hb=>?_,.cons ?_ E2.sl⟩
   .
    rw[a9];exact VC.mpr ⟨haρ,E2.nd⟩
   .
    rw[a9]at hb
    rcases Vc.mp hb with z|z
    .
     rw[z];exact hp
    .
     exact E2.off b z
   .
    unfold a8
    exact⟨rfl,vs,ha',yq s1⟩
  obtain⟨o,I2⟩:=I'.freezeL ha'
  refine⟨_,I2,E3.freeze ha' o,λb u pu e=>?_,λb hb=>?_,λb hb vs' eb=>?_⟩
  .
   rw[ax];exact F.1 b u pu e
   rintro rfl
   rw[ha]at e;cases e;exact pu
  .
   have hb':b≠a/\b∉owns ls:=by simpa[bb,eV,not_or]using hb
   rw[ax hb'.1]
   exact F.2.1 b hb'.2
  .
   by_cases hba:b=a
   .
    subst hba
    rw[ha]at eb;cases eb
    exact⟨o,aW⟩
   .
    have hb':b∈owns ls:=by
     rcases(by simpa[bb,eV]using hb:b=a∨b∈owns ls)with z|z
     .
      exact absurd z hba
     .
      exact z
    rw[ax hba]
    exact F.2.2 b hb' vs' eb
theorem IX:∀(ls:List L){gV:List (Addr×Obj)}{σ0:St}{s:Shared}{Pr H:Hp}{σ:St}{Z:Ev}{vs:List V}{xs:List D},vs.length=ls.length->Qi X gV σ0 H s->aA X.K Pr H (vs.map some++σ) (ls++Z)->cx ls=some xs->∃H',Qi X gV σ0 H' s/\aA X.K Pr H' (vs.map some++σ) (xs.map .d++Z)/\pG H H' (owns ls)
 | [],_,_,_,_,_,_,_,vs,xs,hl,I,E,h=>by
  simp only[cx,Vz]at h
  subst h
  cases vs with
  |nil=>exact⟨_,I,E,pG.refl _⟩
  |cons _ _=>simp at hl
 | l::ls,_,_,_,Pr,H,σ,Z,vs,xs,hl,I,E,h=>by
  simp only[cx]at h
  split at h
  rotate_left
  .
   cases h
  rename_i x ys h1 h2
  cases h
  cases vs with
  |nil=>simp at hl
  | cons v vs =>
   have hl':vs.length=ls.length:=by simpa using hl
   obtain⟨H1,I1,E1,F1⟩:=LH l I E h1
   have E2:aA X.K (bE H1 (ls++Z)) H1 (vs.map some++σ) (ls++Z):=(E1.drop (τ:=[some v]) (lam:=[.d x]) rfl).wide
   obtain⟨H2,I2,E3,F2⟩:=IX ls hl' I1 E2 h2
   have hyl:=iP h2
   have E4:aA X.K Pr H2 (some v::(vs.map some++σ)) (.d x::(ys.map .d++Z)):=by
    have z:=aA.step (τ:=[some v]) (lam:=[.d x]) (w:=[]) (μ:=[]) (σ':=vs.map some++σ) (Z':=ys.map .d++Z) E1 rfl E3 rfl
    exact z
   refine⟨H2,I2,E4,λb u pu e=>F2.1 b u pu (F1.1 b u pu e),λb hb=>?_,λb hb vs' eb=>?_⟩
   .
    rw[aK]at hb
    rw[F2.2.1 b (λz=>hb (Vi _ z)),F1.2.1 b (λz=>hb (Vh _ z))]
   .
    rw[aK]at hb
    rcases Vx.mp hb with z|z
    .
     obtain⟨o,eo⟩:=F1.2.2 b z vs' eb
     exact⟨o,F2.1 b _ True.intro eo⟩
    .
     have hn:b∉bb l:=λz'=>by
      have nd:=E.nd
      rw[W8,aK,aF]at nd
      exact(Vv.mp nd).2.2 b z' b (Vh _ z) rfl
     exact F2.2.2 b z vs' ((F1.2.1 b hn).trans eb)
end
theorem EL.frz{gV:List (Addr×Obj)}{σ:St}{Pr:Hp}{so:D->Ev->Prop}{u:Value}{s':Shared}(h:EL X gV σ Pr (λr Z=>QX r λx=>so x Z) u s') :
  ∃v H' x Z',Qi X gV σ H' s'/\cu v u/\aA X.K Pr H' (some v::σ) (.d x::Z')/\so x Z':=by
 obtain⟨v,H',r,Z',I,rv,E,p⟩:=h
 cases r with
 |un=>exact p.elim
 |d x=>exact⟨v,H',x,Z',I,rv,E,p⟩
 | own a xs =>
  obtain⟨H2,I2,E2,_⟩:=LH (.own a xs) I E rfl;exact⟨v,H2,.lst xs,Z',I2,rv,E2,p⟩
 | bx a ls =>
  obtain⟨x,ex,p⟩:=yp p;obtain⟨H2,I2,E2,_⟩:=LH (.bx a ls) I E ex;exact⟨v,H2,x,Z',I2,rv,E2,p⟩
 |dic a kvs=>exact p.elim
def bG(t:W L):W L:=λZ so=>t Z λr Z1=>QX r λx=>so (.d x) Z1
theorem ay{t:W L}(h:PL X e t):PL X e (bG t):=λgV s σ H Pr Z so I E ht =>
 Qk (h gV s σ H Pr Z _ I E ht) λu s1 q=>by obtain⟨v,H',x,Z',I',rv,E',p⟩:=EL.frz (so:=λx Z=>so (.d x) Z) q;exact⟨v,H',.d x,Z',I',rv,E',p⟩
theorem aA.head_d{K:PySem.W.Frag}{Pr H:Hp}{v:Option V}{σ:St}{x:D}{Z:Ev}(E:aA K Pr H (v::σ) (.d x::Z)):∃w,v=some w/\QU K H w x:=by
 have sl:=E.sl
 cases sl with
 |cons q t=>exact q
theorem aA.tail{K:PySem.W.Frag}{Pr H:Hp}{v:Option V}{σ:St}{l:L}{Z:Ev}(E:aA K Pr H (v::σ) (l::Z)):aA K Pr H σ Z:=aA.drop (τ:=[v]) (lam:=[l]) E rfl
theorem two{gV:List (Addr×Obj)}{s:Shared}{σ:St}{H Pr:Hp}{Z:Ev}{R:D->D->Ev->Prop}(ha:PL X a ta)(hb:PL X b tb)(I:Qi X gV σ H s)(E:aA X.K Pr H σ Z)
  (h:ta Z λx Z1=>QX x λdx=>tb Z1 λy Z2=>QX y λdy=>R dx dy Z2) {α:Type} {Q:α->Shared->Prop} {f:Value->Value->Sem α}
  (hf:∀v u s2 x y H2 dx dy Z2,Qi X gV σ H2 s2->cu x v->cu y u->aA X.K Pr H2 (some y::some x::σ) (.d dy::.d dx::Z2)->QU X.K H2 x dx->QU X.K H2 y dy->R dx dy Z2->wpAny (model X.prog X.w) X.A (f v u) Q X.xe s2) :
  wpAny (model X.prog X.w) X.A (eval a X.env) (λv s₁=>wpAny (model X.prog X.w) X.A (eval b X.env) (λu s₂=>wpAny (model X.prog X.w) X.A (f v u) Q X.xe s₂) X.xe s₁) X.xe s:=by
 refine Qk (ha gV s σ H Pr Z _ I E h) λv s1 q=>?_;obtain⟨x,H1,dx,Z1,I1,r1,E1,q1⟩:=EL.frz (so:=λdx Z1=>tb Z1 λy Z2=>QX y λdy=>R dx dy Z2) q;refine Qk (hb gV s1 σ H1 _ Z1 _ I1 E1.tail.wide q1) λu s2 q=>?_;obtain⟨y,H2,dy,Z2,I2,r2,E2,q2⟩:=EL.frz (so:=λdy Z2=>R dx dy Z2) q;have E3:aA X.K Pr H2 (some y::some x::σ) (.d dy::.d dx::Z2):=aA.step (τ:=[some x]) (lam:=[.d dx]) (w:=[some y]) (μ:=[.d dy]) E1 rfl E2 rfl;obtain⟨_,e1,p1⟩:=E3.head_d;obtain⟨_,e2,p2⟩:=E3.tail.head_d;cases e1;cases e2;exact hf v u s2 x y H2 dx dy Z2 I2 r1 r2 E3 p2 p1 q2
abbrev QY:=D->D->(L->Prop)->Prop
def QZ(X:Cx)(f:Value->Value->Sem Value)(op:QY):Prop :=
 ∀(gV:List (Addr×Obj))(s:Shared)(σ:St)(H Pr:Hp)(Z:Ev)(x y:V)(v u:Value)(dx dy:D)(so:L->Prop),Qi X gV σ H s->cu x v->cu y u->aA X.K Pr H σ Z->QU X.K H x dx->QU X.K H y dy->op dx dy so ->
  wpAny (model X.prog X.w) X.A (f v u) (λw s'=>∃z H' r,Qi X gV σ H' s'/\cu z w/\aA X.K Pr H' (some z::σ) (r::Z)/\so r) X.xe s
theorem QZ.of{f:Value->Value->Sem Value}{r:R2}{op:QY}(h:Qv X f r)(q:∀σ H Pr Z x y dx dy so,aA X.K Pr H σ Z->QU X.K H x dx->QU X.K H y dy->op dx dy so->r x y H λz H'=>∃r,aA X.K Pr H' (some z::σ) (r::Z)/\so r):QZ X f op :=
 λgV s σ H Pr Z x y v u dx dy so I rx ry E px py ho=>Qk (h gV s σ H x y v u _ I rx ry (q σ H Pr Z x y dx dy so E px py ho)) λw s' ⟨z,H',I',rz,r,E',p⟩=>⟨z,H',r,I',rz,E',p⟩
theorem QZ.imp{f:Value->Value->Sem Value}{o1 o2:QY}(h1:QZ X f o1)(h:∀x y p,o2 x y p->o1 x y p):QZ X f o2 :=
 λgV s σ H Pr Z x y v u dx dy so I rx ry E px py ho=>h1 gV s σ H Pr Z x y v u dx dy so I rx ry E px py (h _ _ _ ho)
def av(op:QY)(ta tb:W L):W L:=λZ so=>ta Z λx Z1=>QX x λdx=>tb Z1 λy Z2=>QX y λdy=>op dx dy λr=>so r Z2
theorem aG{op:Operator}{o:QY}(ho:QZ X (binaryOp op) o)(ha:PL X a ta)(hb:PL X b tb):PL X (.BinOp a op b pos) (av o ta tb):=λgV s σ H Pr Z so I E h =>
 wpAny_BinOp (two (R:=λdx dy Z2=>o dx dy λr=>so r Z2) ha hb I E h λv u s2 x y H2 dx dy Z2 I2 r1 r2 E2 p1 p2 q =>
  Qk (ho gV s2 σ H2 Pr Z2 x y v u dx dy _ I2 r1 r2 E2.tail.tail p1 p2 q) λw s3 ⟨z,H3,r,I3,rz,E3,p⟩=>⟨z,H3,r,Z2,I3,rz,E3,p⟩)
theorem fX{op:CmpOp}{o:QY}(ho:QZ X (compareOp op) o)(ha:PL X a ta)(hb:PL X b tb)(hm:behindInMarks op b=false):PL X (.Compare a [op] [b] pos) (av o ta tb):=λgV s σ H Pr Z so I E h =>
 wpAny_Compare1 (two (R:=λdx dy Z2=>o dx dy λr=>so r Z2) ha hb I E h λv u s2 x y H2 dx dy Z2 I2 r1 r2 E2 p1 p2 q =>
  Qk (ho gV s2 σ H2 Pr Z2 x y v u dx dy _ I2 r1 r2 E2.tail.tail p1 p2 q) λw s3 ⟨z,H3,r,I3,rz,E3,p⟩=>⟨z,H3,r,Z2,I3,rz,E3,p⟩) hm
def wC(x:D):W L:=λZ so=>so (.d x) Z
theorem ag {i j pos}:PL X (.Constant (.int i) j pos) (wC (.int i)):=PL.of Lf λσ H Pr Z so E h=>⟨_,_,E.cons_d (.int i),h⟩
theorem iQ {b j pos}:PL X (.Constant (.bool b) j pos) (wC (.bl b)):=PL.of NO λσ H Pr Z so E h=>⟨_,_,E.cons_d (.bl b),h⟩
theorem mW {j pos}:PL X (.Constant .none j pos) (wC .non):=PL.of Lg λσ H Pr Z so E h=>⟨_,_,E.cons_d .non,h⟩
theorem mX {x j pos}:PL X (.Constant (.str x) j pos) (wC (.str x)):=PL.of Hz λσ H Pr Z so E h=>⟨_,_,E.cons_d (.str x),h⟩
def LJ(o:Option L)(i:Nat)(Z:Ev)(so:L->Ev->Prop):Prop:=match o with
 |some (.d x)=>so (.d x) Z
 |some (.own _ xs)=>so (.d (.lst xs)) (Z.set i (.d (.lst xs)))
 |some (.bx a ls)=>B9 a ls λx=>so (.d x) (Z.set i (.d x))
 |_=>False
def aj(i:Nat):W L:=λZ so=>LJ Z[i]? i Z so
theorem LK(x:D)(i:Nat)(Z:Ev)(so:L->Ev->Prop):LJ (some (.d x)) i Z so=so (.d x) Z:=(rfl)
theorem FI(a:Addr)(xs:List D)(i:Nat)(Z:Ev)(so:L->Ev->Prop):LJ (some (.own a xs)) i Z so=so (.d (.lst xs)) (Z.set i (.d (.lst xs))):=(rfl)
theorem IY(a:Option Addr)(ls:List L)(i:Nat)(Z:Ev)(so:L->Ev->Prop):LJ (some (.bx a ls)) i Z so=B9 a ls λx=>so (.d x) (Z.set i (.d x)):=(rfl)
theorem aA.slot{K:PySem.W.Frag}{Pr H:Hp}{σ:St}{Z:Ev}{i:Nat}{l:L}(E:aA K Pr H σ Z)(h:Z[i]?=some l):∃s,σ[i]?=some s/\a8 K H s l:=Paired.get2 E.sl h
theorem ae(i:Nat){x:Str}{pos:Pos}(hN:X.N[i]?=some x:=by rfl)(hv:Qg X.env.scope x:=by first | exact Or.inl rfl | exact Or.inr (Or.inl rfl) | exact Or.inr (Or.inr rfl)) (hd:(x == ("__debug__" : Str))=false:=by decide)
  (hcd:(x == ("__classdict__" : Str))=false:=by decide):PL X (.Name x pos) (aj i):=by
 intro gV s σ H Pr Z so I E h;unfold aj LJ at h
 cases q:Z[i]? with
 |none=>rw[q]at h;exact h.elim
 | some l =>
  rw[q]at h;obtain⟨sv,hs,sl⟩:=E.slot q
  cases l with
  |un=>exact h.elim
  |dic a kvs=>exact h.elim
  | d y =>
   obtain⟨v,rfl,r⟩:=sl;exact Qk (gJ hN hv hd hcd gV s σ H (λw H'=>w=v/\H'=H) I ⟨v,hs,rfl,rfl⟩) λu s1 ⟨w,H1,I1,r1,e1,e2⟩=>by subst e1 e2;exact⟨w,H1,_,Z,I1,r1,E.cons_d r,h⟩
  | own a xs =>
   obtain⟨rfl,vs,ha,r⟩:=sl;refine Qk (gJ hN hv hd hcd gV s σ H (λw H'=>w=.ref a/\H'=H) I ⟨.ref a,hs,rfl,rfl⟩) λu s1 ⟨w,H1,I1,r1,e1,e2⟩=>?_;subst e1 e2;obtain⟨o,I2⟩:=I1.freezeL ha;have E2:=(E.out q).freeze ha o;have hi:i<Z.length:=(U1.mp q).1;have E3:=E2.back (i:=i) (by simp[hi]) hs;rw[WK]at E3;obtain⟨_,e,p⟩:=E2.head_d;cases e;exact⟨_,_,_,_,I2,r1,E3.cons_d p,h⟩
  | bx a ls =>
   obtain⟨y,ey,h⟩:=yp h
   have hv':∃b,sv=some (.ref b):=by
    cases a with
    |none=>simp only[a8]at sl;obtain⟨b,_,e,_⟩:=sl;exact⟨b,e⟩
    |some b=>simp only[a8]at sl;exact⟨b,sl.1⟩
   obtain⟨b,rfl⟩:=hv';refine Qk (gJ hN hv hd hcd gV s σ H (λw H'=>w=.ref b/\H'=H) I ⟨.ref b,hs,rfl,rfl⟩) λu s1 ⟨w,H1,I1,r1,e1,e2⟩=>?_;subst e1 e2;obtain⟨H2,I2,E2,_⟩:=LH (.bx a ls) I1 (E.outL q hs) ey;have hi:i<Z.length:=(U1.mp q).1;have E3:=E2.back (i:=i) (by simp[hi]) hs;rw[WK]at E3;obtain⟨_,e,p⟩:=E2.head_d;cases e;exact⟨_,_,_,_,I2,r1,E3.cons_d p,h⟩
def K3(o:Option L)(i:Nat)(Z:Ev)(so:L->Ev->Prop):Prop:=match o with
 |some (.d x)=>so (.d x) Z
 |some (.own a xs)=>so (.own a xs) (Z.set i .un)
 |some (.bx a ls)=>so (.bx a ls) (Z.set i .un)
 |_=>False
def mY(i:Nat):W L:=λZ so=>K3 Z[i]? i Z so
theorem LM(x:D)(i:Nat)(Z:Ev)(so:L->Ev->Prop):K3 (some (.d x)) i Z so=so (.d x) Z:=(rfl)
theorem FJ(a:Addr)(xs:List D)(i:Nat)(Z:Ev)(so:L->Ev->Prop):K3 (some (.own a xs)) i Z so=so (.own a xs) (Z.set i .un):=(rfl)
theorem I0(a:Option Addr)(ls:List L)(i:Nat)(Z:Ev)(so:L->Ev->Prop):K3 (some (.bx a ls)) i Z so=so (.bx a ls) (Z.set i .un):=(rfl)
theorem fY(i:Nat){x:Str}{pos:Pos}(hN:X.N[i]?=some x:=by rfl)(hv:Qg X.env.scope x:=by first | exact Or.inl rfl | exact Or.inr (Or.inl rfl) | exact Or.inr (Or.inr rfl)) (hd:(x == ("__debug__" : Str))=false:=by decide)
  (hcd:(x == ("__classdict__" : Str))=false:=by decide):PL X (.Name x pos) (mY i):=by
 intro gV s σ H Pr Z so I E h;unfold mY K3 at h
 cases q:Z[i]? with
 |none=>rw[q]at h;exact h.elim
 | some l =>
  rw[q]at h;obtain⟨sv,hs,sl⟩:=E.slot q
  cases l with
  |un=>exact h.elim
  |dic a kvs=>exact h.elim
  | d y =>
   obtain⟨v,rfl,r⟩:=sl;exact Qk (gJ hN hv hd hcd gV s σ H (λw H'=>w=v/\H'=H) I ⟨v,hs,rfl,rfl⟩) λu s1 ⟨w,H1,I1,r1,e1,e2⟩=>by subst e1 e2;exact⟨w,H1,_,Z,I1,r1,E.cons_d r,h⟩
  | own a xs =>
   obtain⟨rfl,vs,ha,r⟩:=sl;refine Qk (gJ hN hv hd hcd gV s σ H (λw H'=>w=.ref a/\H'=H) I ⟨.ref a,hs,rfl,rfl⟩) λu s1 ⟨w,H1,I1,r1,e1,e2⟩=>?_;subst e1 e2;exact⟨_,_,_,_,I1,r1,E.out q,h⟩
  | bx a ls =>
   have hv':∃b,sv=some (.ref b):=by
    cases a with
    |none=>simp only[a8]at sl;obtain⟨b,_,e,_⟩:=sl;exact⟨b,e⟩
    |some b=>simp only[a8]at sl;exact⟨b,sl.1⟩
   obtain⟨b,rfl⟩:=hv';refine Qk (gJ hN hv hd hcd gV s σ H (λw H'=>w=.ref b/\H'=H) I ⟨.ref b,hs,rfl,rfl⟩) λu s1 ⟨w,H1,I1,r1,e1,e2⟩=>?_;subst e1 e2;exact⟨_,_,_,_,I1,r1,E.outL q hs,h⟩
theorem Ja{x:Str}{v:V}{u:Value}{y:D}{pos:Pos}(hg:Gl X x)(hm:X.mg x=some u)(r:cu v u)(hy:∀ H,QU X.K H v y) (hd:(x == ("__debug__" : Str))=false:=by decide):PL X (.Name x pos) (wC y) :=
 PL.of (Ir hg hm r hd) λσ H Pr Z so E h=>⟨_,_,E.cons_d (hy H),h⟩
def Bn:L->(Bool->Prop)->Prop
 |.d (.bl b),k=>k b
 |_,_=>False
def aO(t:W L):W Bool:=λZ so=>t Z λr Z1=>Bn r λb=>so b Z1
theorem uE{r:L}{k:Bool->Prop}(h:Bn r k):∃b,r=.d (.bl b)/\k b:=by
 cases r with
 | d x=>cases x with
  |bl b=>exact⟨b,rfl,h⟩
  |_=>exact h.elim
 |_=>exact h.elim
theorem bP{t:W L}(h:PL X e t)(he:∀whole,isTrue e X.env whole=(do let v <- whole;standAt e.pos;holding [v] (truthy v)):=by intro _;rfl):PB X e (aO t):=by intro gV s σ H Pr Z so I E ht;rw[he];refine UX (Qk (h gV s σ H Pr Z _ I E ht) λu s1 ⟨v,H1,r,Z1,I1,rv,E1,p⟩=>UX (W2 (Wi ?_)));obtain⟨b,rfl,p⟩:=uE p;obtain⟨_,e1,p1⟩:=E1.head_d;cases e1;cases p1;cases rv;exact V9 ⟨H1,Z1,I1,E1.tail,p⟩
end
section
variable{X:Cx}{e a b c:Expr}{rest:List Expr}{pos:Pos}{ta tb:W L}{tA tB:W Bool}
def Q0(X:Cx)(e:Expr)(t:W Bool):Prop :=
 ∀(whole:Sem Value)(gV:List (Addr×Obj))(s:Shared)(σ:St)(H Pr:Hp)(Z:Ev)(so:Bool->Ev->Prop),Qi X gV σ H s->aA X.K Pr H σ Z->t Z so->wpAny (model X.prog X.w) X.A (isTrue e X.env whole) (EB X gV σ Pr so) X.xe s
theorem Q0.pb{t:W Bool}(h:Q0 X e t):PB X e t:=h _
def HI(t u:W Bool):W Bool:=λZ so=>t Z λc Z1=>if c=true then u Z1 so else so false Z1
def Q1(t u:W Bool):W Bool:=λZ so=>t Z λc Z1=>if c=true then so true Z1 else u Z1 so
def uF(t:W Bool):W Bool:=λZ so=>t Z λc Z1=>so (!c) Z1
theorem mZ(ha:PB X a tA):Q0 X (.BoolOp .And [a] pos) tA:=by
 intro wh gV s σ H Pr Z so I E h;refine isTrue_and (Qk (ha gV s σ H Pr Z so I E h) λc s1 e=>?_)
 cases c with
 |true=>exact isTrue_and_nil e
 |false=>exact e
theorem iR(ha:PB X a tA):Q0 X (.BoolOp .Or [a] pos) tA:=by
 intro wh gV s σ H Pr Z so I E h;refine isTrue_or (Qk (ha gV s σ H Pr Z so I E h) λc s1 e=>?_)
 cases c with
 |false=>exact isTrue_or_nil e
 |true=>exact e
theorem oo(ha:PB X a tA)(hb:Q0 X (.BoolOp .And (b::rest) pos) tB):Q0 X (.BoolOp .And (a::b::rest) pos) (HI tA tB):=by
 intro wh gV s σ H Pr Z so I E h;refine isTrue_and (Qk (ha gV s σ H Pr Z _ I E h) λc s1 ⟨H1,Z1,I1,E1,q1⟩=>?_)
 cases c with
 |true=>exact hb wh gV s1 σ H1 Pr Z1 so I1 E1 q1
 |false=>exact⟨H1,Z1,I1,E1,q1⟩
theorem jU(ha:PB X a tA)(hb:Q0 X (.BoolOp .Or (b::rest) pos) tB):Q0 X (.BoolOp .Or (a::b::rest) pos) (Q1 tA tB):=by
 intro wh gV s σ H Pr Z so I E h;refine isTrue_or (Qk (ha gV s σ H Pr Z _ I E h) λc s1 ⟨H1,Z1,I1,E1,q1⟩=>?_)
 cases c with
 |true=>exact⟨H1,Z1,I1,E1,q1⟩
 |false=>exact hb wh gV s1 σ H1 Pr Z1 so I1 E1 q1
theorem fZ(ha:PB X a tA):PB X (.UnaryOp .Not a pos) (uF tA):=by intro gV s σ H Pr Z so I E h;exact isTrue_not (ha gV s σ H Pr Z (λc Z1=>so (!c) Z1) I E h)
theorem Q2{op:CmpOp}{o:QY}(ho:QZ X (compareOp op) o)(ha:PL X a ta)(hb:PL X b tb)(hm:behindInMarks op b=false):PB X (.Compare a [op] [b] pos) (aO (av o ta tb)):=by intro gV s σ H Pr Z so I E h;refine wpAny_isTrue_Compare1 (two (R:=λdx dy Z2=>o dx dy λr=>Bn r λb=>so b Z2) ha hb I E h λv u s2 x y H2 dx dy Z2 I2 r1 r2 E2 p1 p2 q=>?_) hm;refine Qk (ho gV s2 σ H2 Pr Z2 x y v u dx dy _ I2 r1 r2 E2.tail.tail p1 p2 q) λw s3 ⟨z,H3,r,I3,rz,E3,p⟩=>?_;obtain⟨b,rfl,p⟩:=uE p;obtain⟨_,e1,p1⟩:=E3.head_d;cases e1;cases p1;cases rz;exact V9 ⟨H3,Z2,I3,E3.tail,p⟩
def m4(ta tb:W L):W L:=λZ so=>ta Z λr Z1=>Bn r λc=>if c=true then tb Z1 so else so (.d (.bl false)) Z1
def N4(ta tb:W L):W L:=λZ so=>ta Z λr Z1=>Bn r λc=>if c=true then so (.d (.bl true)) Z1 else tb Z1 so
def CM(t:W Bool):W L:=λZ so=>t Z λc Z1=>so (.d (.bl (!c))) Z1
theorem m5 {op} {t:W L} (h:PL X a t):PL X (.BoolOp op [a] pos) t:=λgV s σ H Pr Z so I E hw=>BoolOp_one (h gV s σ H Pr Z so I E hw)
theorem EL.bl{gV:List (Addr×Obj)}{σ:St}{Pr:Hp}{so:Bool->Ev->Prop}{u:Value}{s':Shared}(h:EL X gV σ Pr (λr Z=>Bn r λb=>so b Z) u s') :
  ∃H' b Z',u=.bool b/\Qi X gV σ H' s'/\aA X.K Pr H' σ Z'/\so b Z':=by
 obtain⟨v,H',r,Z',I,rv,E,p⟩:=h;obtain⟨b,rfl,p⟩:=uE p;obtain⟨_,e1,p1⟩:=E.head_d;cases e1;cases p1;cases rv;exact⟨H',b,Z',rfl,I,E.tail,p⟩
theorem jx(ha:PL X a ta)(hb:PL X (.BoolOp .And (b::rest) pos) tb):PL X (.BoolOp .And (a::b::rest) pos) (m4 ta tb):=by
 intro gV s σ H Pr Z so I E h;refine BoolOp_and (Qk (ha gV s σ H Pr Z _ I E h) λv s1 q=>?_)
 obtain⟨H1,c,Z1,rfl,I1,E1,q1⟩:=EL.bl (so:=λc Z1=>if c=true then tb Z1 so else so (.d (.bl false)) Z1) q
 refine V9 ?_
 cases c with
 |true=>exact hb gV s1 σ H1 Pr Z1 so I1 E1 q1
 |false=>exact⟨.bl false,H1,_,Z1,I1,rfl,E1.cons_d (.bl false),q1⟩
theorem N5(ha:PL X a ta)(hb:PL X (.BoolOp .Or (b::rest) pos) tb):PL X (.BoolOp .Or (a::b::rest) pos) (N4 ta tb):=by
 intro gV s σ H Pr Z so I E h;refine BoolOp_or (Qk (ha gV s σ H Pr Z _ I E h) λv s1 q=>?_)
 obtain⟨H1,c,Z1,rfl,I1,E1,q1⟩:=EL.bl (so:=λc Z1=>if c=true then so (.d (.bl true)) Z1 else tb Z1 so) q
 refine V9 ?_
 cases c with
 |false=>exact hb gV s1 σ H1 Pr Z1 so I1 E1 q1
 |true=>exact⟨.bl true,H1,_,Z1,I1,rfl,E1.cons_d (.bl true),q1⟩
theorem CN(ha:PL X a ta):PL X (.UnaryOp .Not a pos) (CM (aO ta)):=by intro gV s σ H Pr Z so I E h;refine UnaryOp_ (Qk (ha gV s σ H Pr Z _ I E h) λv s1 q=>?_);obtain⟨H1,c,Z1,rfl,I1,E1,q1⟩:=EL.bl (so:=λc Z1=>so (.d (.bl (!c))) Z1) q;exact not_of (V9 ⟨.bl (!c),H1,_,Z1,I1,rfl,E1.cons_d (.bl _),q1⟩)
def Ca(t:W Bool)(ta tb:W L):W L:=λZ so=>t Z λc Z1=>if c=true then ta Z1 so else tb Z1 so
theorem lF(hc:PB X c tA)(ha:PL X a ta)(hb:PL X b tb):PL X (.IfExp c a b pos) (Ca tA ta tb):=by
 intro gV s σ H Pr Z so I E h;refine wpAny_IfExp (Qk (hc gV s σ H Pr Z _ I E h) λd s1 ⟨H1,Z1,I1,E1,q1⟩=>?_)
 cases d with
 |true=>exact ha gV s1 σ H1 Pr Z1 so I1 E1 q1
 |false=>exact hb gV s1 σ H1 Pr Z1 so I1 E1 q1
def Q3(op:D->(L->Prop)->Prop)(t:W L):W L:=λZ so=>t Z λx Z1=>QX x λdx=>op dx λr=>so r Z1
def CO:D->(L->Prop)->Prop
 |.int i,k=>k (.d (.int (-i)))
 |_,_=>False
theorem HJ(ha:PL X a ta):PL X (.UnaryOp .USub a pos) (Q3 CO ta):=by
 intro gV s σ H Pr Z so I E h;refine UnaryOp_ (Qk (ha gV s σ H Pr Z _ I E h) λv s1 q=>?_);obtain⟨x,H1,dx,Z1,I1,r1,E1,q1⟩:=EL.frz (so:=λdx Z1=>CO dx λr=>so r Z1) q;obtain⟨_,e1,p1⟩:=E1.head_d;cases e1
 cases p1 with
 | int i =>
  exact Qk (Lp gV s1 σ H1 _ v (λw H'=>w=.int (-i)/\H'=H1) I1 r1 ⟨i,rfl,rfl,rfl⟩) λu s2 ⟨w,H2,I2,r2,e1,e2⟩=>by subst e1 e2;exact⟨_,_,_,Z1,I2,r2,E1.tail.cons_d (.int _),q1⟩
 |_=>exact q1.elim
variable{st:Stmt}{sts:List Stmt}{t u:W Fl}
def cw:W Fl:=λZ so=>so .nx Z
def aV(t u:W Fl):W Fl:=λZ so=>t Z λf Z1=>match f with
 |.nx=>u Z1 so
 |f=>so f Z1
theorem aY:QW X [] cw:=λ_ _ σ H Pr Z so I E h=>WV ⟨σ,H,Z,I,E,h⟩
theorem ah(h1:PM X st t)(h2:QW X sts u):QW X (st::sts) (aV t u):=by
 intro gV s σ H Pr Z so I E h;refine wpAny_execs_cons (Qk (h1 gV s σ H Pr Z _ I E h) λf s1 q=>?_)
 cases f with
 | next =>
  obtain⟨σ',H',Z',I',E',q⟩:=q;exact h2 gV s1 σ' H' Pr Z' so I' E' q
 |ret v=>exact q
 |brk=>exact q
 |cont=>exact q
theorem ao(h1:PM X st t):QW X [st] t:=by
 intro gV s σ H Pr Z so I E h;refine wpAny_execs_cons (Qk (h1 gV s σ H Pr Z _ I E h) λf s1 q=>?_)
 cases f with
 |next=>exact WV q
 |ret v=>exact q
 |brk=>exact q
 |cont=>exact q
def wq(t:W L):W Fl:=λZ so=>t Z λ_ Z1=>so .nx Z1
theorem ou{te:W L}(he:PL X e te)(hs:swapsWith e none pos.line X.env=pure false:=by rfl):PM X (.Expr e pos) (wq te):=by intro gV s σ H Pr Z so I E h;exact wpAny_Expr_any (Qk (he gV s σ H Pr Z _ I E h) λv s1 ⟨x,H1,r,Z1,I1,r1,E1,q1⟩=>⟨σ,H1,Z1,I1,E1.tail,q1⟩) I.quiet hs
def bO(t:W L):W Fl:=λZ so=>t Z λr Z1=>so (.rt r) Z1
theorem aC{te:W L}(he:PL X e te):PM X (.Return (some e) pos) (bO te):=by intro gV s σ H Pr Z so I E h;exact wpAny_Return_some (Qk (he gV s σ H Pr Z _ I E h) λv s1 ⟨x,H1,r,Z1,I1,r1,E1,q1⟩=>⟨x,σ,H1,r,Z1,σ,I1,r1,E1,q1⟩)
def Q4(c:W Bool)(t u:W Fl):W Fl:=λZ so=>c Z λb Z1=>if b=true then t Z1 so else u Z1 so
theorem cS{sa sb:List Stmt}(hc:PB X c tA)(ha:QW X sa t)(hb:QW X sb u):PM X (.If c sa sb pos) (Q4 tA t u):=by
 intro gV s σ H Pr Z so I E h;refine wpAny_If (Qk (hc gV s σ H Pr Z _ I E h) λd s1 ⟨H1,Z1,I1,E1,q1⟩=>?_)
 cases d with
 |true=>exact ha gV s1 σ H1 Pr Z1 so I1 E1 q1
 |false=>exact hb gV s1 σ H1 Pr Z1 so I1 E1 q1
theorem aA.forget{K:PySem.W.Frag}{Pr H:Hp}{σ:St}{Z:Ev}(E:aA K Pr H σ Z)(i:Nat)(v:Option V):aA K Pr H (σ.set i v) (Z.set i .un):=by
 have hsub:(owns (Z.set i .un)).Sublist (owns Z):=by
  have:∀(Z:Ev)(i:Nat),(owns (Z.set i .un)).Sublist (owns Z):=by
   intro Z
   induction Z with
   |nil=>intro i;exact W0 _
   | cons l Z ih =>
    intro i
    cases i with
    | zero =>
     show(owns Z).Sublist (owns (l::Z));rw[aK];exact We _ _
    | succ i =>
     show(owns (l::Z.set i .un)).Sublist (owns (l::Z));rw[aK,aK];exact(W0 _).append (ih i)
  exact this Z i
 exact⟨E.sub,E.nd.sublist hsub,λa h=>E.off a (hsub.subset h),Paired.set2 True.intro i E.sl⟩
theorem aA.store{K:PySem.W.Frag}{Pr H:Hp}{σ:St}{Z:Ev}{v:Option V}{l:L}(E:aA K Pr H (v::σ) (l::Z)){i:Nat}(hi:i<σ.length):aA K Pr H (σ.set i v) (Z.set i l):=by have E1:=E.forget (i+1) v;have E2:aA K Pr H (v::σ.set i v) (l::Z.set i .un):=E1;have hl:=E.tail.len;have E3:=E2.back (i:=i) (by rw[VA xL]) (by rw[VA hi]);rw[WK]at E3;exact E3
def bL(i:Nat)(t:W L):W Fl:=λZ so=>t Z λr Z1=>so .nx (Z1.set i r)
theorem aE{i:Nat}{x:Str}{te:W L}{pos':Pos}(hN:X.N.Nodup)(hi:X.N[i]?=some x)(hx:Qh X.env.scope x)(he:PL X e te)(hs:swapsWith e (some (.Name x pos')) pos.line X.env=pure false:=by rfl)(hf:X.fn x=true∨X.env.scope.names.lookup x=some .local:=by first|exact .inl rfl|exact .inr rfl|assumption) :
  PM X (.Assign [.Name x pos'] e pos) (bL i te):=by
 intro gV s σ H Pr Z so I E h;refine wpAny_Assign_Name (Qk (he gV s σ H Pr Z _ I E h) λv s1 ⟨y,H1,r,Z1,I1,r1,E1,q1⟩=>?_) hs;exact mT I1 hN hi hx r1 (λs2 I2=>⟨_,H1,_,I2,E1.store (by rw[I1.len];exact(U1.mp hi).1),q1⟩) hf
end
theorem m6{a b:Ev}(h:a.Perm b):(owns a).Perm (owns b):=by
 induction h with
 |nil=>exact .refl _
 |cons x _ ih=>rw[aK,aK];exact ih.append_left _
 | swap x y l =>
  rw[aK,aK,aK,aK,<- VT,<- VT];exact List.Perm.append_right _ VW
 |trans _ _ h1 h2=>exact h1.trans h2
theorem FK{a b:Ev}(h:a.Sublist b):(owns a).Sublist (owns b):=by
 induction h with
 |slnil=>exact .refl _
 |cons x _ ih=>rw[aK];exact ih.trans (We _ _)
 |cons_cons x _ ih=>rw[aK,aK];exact(W0 _).append ih
def tL(K:PySem.W.Frag)(t:W L):TE:=λσ H Q=>∃Pr Z so,aA K Pr H σ Z/\t Z so/\∀v H' r Z',aA K Pr H' (some v::σ) (r::Z')->so r Z'->Q v H'
def tW(K:PySem.W.Frag)(t:W Fl):TS:=λD σ H=>∃Pr Z so,aA K Pr H σ Z/\t Z so/\(∀σ' H' Z',aA K Pr H' σ' Z'->so .nx Z'->D.nx σ' H')/\(∀σ' H' Z',aA K Pr H' σ' Z'->so .bk Z'->D.bk σ' H')/\(∀σ' H' Z',aA K Pr H' σ' Z'->so .ct Z'->D.ct σ' H') /\
 ∀v τ H' r Z',aA K Pr H' (some v::τ) (r::Z')->so (.rt r) Z'->D.rt v H'
noncomputable def Q5(K:PySem.W.Frag)(t:W Bool):TT:=λσ H Q=>∃Pr Z so,aA K Pr H σ Z/\t Z so/\∀b H' Z',aA K Pr H' σ Z'->so b Z'->Q b H'
section
variable{X:Cx}{e a b:Expr}{es:List Expr}{pos:Pos}{st:Stmt}{sts:List Stmt}{t u:W Fl}
theorem PL.pe{t:W L}(h:PL X e t):PE X e (tL X.K t):=λgV s σ H Q I ⟨Pr,Z,so,E,ht,q⟩ =>
 Qk (h gV s σ H Pr Z so I E ht) λu s1 ⟨v,H1,r,Z1,I1,rv,E1,p⟩=>⟨v,H1,I1,rv,q v H1 r Z1 E1 p⟩
theorem PB.pt{t:W Bool}(h:PB X e t):PT X e (Q5 X.K t):=λgV s σ H Q I ⟨Pr,Z,so,E,ht,q⟩ =>
 Qk (h gV s σ H Pr Z so I E ht) λb s1 ⟨H1,Z1,I1,E1,p⟩=>⟨H1,I1,q b H1 Z1 E1 p⟩
theorem QW.pss(h:QW X sts t):Qj X sts (tW X.K t):=λgV s σ H D I ⟨Pr,Z,so,E,ht,q1,q2,q3,q4⟩ =>
 Qk (h gV s σ H Pr Z so I E ht) λf s1 q=>by
  cases f with
  |next=>obtain⟨σ',H',Z',I',E',p⟩:=q;exact⟨σ',H',I',q1 σ' H' Z' E' p⟩
  |brk=>obtain⟨σ',H',Z',I',E',p⟩:=q;exact⟨σ',H',I',q2 σ' H' Z' E' p⟩
  |cont=>obtain⟨σ',H',Z',I',E',p⟩:=q;exact⟨σ',H',I',q3 σ' H' Z' E' p⟩
  |ret u=>obtain⟨v,σ',H',r,Z',τ,I',rv,E',p⟩:=q;exact⟨v,σ',H',I',rv,q4 v τ H' r Z' E' p⟩
noncomputable def LN(K:PySem.W.Frag)(Pr:Hp)(so:Fl->Ev->Prop):K2 where
 nx:=λσ' H'=>∃Z',aA K Pr H' σ' Z'/\so .nx Z'
 rt:=λv H'=>∃τ r Z',aA K Pr H' (some v::τ) (r::Z')/\so (.rt r) Z'
 bk:=λσ' H'=>∃Z',aA K Pr H' σ' Z'/\so .bk Z'
 ct:=λσ' H'=>∃Z',aA K Pr H' σ' Z'/\so .ct Z'
theorem PM.of{ts:TS}(h:PS X st ts)(q:∀σ H Pr Z so,σ.length=X.N.length->aA X.K Pr H σ Z->t Z so->ts (LN X.K Pr so) σ H):PM X st t:=λgV s σ H Pr Z so I E ht =>
 Qk (h gV s σ H _ I (q σ H Pr Z so I.len E ht)) λf s1 q=>by
  cases f with
  |next=>obtain⟨σ',H',I',Z',E',p⟩:=q;exact⟨σ',H',Z',I',E',p⟩
  |brk=>obtain⟨σ',H',I',Z',E',p⟩:=q;exact⟨σ',H',Z',I',E',p⟩
  |cont=>obtain⟨σ',H',I',Z',E',p⟩:=q;exact⟨σ',H',Z',I',E',p⟩
  |ret u=>obtain⟨v,σ',H',I',rv,τ,r,Z',E',p⟩:=q;exact⟨v,σ',H',r,Z',τ,I',rv,E',p⟩
theorem aA.narrow{K:PySem.W.Frag}{Pr H1 H:Hp}{σ1 σ:St}{Z1 Z:Ev}(E1:aA K Pr H1 σ1 Z1)(E:aA K (bE H1 Z1) H σ Z):aA K Pr H σ Z:=by
 refine⟨λb o e=>E.sub b o ?_,E.nd,λa ha=>?_,E.sl⟩
 . unfold bE;rw[if_neg,E1.sub b o e];intro hm;have z:=E1.off b hm;rw[e]at z;cases z
 .
  have z:=E.off a ha;unfold bE at z;by_cases hm:a∈owns Z1
  . exact E1.off a hm
  .
   rw[if_neg hm]at z
   cases q:Pr a with
   |none=>rfl
   |some o=>rw[E1.sub a o q]at z;cases z
def aI:W (List L):=λZ so=>so [] Z
def ar(t:W L)(r:W (List L)):W (List L):=λZ so=>t Z λx Z1=>r Z1 λxs Z2=>so (x::xs) Z2
def wu(i:Nat)(r:W (List L)):W (List L):=λZ so=>match Z[i]? with
 |some (.own _ _)=>r Z λxs Z2=>so (.un::xs) Z2
 |_=>False
theorem af:QV X [] [] aI:=λ_ gV s σ H Pr Z so I E h=>Calls.spliced_nil ⟨[],H,[],Z,I,.nil,rfl,rfl,E,λk i e=>by simp at e,h⟩
theorem aa{bs:List (Option Nat)}{r:W (List L)}{t:W L}(ha:PL X e t)(hr:QV X es bs r)(hs:starEach (e::es) X.env=(false,eval e X.env)::starEach es X.env:=by rfl):QV X (e::es) (none::bs) (ar t r):=by
 intro pos gV s σ H Pr Z so I E h;rw[hs];show wpAny _ _ (spliced ((false,eval e X.env)::backTo pos (starEach es X.env))) _ _ s;refine Calls.spliced_cons (Qk (ha gV s σ H Pr Z _ I E h) λu s1 ⟨x,H1,l,Z1,I1,r1,E1,q1⟩=>?_);refine Qk (hr pos gV s1 σ H1 _ Z1 _ I1 E1.tail.wide q1) λus s2 ⟨vs,H2,ls,Z2,I2,r2,hl,hb,E2,hv,q2⟩=>?_;have E3:aA X.K Pr H2 (vs.map some++(some x::σ)) (ls++(l::Z2)):=aA.step (τ:=[some x]) (lam:=[l]) E1 rfl E2 (by simp[hl])
 have E4:aA X.K Pr H2 (some x::(vs.map some++σ)) (l::(ls++Z2)):=by
  have pm:(owns (ls++(l::Z2))).Perm (owns (l::(ls++Z2))):=m6 List.perm_middle;have s1:=Paired.unapp (by simp[hl]) E3.sl;obtain⟨s1,s2⟩:=s1
  cases s2 with
  |cons q t=>exact⟨E3.sub,pm.nodup_iff.mp E3.nd,λa h=>E3.off a (pm.mem_iff.mpr h),.cons q (Paired.app s1 t)⟩
 refine⟨x::vs,H2,l::ls,Z2,I2,.cons r1 r2,by simp[hl],by simp[hb],E4,λk i e=>?_,q2⟩
 cases k with
 |zero=>simp at e
 |succ k=>simpa using hv k i (by simpa using e)
theorem dF(i:Nat){x:Str}{p:Pos}{bs:List (Option Nat)}{r:W (List L)}(hr:QV X es bs r)(hN:X.N[i]?=some x:=by rfl)(hv:Qg X.env.scope x:=by first | exact Or.inl rfl | exact Or.inr (Or.inl rfl) | exact Or.inr (Or.inr rfl)) (hd:(x == ("__debug__" : Str))=false:=by decide)
  (hcd:(x == ("__classdict__" : Str))=false:=by decide) (hs:starEach (.Name x p::es) X.env=(false,eval (.Name x p) X.env)::starEach es X.env:=by rfl):QV X (.Name x p::es) (some i::bs) (wu i r):=by
 intro pos gV s σ H Pr Z so I E h;unfold wu at h
 cases q:Z[i]? with
 |none=>rw[q]at h;exact h.elim
 | some l =>
  rw[q]at h
  cases l with
  |un=>exact h.elim
  |d y=>exact h.elim
  |bx _ _=>exact h.elim
  |dic _ _=>exact h.elim
  | own a xs =>
   obtain⟨sv,hsl,sl⟩:=E.slot q;obtain⟨rfl,_⟩:=sl;rw[hs];show wpAny _ _ (spliced ((false,eval (.Name x p) X.env)::backTo pos (starEach es X.env))) _ _ s;refine Calls.spliced_cons (Qk (gJ hN hv hd hcd gV s σ H (λw H'=>w=.ref a/\H'=H) I ⟨.ref a,hsl,rfl,rfl⟩) λu s1 ⟨w,H1,I1,r1,e1,e2⟩=>?_);subst e1 e2;refine Qk (hr pos gV s1 σ H1 Pr Z _ I1 E h) λus s2 ⟨vs,H2,ls,Z2,I2,r2,hl,hb,E2,hv,q2⟩=>?_;refine⟨.ref a::vs,H2,.un::ls,Z2,I2,.cons r1 r2,by simp[hl],by simp[hb],E2.cons_un,λk j e=>?_,q2⟩
   cases k with
   |zero=>simp at e;subst e;exact⟨rfl,.ref a,rfl,hsl⟩
   |succ k=>simpa using hv k j (by simpa using e)
def FL:List L->(List D->Prop)->Prop
 |[],k=>k []
 |.d x::r,k=>FL r λxs=>k (x::xs)
 |_::_,_=>False
theorem jV:∀{ls:List L}{k:List D->Prop},FL ls k->∃xs,ls=xs.map .d/\k xs
 |[],_,h=>⟨[],rfl,h⟩
 | .d x::r,k,h=>by obtain⟨xs,e,q⟩:=jV (ls:=r) h;exact⟨x::xs,by rw[e];rfl,q⟩
 |.un::_,_,h=>h.elim
 |.own _ _::_,_,h=>h.elim
theorem jW{K:PySem.W.Frag}{Pr H:Hp}{σ:St}{Z:Ev}:∀{vs:List V}{xs:List D},vs.length=xs.length->aA K Pr H (vs.map some++σ) (xs.map .d++Z)->bJ K H vs xs
 |[],[],_,_=>.nil
 | v::vs,x::xs,hl,E=>by obtain⟨w,e,r⟩:=aA.head_d (v:=some v) (x:=x) E;cases e;exact .cons r (jW (by simpa using hl) (aA.tail (v:=some v) (l:=.d x) E))
 |[],_::_,hl,_=>by simp at hl
 |_::_,[],hl,_=>by simp at hl
def oy(t:W (List L)):W L:=λZ so=>t Z λls Z1=>FL ls λxs=>xs.length<=sizeLine/\so (.d (.tup xs)) Z1
def uG(t:W (List L)):W L:=λZ so=>t Z λls Z1=>FL ls λxs=>xs.length<=sizeLine/\∀a,so (.own a xs) Z1
theorem cf {x1} {bs:List (Option Nat)} {t:W (List L)} (h:QV X es bs t):PL X (.Tuple es x1 pos) (oy t):=by
 intro gV s σ H Pr Z so I E hq;refine wpAny_Tuple_spliced (Qk (h pos gV s σ H Pr Z _ I E hq) λus s1 ⟨vs,H1,ls,Z1,I1,r,hl,hb,E1,hv,q⟩=>?_);obtain⟨xs,rfl,z,q⟩:=jV q;have p4:vs.length=xs.length:=by simpa using hl
 refine⟨by rw[<- r.length,p4];exact z,?_⟩;have hf:H1 s1.heap.objs.size=none:=I1.hok.fresh (Vb _);refine⟨.ref s1.heap.objs.size,Qa H1 s1.heap.objs.size (.tup vs),_,Z1,I1.laid (t':=s1.toks) (λb u e=>UY _ e) (Vb _) ?_,rfl,(E1.drop (by simp[p4])).cons_tup hf (jW p4 E1),q⟩;exact⟨by rw[p4];exact z,us,r,⟨_,Vn _ rfl,rfl,_,rfl⟩⟩
theorem eW{bs:List (Option Nat)}{t:W (List L)}(h:QV X es bs t):PL X (.List es pos) (uG t):=by
 intro gV s σ H Pr Z so I E hq;refine wpAny_List_spliced (Qk (h pos gV s σ H Pr Z _ I E hq) λus s1 ⟨vs,H1,ls,Z1,I1,r,hl,hb,E1,hv,q⟩=>?_);obtain⟨xs,rfl,z,q⟩:=jV q;have p4:vs.length=xs.length:=by simpa using hl
 refine⟨by rw[<- r.length,p4];exact z,?_⟩;have hf:H1 s1.heap.objs.size=none:=I1.hok.fresh (Vb _);refine⟨.ref s1.heap.objs.size,Qa H1 s1.heap.objs.size (.lst vs),_,Z1,I1.laid (t':=s1.toks) (λb u e=>UY _ e) (Vb _) ?_,rfl,(E1.drop (by simp[p4])).cons_own hf (jW p4 E1),q _⟩;exact⟨by rw[p4];exact z,us,0,r,Vn _ rfl⟩
abbrev FS:=List L->(L->List L->Prop)->Prop
noncomputable def spF(K:PySem.W.Frag)(n:Nat)(fs:FS):Sp:=λvs H Q _=>vs.length=n/\∃Pr ls so,aA K Pr H (vs.map some) ls/\fs ls so/\∀v H' r ls',aA K Pr H' (some v::vs.map some) (r::ls')->so r ls'->Q v H'
theorem aA.swap{K:PySem.W.Frag}{Pr H:Hp}{σ τ:St}{Z lam:Ev}(hl:τ.length=lam.length)(E:aA K Pr H (τ++σ) (lam++Z)):aA K Pr H (σ++τ) (Z++lam):=by have pm:(owns (lam++Z)).Perm (owns (Z++lam)):=m6 VW;obtain⟨s1,s2⟩:=Paired.unapp hl E.sl;exact⟨E.sub,pm.nodup_iff.mp E.nd,λa h=>E.off a (pm.mem_iff.mpr h),Paired.app s2 s1⟩
theorem HK{K:PySem.W.Frag}{Pr H H':Hp}{σ τ:St}{Z ls ls':Ev}{v:Option V}{r:L}(hl:τ.length=ls.length)(E:aA K Pr H (τ++σ) (ls++Z))(E':aA K (bE H ls) H' (v::τ) (r::ls')):aA K Pr H' (v::(τ++σ)) (r::(ls'++Z)):=by
 have hρ:σ.length=Z.length:=(E.drop hl).len;have z:=aA.step (τ:=σ) (σ:=τ) (lam:=Z) (Z:=ls) (w:=[v]) (μ:=[r]) (E.swap hl) hρ E' rfl;have hl':τ.length=ls'.length:=by have:=E'.len;simpa using this
 obtain⟨s1,s2⟩:=Paired.unapp (a:=[v]) (b:=[r]) rfl z.sl;obtain⟨s2,s3⟩:=Paired.unapp hρ s2;have pm:(owns ([r]++(Z++ls'))).Perm (owns (r::(ls'++Z))):=m6 (List.Perm.cons r (VW (l₁:=Z) (l₂:=ls')));exact⟨z.sub,pm.nodup_iff.mp z.nd,λa h=>z.off a (pm.mem_iff.mpr h),Paired.app s1 (Paired.app s3 s2)⟩
def aB(fs:FS)(t:W (List L)):W L:=λZ so=>t Z λls Z1=>fs ls λr _=>so r Z1
def fF(fs:FS)(k i:Nat)(t:W (List L)):W L:=λZ so=>t Z λls Z1=>match Z1[i]? with
 |some (.own a xs)=>fs (ls.set k (.own a xs)) λr ls'=>∃ys,ls'[k]?=some (.own a ys)/\so r (Z1.set i (.own a ys))
 |_=>False
section
variable{CX:QC}{k n:Nat}{f:Addr}{fd:FuncData}{ps:List Str}{fs:FS}{E:XK}{x:Str}{p:Pos}{bs:List (Option Nat)}{t:W (List L)}
theorem aA.drop1{K:PySem.W.Frag}{Pr H:Hp}{σ τ:St}{Z lam:Ev}{v:Option V}{r:L}(hl:τ.length=lam.length)(E:aA K Pr H (v::(τ++σ)) (r::(lam++Z))):aA K Pr H (v::σ) (r::Z):=by obtain⟨s1,s2⟩:=Paired.unapp (a:=[v]) (b:=[r]) rfl E.sl;obtain⟨s2,s3⟩:=Paired.unapp hl s2;have sb:(owns (r::Z)).Sublist (owns (r::(lam++Z))):=FK (List.Sublist.cons_cons r (We _ _));exact⟨E.sub,E.nd.sublist sb,λa h=>E.off a (sb.subset h),Paired.app s1 s3⟩
theorem Jb(F:FnOk X.prog X.w X.K X.mg X.base CX k f fd ps (spF X.K n fs))(hr:gI k X.A)(hg:Gl X x)(hm:X.mg x=some (.ref f))(hk:PySem.W.keepIn X.K (.ref f)=true)(hb:oj X.K fd ps [])(hx:zR CX X E)
  (ha:QV X (e::es) bs t) (hn:bs.length=n) (hdb:(x == ("__debug__" : Str))=false:=by decide) (he:starEach (e::es) X.env=(false,eval e X.env)::starEach es X.env:=by rfl) (hpl:(backTo pos (starEach es X.env)).any (·.1)=false:=by rfl) :
  PL X (.Call (.Name x p) (e::es) [] pos) (aB fs t):=by
 intro gV s σ H Pr Z so I E0 h;refine V2 (jO I hg hm ?_ hdb);refine PySem.W.callWith_K (h₀:=X.base) I.ok.mod.kin hk (Qk (ha pos gV s σ H Pr Z _ I E0 h) λus s1 ⟨vs,H1,ls,Z1,I1,r,hl,hbl,E1,hv,q⟩=>⟨I1.kIn,?_⟩) he hpl;have hl':(vs.map some).length=ls.length:=by simp[hl]
 refine Qk (Cw (Q:=λv H'=>∃r Z',aA X.K Pr H' (some v::σ) (r::Z')/\so r Z') F hr hb .nil hx I1 r ?_) λu s2 ⟨v,H2,I2,rv,r,Z',E2,p⟩=>⟨v,H2,r,Z',I2,rv,E2,p⟩;rw[VR];refine⟨hbl.trans hn,bE H1 ls,ls,_,(E1.left hl').wide,q,λv H' r ls' E2 p=>⟨r,Z1,?_,p⟩⟩;have z:=HK hl' E1 E2;have hl2:(vs.map some).length=ls'.length:=by have:=E2.len;simpa using this
 exact z.drop1 hl2
theorem FM(F:FnOk X.prog X.w X.K X.mg X.base CX k f fd ps (spF X.K n fs))(hr:gI k X.A)(hg:Gl X x)(hm:X.mg x=some (.ref f))(hk:PySem.W.keepIn X.K (.ref f)=true)(hb:oj X.K fd ps [])(hx:zR CX X E)
  (j i:Nat) (ha:QV X (e::es) bs t) (hj:bs[j]?=some (some i)) (hn:bs.length=n) (hdb:(x == ("__debug__" : Str))=false:=by decide) (he:starEach (e::es) X.env=(false,eval e X.env)::starEach es X.env:=by rfl) (hpl:(backTo pos (starEach es X.env)).any (·.1)=false:=by rfl) :
  PL X (.Call (.Name x p) (e::es) [] pos) (fF fs j i t):=by
 intro gV s σ H Pr Z so I E0 h;refine V2 (jO I hg hm ?_ hdb);refine PySem.W.callWith_K (h₀:=X.base) I.ok.mod.kin hk (Qk (ha pos gV s σ H Pr Z _ I E0 h) λus s1 ⟨vs,H1,ls,Z1,I1,r,hl,hbl,E1,hv,q⟩=>⟨I1.kIn,?_⟩) he hpl;have hl':(vs.map some).length=ls.length:=by simp[hl]
 refine Qk (Cw (Q:=λv H'=>∃r Z',aA X.K Pr H' (some v::σ) (r::Z')/\so r Z') F hr hb .nil hx I1 r ?_) λu s2 ⟨v,H2,I2,rv,r,Z',E2,p⟩=>⟨v,H2,r,Z',I2,rv,E2,p⟩;rw[VR];dsimp only at q
 cases qi:Z1[i]? with
 |none=>rw[qi]at q;exact q.elim
 | some l =>
  rw[qi]at q
  cases l with
  |un=>exact q.elim
  |d y=>exact q.elim
  |bx _ _=>exact q.elim
  |dic _ _=>exact q.elim
  | own a xs =>
   obtain⟨hun,w,hw,hσ⟩:=hv j i hj;obtain⟨sv,hs2,rfl,_⟩:=(E1.drop hl').slot qi;rw[hσ]at hs2;cases hs2;have hjl:j<ls.length:=(U1.mp hun).1;have hjv:j<vs.length:=by omega
   have hil:i<Z1.length:=(U1.mp qi).1;have E2:=E1.out (i:=ls.length+i) (a:=a) (xs:=xs) (by rw[Vr xL];simpa using qi);rw[WT _ _ xL,Vw]at E2;have E3:=E2.back (i:=j) (by rw[VQ hjl];exact hun) (by rw[VQ (by simp;omega)];simp[hw]);rw[List.set_append_left _ _ hjl]at E3;have hl3:(vs.map some).length=(ls.set j (.own a xs)).length:=by simp[hl]
   refine⟨hbl.trans hn,bE H1 (ls.set j (.own a xs)),_,_,(E3.left hl3).wide,q,λv H' r ls' E4 p=>?_⟩;obtain⟨ys,hys,p⟩:=p;refine⟨r,Z1.set i (.own a ys),?_,p⟩;have z:=HK hl3 E3 E4;have hl4:(vs.map some).length=ls'.length:=by have:=E4.len;simpa using this
   have hjl':j<ls'.length:=by simp at hl4;omega
   have z1:=z.out (i:=1+j) (a:=a) (xs:=ys) (by rw[Nat.add_comm];simp only[List.getElem?_cons_succ];rw[VQ hjl'];exact hys);rw[Nat.add_comm 1 j,List.set_cons_succ,List.set_append_left _ _ hjl']at z1
   have z2:=z1.back (i:=(1+ls'.length)+i) (by
    rw[Nat.add_comm 1,Nat.add_right_comm,List.getElem?_cons_succ,Vr v6]
    simp[hil]) (by
    rw[Nat.add_comm 1,Nat.add_right_comm,List.getElem?_cons_succ,Vr (by simp at hl4 ⊢;omega)];simp at hl4 ⊢;rw[<- hl4,Vw]
    exact hσ)
   rw[Nat.add_comm 1,Nat.add_right_comm,List.set_cons_succ,WT _ _ v6]at z2;simp only[Wc,Vw,WK]at z2;exact z2.drop1 (by simp at hl4 ⊢;exact hl4)
end
end
def yd(Z:Ev):List L->List L->Prop:=Paired λl l'=>match l with
 |.own a _=>(∃ys,l'=.own a ys/\L.own a ys∈Z)∨l'=.un
 |.bx _ _=>l'=.un
 |.dic _ _=>l'=.un
 |l=>l'=l
def aP(ls:List L)(so:L->List L->Prop):Fl->Ev->Prop:=λf Z=>match f with
 |.rt r=>∃ls',yd Z ls ls'/\so r ls'
 |.nx=>∃ls',yd Z ls ls'/\so (.d .non) ls'
 |_=>False
theorem yd.owns{Z:Ev}:∀{ls ls':List L},yd Z ls ls'->(owns ls').Sublist (owns ls)
 |_,_,.nil=>.refl _
 | l::ls,l'::ls',.cons h t=>by
  have ih:=yd.owns t;rw[aK,aK]
  cases l with
  | own a xs =>
   rcases h with⟨ys,rfl,_⟩|rfl
   . exact(W0 _).append ih
   . exact ih.trans (We _ _)
  |un=>have e:l'=.un:=h;subst e;exact(W0 _).append ih
  |d x=>have e:l'=.d x:=h;subst e;exact(W0 _).append ih
  |bx k ms=>have e:l'=.un:=h;subst e;exact ih.trans (We _ _)
  |dic k ms=>have e:l'=.un:=h;subst e;exact ih.trans (We _ _)
theorem yd.sub{Z:Ev}:∀{ls ls':List L},yd Z ls ls'->∀a∈L2.owns ls',a∈L2.owns Z
 |_,_,.nil=>λa ha=>by simp[L2.owns]at ha
 | l::ls,l'::ls',.cons h t=>λa ha=>by
  have ih:=yd.sub t;rw[aK]at ha;rcases Vx.mp ha with z|z
  .
   cases l with
   | own b xs =>
    rcases h with⟨ys,rfl,hm⟩|rfl
    .
     have e:a=b:=by simpa[bb]using z
     subst e;exact IT hm
    . simp[bb]at z
   |un=>have e:l'=.un:=h;subst e;simp[bb]at z
   |d x=>have e:l'=.d x:=h;subst e;simp[bb]at z
   |bx k ms=>have e:l'=.un:=h;subst e;simp[bb]at z
   |dic k ms=>have e:l'=.un:=h;subst e;simp[bb]at z
  . exact ih a z
theorem qm{K:PySem.W.Frag}{Pr H H':Hp}{σ τ:St}{ls ls' Z:Ev}{v:Option V}{r:L}(E:aA K Pr H σ ls)(E':aA K (bE H ls) H' (v::τ) (r::Z))(B:yd Z ls ls'):aA K Pr H' (v::σ) (r::ls'):=by
 have E1:=E.narrow E';have p:vQ H H':=uD E E'.sub;have sub:=B.sub;have nd1:(owns ls').Nodup:=E.nd.sublist B.owns;refine⟨E1.sub,?_,λa ha=>?_,?_⟩
 . have nd:=E'.nd;rw[aK]at nd ⊢;obtain⟨n1,n2,n3⟩:=Vv.mp nd;exact Vv.mpr ⟨n1,nd1,λa ha b hb=>n3 a ha b (sub b hb)⟩
 .
  rw[aK]at ha;refine E1.off a ?_;rw[aK];rcases Vx.mp ha with z|z
  . exact Vh _ z
  . exact Vi _ (sub a z)
 .
  have s1:=E'.sl
  cases s1 with
  | cons q t =>
   refine .cons q ?_;have sl:=E.sl;clear E E' E1 nd1 sub
   induction B generalizing σ with
   |nil=>cases sl;exact .nil
   | cons h u ih =>
    rename_i l l' _ _
    cases sl with
    | cons s0 s2 =>
     refine .cons ?_ (ih s2)
     cases l with
     | own a xs =>
      rcases h with⟨ys,rfl,hm⟩|rfl
      . obtain⟨e,_⟩:=s0;obtain⟨_,_,_,z⟩:=Paired.mem2 t hm;exact⟨e,z⟩
      . unfold a8;exact True.intro
     |un=>have e:l'=.un:=h;subst e;unfold a8;exact True.intro
     |bx k ms=>have e:l'=.un:=h;subst e;unfold a8;exact True.intro
     |dic k ms=>have e:l'=.un:=h;subst e;unfold a8;exact True.intro
     | d x =>
      have e:l'=.d x:=h;subst e;obtain⟨w,e,r⟩:=s0;exact⟨w,e,r.pres p⟩
section
variable{P:Program}{w:World}{K:PySem.W.Frag}{mg:Str->Option Value}{base:Heap}
theorem aA.uns{K:PySem.W.Frag}{Pr H:Hp}{σ:St}{Z:Ev}(E:aA K Pr H σ Z):∀n,aA K Pr H (σ++List.replicate n none) (Z++List.replicate n .un):=λn=>by
 have e:owns (Z++List.replicate n .un)=owns Z:=by
  rw[aF]
  have:owns (List.replicate n L.un)=[]:=by
   induction n with
   |zero=>rfl
   |succ n ih=>rw[VG,pF];exact ih
  rw[this,VR]
 refine⟨E.sub,by rw[e];exact E.nd,λa h=>E.off a (by rw[e]at h;exact h),Paired.app E.sl ?_⟩
 induction n with
 |zero=>exact .nil
 | succ n ih =>
  rw[VG,VG];refine .cons True.intro (ih ?_)
  have:owns (List.replicate n L.un)=[]:=by
   clear ih e
   induction n with
   |zero=>rfl
   |succ n ih=>rw[VG,pF];exact ih
  rw[aF,this,VR]
theorem bc{x qual:Str}{st:Stmt}{f:Addr}{fd:FuncData}{N ps:List Str}{k:Nat}{fs:FS}(F:QS K x qual st f fd)(S:az N ps (aq st))(t:W Fl)
  (hbody:∀(cdv:Value)(A:Around)(outer:List Env)(s:Shared)(H:Hp)(E:XK),gI k (A.deeper (envOfC qual (aq st) s.heap.objs.size f cdv))->QW (Fd CX0 P w K mg base N qual (aq st) f cdv A outer s H E).nox (de st) t)
  (h:∀ls so,ls.length=ps.length->fs ls so->t (ls++List.replicate (N.length-ps.length) .un) (aP ls so)):FnOk P w K mg base CX0 (k+1) f fd ps (spF K ps.length fs):=by
 refine F.ok S (λvs H Q E q=>q.1) (λcdv A outer s H vs Q E hr q=>?_);obtain⟨hl,Pr,ls,so,E0,hf,q⟩:=q;refine⟨_,(hbody cdv A outer s H E hr).pss,bE H ls,ls++List.replicate (N.length-ps.length) .un,aP ls so,?_,h ls so (by rw[<- hl];have:=E0.len;simpa using this.symm) hf,λσ' H' Z' E' p=>?_,λ_ _ _ _ p=>p.elim,λ_ _ _ _ p=>p.elim,λv τ H' r Z' E' p=>?_⟩
 . unfold om;rw[hl];exact E0.wide.uns _
 . obtain⟨ls',B,p⟩:=p;exact q .non H' (.d .non) ls' (qm E0 (E'.cons_d .non) B) p
 . obtain⟨ls',B,p⟩:=p;exact q v H' r ls' (qm E0 E' B) p
end
theorem aM{Z:Ev}:yd Z [] []:=.nil
theorem ai{Z:Ev}{x:D}{a b:List L}(t:yd Z a b):yd Z (.d x::a) (.d x::b):=.cons rfl t
theorem qo{Z:Ev}{p:Addr}{xs ys:List D}{a b:List L}(h:L.own p ys∈Z)(t:yd Z a b):yd Z (.own p xs::a) (.own p ys::b):=.cons (.inl ⟨ys,rfl,h⟩) t
section
variable{X:Cx}{e a b c tg:Expr}{es:List Expr}{pos:Pos}{tA:W Bool}{t u:W Fl}
def t7(c:W Bool)(b:W Fl):W Fl:=λZ so=>∃J:Nat->Ev->Prop,(∃n,J n Z)/\∀n Z,J n Z->c Z λt Z1=>if t=true then b Z1 λf Z2=>(match f with
 |.nx=>∃m,m<n/\J m Z2
 |.ct=>∃m,m<n/\J m Z2
 |.bk=>so .nx Z2
 |.rt r=>so (.rt r) Z2)else so .nx Z1
theorem qp{body:List Stmt}(hp:PassesOwn (model X.prog X.w) X.A X.env X.xe)(hc:PB X c tA)(hb:QW X body t):PM X (.While c body [] pos) (t7 tA t):=by
 refine PM.of (Fm hp hc.pt hb.pss) λσ H Pr Z so p4 E h=>?_;obtain⟨J,⟨n0,j0⟩,turn⟩:=h;refine⟨λn σ H=>∃Z,aA X.K Pr H σ Z/\J n Z,⟨n0,Z,E,j0⟩,λn σ1 H1 ⟨Z1,E1,j1⟩=>⟨Pr,Z1,_,E1,turn n Z1 j1,λb H2 Z2 E2 q=>?_⟩⟩
 cases b with
 |false=>exact⟨Z2,E2,q⟩
 | true =>
  refine⟨λσ' H'=>∃Z' m,aA X.K Pr H' σ' Z'/\m<n/\J m Z',λσ' H' ⟨Z',m,E',hm,j⟩=>⟨m,hm,Z',E',j⟩,Pr,Z2,_,E2,q,λσ' H' Z' E' ⟨m,hm,j⟩=>⟨Z',m,E',hm,j⟩,λσ' H' Z' E' p=>⟨Z',E',p⟩,λσ' H' Z' E' ⟨m,hm,j⟩=>⟨Z',m,E',hm,j⟩,λv τ H' r Z' E' p=>⟨τ,r,Z',E',p⟩⟩
abbrev Tg:=D->Ev->(Ev->Prop)->Prop
def Q6(X:Cx)(tg:Expr)(g:Tg):Prop:=∃gg:TG,PG X tg gg/\∀v σ H Pr Z x k,σ.length=X.N.length->aA X.K Pr H σ Z->QU X.K H v x->g x Z k->gg v σ H λσ' H'=>H'=H/\σ'.length=X.N.length/\∃Z',aA X.K Pr H σ' Z'/\k Z'
def bp(i:Nat):Tg:=λx Z k=>k (Z.set i (.d x))
theorem dg{i:Nat}{x:Str}(hN:X.N.Nodup)(hi:X.N[i]?=some x)(hx:Qh X.env.scope x)(hf:X.fn x=true∨X.env.scope.names.lookup x=some .local:=by first|exact .inl rfl|exact .inr rfl|assumption):Q6 X (.Name x pos) (bp i) :=
 ⟨_,uy hN hi hx hf,λv σ H Pr Z x k hl E r h=>⟨rfl,by simpa using hl,_,(E.cons_d r).store (by rw[hl];exact(U1.mp hi).1),h⟩⟩
def iS:List Nat->List D->Ev->(Ev->Prop)->Prop
 |[],[],Z,k=>k Z
 |i::is,x::xs,Z,k=>iS is xs (Z.set i (.d x)) k
 |_,_,_,_=>False
def Q7(X:Cx)(es:List Expr)(is:List Nat):Prop:=∃gg:Qp,Qq X es gg/\es.length=is.length/\∀vs σ H Pr Z xs k,σ.length=X.N.length->aA X.K Pr H σ Z->bJ X.K H vs xs->iS is xs Z k->gg vs σ H λσ' H'=>H'=H/\σ'.length=X.N.length/\∃Z',aA X.K Pr H σ' Z'/\k Z'
theorem gh:Q7 X [] []:=⟨_,Cm,rfl,λvs σ H Pr Z xs k hl E r h=>by
 cases r with
 |nil=>exact⟨rfl,rfl,hl,Z,E,h⟩
 |cons _ _=>exact h.elim⟩
theorem aX{i:Nat}{is:List Nat}{x:Str}(hN:X.N.Nodup)(hi:X.N[i]?=some x)(hx:Qh X.env.scope x)(hr:Q7 X es is)(hf:X.fn x=true∨X.env.scope.names.lookup x=some .local:=by first|exact .inl rfl|exact .inr rfl|assumption)
  (hs:(assignEach (.Name x pos::es) X.env).map (·.2)=assign (.Name x pos) X.env::(assignEach es X.env).map (·.2):=by rfl):Q7 X (.Name x pos::es) (i::is):=by
 obtain⟨gg,hg,p4,q⟩:=hr;refine⟨_,zO (uy hN hi hx hf) hg hs,by simp[p4],λvs σ H Pr Z xs k hl E r h=>?_⟩
 cases r with
 |nil=>exact h.elim
 | cons r0 t =>
  refine⟨_,_,rfl,?_⟩;exact q _ _ H Pr _ _ k (by simpa using hl) ((E.cons_d r0).store (by rw[hl];exact(U1.mp hi).1)) t h
def eX(is:List Nat):Tg:=λx Z k=>match x with
 |.tup xs=>iS is xs Z k
 |_=>False
theorem l7:∀{is:List Nat}{xs:List D}{Z:Ev}{k:Ev->Prop},iS is xs Z k->xs.length=is.length
 |[],[],_,_,_=>rfl
 |_::is,_::xs,_,_,h=>by simp[l7 (is:=is) (xs:=xs) h]
 |[],_::_,_,_,h=>h.elim
 |_::_,[],_,_,h=>h.elim
theorem jX{is:List Nat}{k:Nat}(hc:X.calm=true)(h:Q7 X es is)(hn:(assignEach es X.env).length=is.length:=by rfl)(hst:(assignEach es X.env).findIdx? (·.1)=none:=by rfl):Q6 X (.Tuple es k pos) (eX is):=by
 obtain⟨gg,hg,p4,q⟩:=h;refine⟨_,HD hc hg hn hst,λv σ H Pr Z x k hl E r h=>?_⟩
 cases r with
 |tup hs rs=>exact⟨_,_,rfl,hs,by rw[rs.length];exact l7 h,q _ σ H Pr Z _ k hl E rs h⟩
 |_=>exact h.elim
def dh(g:Tg)(b:W Fl):List D->W Fl
 |[]=>λZ so=>so .nx Z
 | x::xs=>λZ so=>g x Z λZ1=>b Z1 λf Z2=>match f with
  |.nx=>dh g b xs Z2 so
  |.ct=>dh g b xs Z2 so
  |.bk=>so .nx Z2
  |.rt r=>so (.rt r) Z2
def oz:D->(List D->Prop)->Prop
 |.lst xs,k=>k xs
 |.tup xs,k=>k xs
 |_,_=>False
def LP(H H':Hp):Prop:=H'=H∨∃p o,H p=none/\H'=Qa H p o
theorem aA.grown{K:PySem.W.Frag}{Pr H H':Hp}{σ:St}{Z:Ev}(E:aA K Pr H σ Z)(g:LP H H'):aA K Pr H' σ Z:=by
 rcases g with rfl|⟨p,o,h,rfl⟩
 . exact E
 . exact E.new h
def Bo(K:PySem.W.Frag)(H:Hp)(J:It)(xs:List D):Prop:=∀H',vQ H H' ->
 (∀i x,xs[i]?=some x->J.go i H'/\∀v H2,J.yld i H' v H2->LP H' H2/\QU K H2 v x)/\J.stop xs.length H'
def EI(X:Cx)(gV:List (Addr×Obj))(σ:St)(tg:Expr)(Pr:Hp)(so:List D->Ev->Prop)(itv:Value)(s2:Shared):Prop :=
 ∃(it:Addr)(fp:List Addr)(tn:Nat->Heap->Prop)(J:It)(H':Hp)(xs:List D)(Z':Ev),itv=.ref it/\Qi X gV σ H' s2/\Iw X.prog X.w X.K tg J fp it tn/\tn 0 s2.heap/\(∀b∈fp,Cn X gV H' b)/\aA X.K Pr H' σ Z'/\Bo X.K H' J xs/\so xs Z'
def Q8(X:Cx)(tg iter:Expr)(w:W (List D)):Prop :=
 ∀(gV:List (Addr×Obj))(s:Shared)(σ:St)(H Pr:Hp)(Z:Ev)(so:List D->Ev->Prop),Qi X gV σ H s->aA X.K Pr H σ Z->w Z so ->
  wpAny (model X.prog X.w) X.A (eval iter X.env) (λv s1=>wpAny (model X.prog X.w) X.A (pyIter v) (EI X gV σ tg Pr so) X.xe s1) X.xe s
def wx(t:W L):W (List D):=λZ so=>t Z λr Z1=>QX r λx=>oz x λxs=>so xs Z1
theorem Bp{K:PySem.W.Frag}{H:Hp}{a:Addr}{vs:List V}{xs:List D}(h:QT K H a vs)(r:bJ K H vs xs):Bo K H (Qs K a) xs:=λH' p=>by have h':=(h.pres p).l;refine⟨λi x e=>?_,⟨vs,h',by rw[r.length];exact Vb _⟩⟩;obtain⟨v,ev,rv⟩:=r.get e;refine⟨⟨vs,v,h',ev⟩,λw H2 ⟨e1,e2⟩=>?_⟩;have e3:=e2 vs h';rw[ev]at e3;cases e3;subst e1;exact⟨.inl rfl,rv.pres p⟩
theorem CP{K:PySem.W.Frag}{H:Hp}{a:Addr}{vs:List V}{xs:List D}(h:Qo K H a vs)(r:bJ K H vs xs):Bo K H (Qt K a) xs:=λH' p=>by have h':=h.pres p;refine⟨λi x e=>?_,⟨vs,h',by rw[r.length];exact Vb _⟩⟩;obtain⟨v,ev,rv⟩:=r.get e;refine⟨⟨vs,v,h',ev⟩,λw H2 ⟨e1,e2⟩=>?_⟩;have e3:=e2 vs h';rw[ev]at e3;cases e3;subst e1;exact⟨.inl rfl,rv.pres p⟩
theorem di{t:W L}(h:PL X e t):Q8 X tg e (wx t):=by
 intro gV s σ H Pr Z so I E ht;refine Qk (h gV s σ H Pr Z _ I E ht) λu s1 q=>?_;obtain⟨v,H1,x,Z1,I1,r1,E1,q2⟩:=EL.frz (so:=λx Z1=>oz x λxs=>so xs Z1) q;obtain⟨_,e1,p⟩:=E1.head_d;cases e1
 cases p with
 | lst hz rs =>
  cases r1;obtain⟨its,rv,pl,hz'⟩:=I1.list hz.l;refine wpAny_pyIter_list pl.isList ?_;refine⟨s1.heap.objs.size,[s1.heap.objs.size],_,_,H1,_,Z1,rfl,I1.kept (t':=s1.toks) λb o e=>UY _ e,Co _ _,⟨_,Vn _ rfl,rfl,rfl⟩,λb hb=>?_,E1.tail,Bp hz rs,q2⟩;have e:b=s1.heap.objs.size:=by simpa using hb
  subst e;exact I1.fpOk (Vb _) (I1.hok.fresh (Vb _))
 | tup hz rs =>
  cases r1;obtain⟨its,rv,pl,hz'⟩:=I1.tuple hz;refine wpAny_pyIter_tuple (show s1.heap.IsTuple _ its.toArray from pl) ?_;refine⟨s1.heap.objs.size,[s1.heap.objs.size],_,_,H1,_,Z1,rfl,I1.kept (t':=s1.toks) λb o e=>UY _ e,A9 _ _,⟨_,Vn _ rfl,rfl,rfl⟩,λb hb=>?_,E1.tail,CP hz rs,q2⟩;have e:b=s1.heap.objs.size:=by simpa using hb
  subst e;exact I1.fpOk (Vb _) (I1.hok.fresh (Vb _))
 |_=>exact q2.elim
noncomputable def sV(lo:Int)(n:Nat):List D:=(List.range n).map λ(i:Nat)=>.int (lo+(i:Int))
theorem wy{K:PySem.W.Frag}{H:Hp}(lo:Int)(n:Nat):Bo K H (Qu lo n) (sV lo n):=λH' p=>by
 refine⟨λi x e=>?_,?_⟩
 .
  have hi:i<n:=by have:=(U1.mp e).1;simpa[sV]using this
  refine⟨hi,λv H2 ⟨e1,e2⟩=>?_⟩;subst e1 e2;have:x=.int (lo+(i:Int)):=by unfold sV at e;rw[Vf,WH hi]at e;simpa using e.symm
  subst this;exact⟨.inl rfl,.int _⟩
 . show n<=(sV lo n).length;simp[sV]
def m7:L->(Int->Prop)->Prop
 |.d (.int i),k=>k i
 |_,_=>False
theorem dG{r:L}{k:Int->Prop}(h:m7 r k):∃i,r=.d (.int i)/\k i:=by
 cases r with
 | d x=>cases x with
  |int i=>exact⟨i,rfl,h⟩
  |_=>exact h.elim
 |_=>exact h.elim
def CQ(j:Int):Prop:=-(2^62)<=j/\j<2^62
def qL(t:W L):W (List D):=λZ so=>t Z λr Z1=>m7 r λj=>CQ j/\so (sV 0 j.toNat) Z1
def Jc(t u:W L):W (List D):=λZ so=>t Z λr Z1=>m7 r λi=>u Z1 λr Z2=>m7 r λj=>CQ i/\CQ j/\so (sV i (j-i).toNat) Z2
theorem fO{t:W L}{p pos:Pos} (hg:Gl X "range") (hm:X.mg "range"=none) (ha:PL X a t) (hs:starEach [a] X.env=[(false,eval a X.env)]:=by rfl):Q8 X tg (.Call (.Name "range" p) [a] [] pos) (qL t):=by
 intro gV s σ H Pr Z so I E h;refine Qk (Cp (tg:=tg) hg hm (c9 ha.pe lD hs) hs gV s σ H (λJ H1=>∃Z1 n,J=Qu 0 n/\aA X.K Pr H1 σ Z1/\so (sV 0 n) Z1) I ?_) λv s1 q=>Qk q λitv s2 ⟨it,fp,tn,J,H',e,I',T,t0,hf,Z1,n,eJ,E1,q⟩=>?_
 . refine⟨Pr,Z,_,E,h,λv H' r Z' E' p=>?_⟩;obtain⟨j,rfl,hj,p⟩:=dG p;obtain⟨_,e1,p1⟩:=E'.head_d;cases e1;cases p1;exact⟨j,rfl,hj.1,hj.2,Z',_,rfl,E'.tail,p⟩
 . subst eJ;exact⟨it,fp,tn,_,H',_,Z1,e,I',T,t0,hf,E1,wy 0 n,q⟩
theorem FN{t u:W L}{p pos:Pos} (hg:Gl X "range") (hm:X.mg "range"=none) (ha:PL X a t) (hb:PL X b u) (hs:starEach [a,b] X.env=[(false,eval a X.env),(false,eval b X.env)]:=by rfl) (hs2:starEach [b] X.env=[(false,eval b X.env)]:=by rfl):Q8 X tg (.Call (.Name "range" p) [a,b] [] pos) (Jc t u):=by
 intro gV s σ H Pr Z so I E h;refine Qk (Cq (tg:=tg) hg hm (c9 ha.pe (c9 hb.pe lD hs2) (hs.trans (by rw[hs2]))) hs hs2 gV s σ H (λJ H1=>∃Z1 lo n,J=Qu lo n/\aA X.K Pr H1 σ Z1/\so (sV lo n) Z1) I ?_) λv s1 q=>Qk q λitv s2 ⟨it,fp,tn,J,H',e,I',T,t0,hf,Z1,lo,n,eJ,E1,q⟩=>?_
 . refine⟨Pr,Z,_,E,h,λv H' r Z' E' p=>?_⟩;obtain⟨i,rfl,p⟩:=dG p;obtain⟨_,e1,p1⟩:=E'.head_d;cases e1;cases p1;refine⟨Pr,Z',_,E'.tail,p,λv H2 r Z2 E2 p=>?_⟩;obtain⟨j,rfl,hi,hj,p⟩:=dG p;obtain⟨_,e1,p1⟩:=E2.head_d;cases e1;cases p1;exact⟨i,j,rfl,⟨hi.1,hi.2,hj.1,hj.2⟩,Z2,_,_,rfl,E2.tail,p⟩
 . subst eJ;exact⟨it,fp,tn,_,H',_,Z1,e,I',T,t0,hf,E1,wy lo n,q⟩
def pY(s:W (List D))(g:Tg)(b:W Fl):W Fl:=λZ so=>s Z λxs Z1=>dh g b xs Z1 so
theorem cy{iter:Expr}{body:List Stmt}{w:W (List D)}{g:Tg}(hp:PassesOwn (model X.prog X.w) X.A X.env X.xe)(hc:X.calm=true)(hi:Q8 X tg iter w)(hg:Q6 X tg g)(hb:QW X body t)
  (hs:∀x,foldedSetIterable iter X.env x=pure x:=by intro _;rfl):PM X (.For tg iter body [] pos) (pY w g t):=by
 intro gV s σ H Pr Z so I E h;obtain⟨gg,hg,hgg⟩:=hg;refine wpAny_For (Qk (hi gV s σ H Pr Z _ I E h) λv s1 h1=>Qk h1 λitv s2 h2=>?_) hs;obtain⟨it,fp,tn,J,H2,xs,Z2,e,I2,T,st2,f2,E2,G,w0⟩:=h2;subst e;have stat:∀{H':Hp},(∀b∈fp,H' b=none)->∀b∈fp,Cn X gV H' b:=λhn b hb=>⟨hn b hb,(f2 b hb).2⟩;refine codeAny_forLoop_any (λn s'=>∃i σ' H' Z',n+i=xs.length/\Qi X gV σ' H' s'/\tn i s'.heap/\(∀b∈fp,H' b=none)/\aA X.K (bE H2 Z2) H' σ' Z'/\dh g t (xs.drop i) Z' so) ?_ xs.length ⟨0,σ,H2,Z2,xL,I2,st2,λb hb=>(f2 b hb).1,E2.wide,by simpa using w0⟩;rintro n s3 ⟨i,σ3,H3,Z3,hn,I3,st3,fr3,E3,w3⟩;obtain⟨go,stop⟩:=G H3 (uD E2 E3.sub);by_cases hlt:i<xs.length
 .
  obtain⟨hgo,hy⟩:=go i xs[i] (tu hlt);rw[VD hlt]at w3;refine WU hp (Qk (T.item X rfl rfl rfl hc i gV s3 σ3 H3 X.xe I3 (stat fr3) st3 hgo) λr s4 ⟨u,hr,h4⟩=>?_);subst hr;refine WU hp (Qk h4 λ_ s5 ⟨x,H5,I5,r5,y5,st5,fr5⟩=>?_);obtain⟨gr,rx⟩:=hy x H5 y5;have I5':=I5.pinned (stat fr5) (T.obj _ _ st5);have E5:=E3.grown gr;refine WU hp (Qk (hg _ s5 σ3 H5 x u _ I5' r5 (hgg x σ3 H5 _ Z3 xs[i] _ I5.len E5 rx w3)) λ_ s6 ⟨σ6,H6,I6,e6,hl6,Z6,E6,q6⟩=>?_);subst e6;refine WU hp (Qk (hb _ s6 σ6 _ _ Z6 _ I6 E6 q6) λf s7 q7=>?_)
  have again:∀{σ7:St}{H7:Hp}{Z7:Ev},Qi X (gV++vV fp s5.heap) σ7 H7 s7->aA X.K (bE H2 Z2) H7 σ7 Z7->dh g t (xs.drop (i+1)) Z7 so ->
    ∃m,m<n/\∃i σ' H' Z',m+i=xs.length/\Qi X gV σ' H' s7/\tn i s7.heap/\(∀b∈fp,H' b=none)/\aA X.K (bE H2 Z2) H' σ' Z'/\dh g t (xs.drop i) Z' so:=λ{σ7 H7 Z7} I7 E7 n7=>by
   refine⟨n-1,xL,i+1,σ7,H7,Z7,xL,I7.unpinned,T.keep _ _ _ st5 λb hb o e=>(I7.pin (b,o) (Vi _ (Vi _ (kW hb e)))).1,λb hb=>?_,E7,n7⟩;obtain⟨o,e,d⟩:=T.obj _ _ st5 b hb;exact(I7.pin (b,o) (Vi _ (Vi _ (kW hb e)))).2.1
  cases f with
  |next=>obtain⟨σ7,H7,Z7,I7,E7,n7⟩:=q7;exact again I7 E7 n7
  |cont=>obtain⟨σ7,H7,Z7,I7,E7,n7⟩:=q7;exact again I7 E7 n7
  |brk=>obtain⟨σ7,H7,Z7,I7,E7,q7⟩:=q7;exact⟨σ7,H7,Z7,I7.unpinned,E2.narrow E7,q7⟩
  |ret v=>obtain⟨x7,σ7,H7,r,Z7,τ,I7,r7,E7,q7⟩:=q7;exact⟨x7,σ7,H7,r,Z7,τ,I7.unpinned,r7,E2.narrow E7,q7⟩
 .
  have e:i=xs.length:=by omega
  subst e;refine WU hp (Qk (T.done X rfl rfl rfl hc xs.length gV s3 σ3 H3 X.xe I3 (stat fr3) st3 stop) λr s4 ⟨hr,I4⟩=>?_);subst hr;rw[W6]at w3;exact WV ⟨σ3,H3,Z3,I4,E2.narrow E3,w3⟩
end
section
variable{X:Cx}{e a b c:Expr}{pos:Pos}{ta tb:W L}
def cT(i:Int):Prop:=i.natAbs<2^1000000
def fg:QY:=λx y k=>match x,y with
 |.int i,.int j=>k (.d (.int (i+j)))
 |.str i,.str j=>i.length+j.length<=sizeLine/\k (.d (.str (i++j)))
 |.lst xs,.lst ys=>xs.length+ys.length<=sizeLine/\∀a,k (.own a (xs++ys))
 |_,_=>False
def pZ:QY:=λx y k=>match x,y with
 |.int i,.int j=>k (.d (.int (i-j)))
 |_,_=>False
def uH:QY:=λx y k=>match x,y with
 |.int i,.int j=>j≠0/\j.natAbs<2^9000/\k (.d (.int (i.fdiv j)))
 |_,_=>False
def iT:QY:=λx y k=>match x,y with
 |.int i,.int j=>j≠0/\k (.d (.int (i.fmod j)))
 |_,_=>False
def Bq:QY:=λx y k=>match x,y with
 |.int i,.int j=>0<=j/\j<=1000000/\i.natAbs<2^64/\k (.d (.int (i^j.toNat)))
 |_,_=>False
def uI:QY:=λx y k=>match x,y with
 |.int i,.int j=>k (.d (.bl (decide (i<j))))
 |_,_=>False
def N6:QY:=λx y k=>match x,y with
 |.int i,.int j=>k (.d (.bl (decide (i<=j))))
 |_,_=>False
def LQ:QY:=λx y k=>match x,y with
 |.int i,.int j=>k (.d (.bl (decide (j<i))))
 |_,_=>False
def LR:QY:=λx y k=>match x,y with
 |.int i,.int j=>k (.d (.bl (decide (j<=i))))
 |_,_=>False
theorem CS{i j:Int}(h1:cT i)(h2:cT j):IntMulOk i j:=IntMulOk.of_le (PySem.intBits_le_iff.mpr h1) (PySem.intBits_le_iff.mpr h2) x_
theorem Jd:Qv X (binaryOp .Mult) (rI (λi j=>cT i/\cT j) λi j=>.int (i*j)):=Qz λ_ _ _ _ _ _ _ hc q=>mul_int q (CS hc.1 hc.2)
theorem Je:Qv X (binaryOp .FloorDiv) (rI (λi j=>j≠0/\j.natAbs<2^9000) λi j=>.int (i.fdiv j)):=Qz λi j _ _ _ _ _ hc q=>floordiv_int hc.1 q (.inl (PyProof.noPylong_of_log2 ((Nat.log2_lt (by have:=hc.1;omega)).mpr hc.2)))
theorem Jf:Qv X (binaryOp .Add) (λx y H Q=>∃l b xs zs,x=.ref l/\y=.ref b/\Qn X.K H l xs/\Qn X.K H b zs/\xs.length+zs.length<=sizeLine/\∀p,H p=none->Q (.ref p) (Qa H p (.lst (xs++zs)))):=by
 intro gV s σ H x y v u Q I rx ry h;obtain⟨l,b,xs,zs,rfl,rfl,hH,hB,hz,q⟩:=h;cases rx;cases ry;obtain⟨its,r,⟨o,n,e,c,d,f⟩,z⟩:=I.list hH;obtain⟨its2,r2,⟨o2,n2,e2,c2,d2,f2⟩,z2⟩:=I.list hB;obtain⟨cl,dd,dt,sl⟩:=o;obtain⟨cl2,dd2,dt2,sl2⟩:=o2;simp only at c f c2 f2;subst c f c2 f2;have hl:=r.length;have hl2:=r2.length;refine concat_meets ⟨_,e,rfl⟩ ⟨_,e2,rfl⟩ noFill_list_add seq_list_add PySem.F.slot_list_add PySem.F.entry_list_add (PySem.F.args_list_add_2 _ _) (list_addW l b its.toArray its2.toArray n n2 dd dd2 sl sl2 (by rw[Vd,Vd];omega)) ⟨e,e2,?_⟩;have ea:its.toArray++its2.toArray=(its++its2).toArray:=by simp
 rw[ea];exact⟨.ref _,_,I.lnew (t':=s.toks) (r.append r2) (by rw[VL];omega),rfl,q _ I.fresh⟩
theorem FO{x y:D}{k:L->Prop}(h:fg x y k):(∃i j,x=.int i/\y=.int j/\k (.d (.int (i+j))))∨(∃i j,x=.str i/\y=.str j/\i.length+j.length<=sizeLine/\k (.d (.str (i++j))))∨∃xs ys,x=.lst xs/\y=.lst ys/\xs.length+ys.length<=sizeLine/\∀a,k (.own a (xs++ys)):=by
 unfold fg at h;split at h
 . exact .inl ⟨_,_,rfl,rfl,h⟩
 . exact .inr (.inl ⟨_,_,rfl,rfl,h⟩)
 . exact .inr (.inr ⟨_,_,rfl,rfl,h⟩)
 . exact h.elim
theorem Jg:QZ X (binaryOp .Add) (λx y k=>∃i j,x=.int i/\y=.int j/\k (.d (.int (i+j)))):=QZ.of Ll λσ H Pr Z x y dx dy so E px py ⟨i,j,e1,e2,h⟩=>by subst e1 e2;cases px;cases py;exact⟨i,j,rfl,rfl,_,E.cons_d (.int _),h⟩
theorem Jh:QZ X (binaryOp .Add) (λx y k=>∃i j,x=.str i/\y=.str j/\i.length+j.length<=sizeLine/\k (.d (.str (i++j)))):=QZ.of Bb λσ H Pr Z x y dx dy so E px py ⟨i,j,e1,e2,z,h⟩=>by subst e1 e2;cases px;cases py;exact⟨i,j,rfl,rfl,z,_,E.cons_d (.str _),h⟩
theorem Ji:QZ X (binaryOp .Add) (λx y k=>∃xs ys,x=.lst xs/\y=.lst ys/\xs.length+ys.length<=sizeLine/\∀a,k (.own a (xs++ys))):=QZ.of Jf λσ H Pr Z x y dx dy so E px py ⟨xs,ys,e1,e2,z,h⟩=>by
 subst e1 e2
 cases px with
 | lst h1 r1 =>
  cases py with
  |lst h2 r2=>exact⟨_,_,_,_,rfl,rfl,h1.l,h2.l,by rw[r1.length,r2.length];exact z,λp hp=>⟨_,E.cons_own hp (r1.append r2),h p⟩⟩
theorem cU:QZ X (binaryOp .Add) fg:=by
 intro gV s σ H Pr Z x y v u dx dy so I rx ry E px py ho;rcases FO ho with h|h|h
 . exact Jg gV s σ H Pr Z x y v u dx dy so I rx ry E px py h
 . exact Jh gV s σ H Pr Z x y v u dx dy so I rx ry E px py h
 . exact Ji gV s σ H Pr Z x y v u dx dy so I rx ry E px py h
theorem zV{f:Value->Value->Sem Value}{C:Int->Int->Prop}{g:Int->Int->V}{gd:Int->Int->D}(h:Qv X f (rI C g))(hg:∀K H i j,QU K H (g i j) (gd i j)) :
  QZ X f (λx y k=>∃i j,x=.int i/\y=.int j/\C i j/\k (.d (gd i j))) :=
 QZ.of h λσ H Pr Z x y dx dy so E px py ⟨i,j,e1,e2,z,h⟩=>by subst e1 e2;cases px;cases py;exact⟨i,j,rfl,rfl,z,_,E.cons_d (hg _ _ _ _),h⟩
theorem uJ{f:Value->Value->Sem Value}{g:Int->Int->V}{gd:Int->Int->D}(h:Qv X f (Qy g))(hg:∀K H i j,QU K H (g i j) (gd i j)) :
  QZ X f (λx y k=>∃i j,x=.int i/\y=.int j/\k (.d (gd i j))) :=
 QZ.of h λσ H Pr Z x y dx dy so E px py ⟨i,j,e1,e2,h⟩=>by subst e1 e2;cases px;cases py;exact⟨i,j,rfl,rfl,_,E.cons_d (hg _ _ _ _),h⟩
theorem m8:QZ X (binaryOp .Sub) pZ:=(uJ Ln (gd:=λi j=>.int (i-j)) λ_ _ _ _=>.int _).imp λx y k h=>by
 unfold pZ at h;split at h
 . exact⟨_,_,rfl,rfl,h⟩
 . exact h.elim
theorem LS:QZ X (binaryOp .Mult) (λx y k=>∃i j,x=.int i/\y=.int j/\(cT i/\cT j)/\k (.d (.int (i*j)))):=zV Jd (gd:=λi j=>.int (i*j)) λ_ _ _ _=>.int _
def bM:QY:=λx y k=>match x,y with
 |.int i,.int j=>cT i/\cT j/\k (.d (.int (i*j)))
 |_,_=>False
theorem br:QZ X (binaryOp .Mult) bM:=LS.imp λx y k h=>by
 unfold bM at h;split at h
 . exact⟨_,_,rfl,rfl,⟨h.1,h.2.1⟩,h.2.2⟩
 . exact h.elim
theorem t8:QZ X (binaryOp .FloorDiv) uH:=(zV Je (gd:=λi j=>.int (i.fdiv j)) λ_ _ _ _=>.int _).imp λx y k h=>by
 unfold uH at h;split at h
 . exact⟨_,_,rfl,rfl,⟨h.1,h.2.1⟩,h.2.2⟩
 . exact h.elim
theorem fG:QZ X (binaryOp .Mod) iT:=(zV Iz (gd:=λi j=>.int (i.fmod j)) λ_ _ _ _=>.int _).imp λx y k h=>by
 unfold iT at h;split at h
 . exact⟨_,_,rfl,rfl,h.1,h.2⟩
 . exact h.elim
theorem CT:QZ X (binaryOp .Pow) Bq:=(zV Lo (gd:=λi j=>.int (i^j.toNat)) λ_ _ _ _=>.int _).imp λx y k h=>by
 unfold Bq at h;split at h
 . exact⟨_,_,rfl,rfl,⟨h.1,h.2.1,h.2.2.1⟩,h.2.2.2⟩
 . exact h.elim
theorem m9:QZ X (compareOp .Lt) uI:=(uJ Lr (gd:=λi j=>.bl (decide (i<j))) λ_ _ _ _=>.bl _).imp λx y k h=>by
 unfold uI at h;split at h
 . exact⟨_,_,rfl,rfl,h⟩
 . exact h.elim
theorem LU:QZ X (compareOp .Gt) LQ:=(uJ NW (gd:=λi j=>.bl (decide (j<i))) λ_ _ _ _=>.bl _).imp λx y k h=>by
 unfold LQ at h;split at h
 . exact⟨_,_,rfl,rfl,h⟩
 . exact h.elim
theorem LV:QZ X (compareOp .GtE) LR:=(uJ NX (gd:=λi j=>.bl (decide (j<=i))) λ_ _ _ _=>.bl _).imp λx y k h=>by
 unfold LR at h;split at h
 . exact⟨_,_,rfl,rfl,h⟩
 . exact h.elim
mutual
noncomputable def Q9:D->PyData
 |.non=>.none
 |.bl b=>.bool b
 |.int i=>.int i
 |.str x=>.str x
 |.tup xs=>.tuple (ff xs)
 |.lst xs=>.list (ff xs)
 |.dct _=>.dict []
 |.exc _ _ _=>.dict []
 |.fn _ _=>.dict []
noncomputable def ff:List D->List PyData
 |[]=>[]
 |x::xs=>Q9 x::ff xs
end
noncomputable def Ra(x y:D):Bool:=PyData.eqv (Q9 x) (Q9 y)
def fH(x:D):Prop:=SeqAt.shaped (Q9 x)=true
def vR:QY:=λx y k=>fH x/\fH y/\k (.d (.bl (Ra x y)))
def uK:QY:=λx y k=>fH x/\fH y/\k (.d (.bl (!Ra x y)))
mutual
theorem kY{gV:List (Addr×Obj)}{σ:St}{H:Hp}{s:Shared}(I:Qi X gV σ H s):∀(d:D)(x:V)(u:Value),cu x u->QU X.K H x d->(Q9 d).canLay0=true->∃as,Reads s.heap u (Q9 d) as
 |.non,_,_,rv,r,_=>by cases r;cases rv;exact⟨_,.none⟩
 |.bl b,_,_,rv,r,_=>by cases r;cases rv;exact⟨_,.bool b⟩
 |.int i,_,_,rv,r,_=>by cases r;obtain⟨t,rfl⟩:=rv;exact⟨_,.int i t⟩
 |.str z,_,_,rv,r,_=>by cases r;obtain⟨t,rfl⟩:=rv;exact⟨_,.str z t⟩
 | .tup xs,_,_,rv,r,hc=>by
  cases r with
  | tup h rs =>
   cases rv
   obtain⟨its,vs,⟨o,e,c,n,d⟩,_⟩:=I.tuple h
   obtain⟨as,ra⟩:=l8 I xs _ _ vs rs hc
   exact⟨_,.tuple (xs:=ff xs) e c d (by simpa using ra)⟩
 | .lst xs,_,_,rv,r,hc=>by
  cases r with
  | lst h rs =>
   cases rv
   obtain⟨its,vs,⟨o,n,e,c,_,d⟩,_⟩:=I.list h.l
   obtain⟨as,ra⟩:=l8 I xs _ _ vs rs hc
   exact⟨_,.list (xs:=ff xs) e c d (by simpa using ra)⟩
 |.dct _,_,_,_,_,hc=>nomatch hc
 |.exc _ _ _,_,_,_,_,hc=>nomatch hc
 |.fn _ _,_,_,_,_,hc=>nomatch hc
theorem l8{gV:List (Addr×Obj)}{σ:St}{H:Hp}{s:Shared}(I:Qi X gV σ H s):∀(ds:List D)(vs:List V)(us:List Value),bT vs us->bJ X.K H vs ds->PyData.canLayAll0 (ff ds)=true->∃as,ReadsAll s.heap us (ff ds) as
 |[],_,_,rv,r,_=>by cases r;cases rv;exact⟨_,.nil⟩
 | d::ds,_,_,rv,r,hc=>by
  have hc':(Q9 d).canLay0=true/\PyData.canLayAll0 (ff ds)=true:=by simpa[ff,PyData.canLayAll0]using hc
  cases r with
  | cons r0 rs =>
   cases rv with
   | cons v0 vs =>
    obtain⟨as,ra⟩:=kY I d _ _ v0 r0 hc'.1
    obtain⟨bs,rb⟩:=l8 I ds _ _ vs rs hc'.2
    exact⟨_,.cons ra rb⟩
end
theorem lu(hu:X.A.units+64<cLine):QZ X (compareOp .Eq) vR:=by intro gV s σ H Pr Z x y v u dx dy so I rx ry E px py ⟨h1,h2,ho⟩;obtain⟨as,ra⟩:=kY I dx x v rx px (SeqAt.canLay_of_shaped h1);obtain⟨bs,rb⟩:=kY I dy y u ry py (SeqAt.canLay_of_shaped h2);exact eq_dataH ra rb h1 h2 hu ⟨.bl _,H,_,I,rfl,E.cons_d (.bl _),ho⟩
theorem l9(hu:X.A.units+64<cLine):QZ X (compareOp .NotEq) uK:=by intro gV s σ H Pr Z x y v u dx dy so I rx ry E px py ⟨h1,h2,ho⟩;obtain⟨as,ra⟩:=kY I dx x v rx px (SeqAt.canLay_of_shaped h1);obtain⟨bs,rb⟩:=kY I dy y u ry py (SeqAt.canLay_of_shaped h2);exact ne_dataH ra rb h1 h2 hu ⟨.bl _,H,_,I,rfl,E.cons_d (.bl _),ho⟩
theorem LW:QZ X (compareOp .Is) (λx y k=>y=.non/\k (.d (.bl (match x with | .non=>true|_=>false)))):=QZ.of Ls λσ H Pr Z x y dx dy so E px py ⟨e,h⟩=>by subst e;cases py;refine⟨rfl,_,E.cons_d (.bl _),?_⟩;cases px<;>exact h
theorem Jj:QZ X (compareOp .IsNot) (λx y k=>y=.non/\k (.d (.bl (match x with | .non=>false|_=>true)))):=QZ.of IG λσ H Pr Z x y dx dy so E px py ⟨e,h⟩=>by subst e;cases py;refine⟨rfl,_,E.cons_d (.bl _),?_⟩;cases px<;>exact h
def aJ:QY:=λx y k=>match x,y with
 |.lst xs,.int i=>∃v,QH xs i=some v/\k (.d v)
 |.tup xs,.int i=>∃v,QH xs i=some v/\k (.d v)
 |.str z,.int i=>z.length<=sizeLine/\∃c,QH z.cps.toList i=some c/\k (.d (.str ⟨#[c]⟩))
 |_,_=>False
theorem yr{K:PySem.W.Frag}{H:Hp}{vs:List V}{xs:List D}(r:bJ K H vs xs){i:Int}{x:D}(h:QH xs i=some x):∃v,QH vs i=some v/\QU K H v x:=by
 unfold QH at h ⊢;rw[r.length]
 cases q:QG xs.length i with
 |none=>rw[q]at h;cases h
 | some j =>
  rw[q]at h;exact r.get h
theorem Jk{x y:D}{k:L->Prop}(h:aJ x y k):∃i,y=.int i/\((∃xs,x=.lst xs/\∃v,QH xs i=some v/\k (.d v))∨(∃xs,x=.tup xs/\∃v,QH xs i=some v/\k (.d v))∨∃z,x=.str z/\z.length<=sizeLine/\∃c,QH z.cps.toList i=some c/\k (.d (.str ⟨#[c]⟩))):=by
 unfold aJ at h;split at h
 . exact⟨_,rfl,.inl ⟨_,rfl,h⟩⟩
 . exact⟨_,rfl,.inr (.inl ⟨_,rfl,h⟩)⟩
 . exact⟨_,rfl,.inr (.inr ⟨_,rfl,h⟩)⟩
 . exact h.elim
theorem au(ha:PL X a ta)(hb:PL X b tb)(hs:yj b):PL X (.Subscript a b pos) (av aJ ta tb):=by
 intro gV s σ H Pr Z so I E h;refine Subscript_ (two (R:=λdx dy Z2=>aJ dx dy λr=>so r Z2) ha hb I E h λv u s2 x y H2 dx dy Z2 I2 r1 r2 E2 p1 p2 q=>?_);have Qm:∀(Q:VK),(∀z H',Q z H'->∃r,aA X.K Pr H' (some z::σ) (r::Z2)/\so r Z2)->∀w s',EP X gV σ Q w s'->EL X gV σ Pr so w s':=λQ hQ w s' ⟨z,H',I',rz,q⟩=>by obtain⟨r,E',p⟩:=hQ z H' q;exact⟨z,H',r,Z2,I',rz,E',p⟩
 have Eσ:=E2.tail.tail;obtain⟨i,rfl,⟨xs,rfl,z,hz',q⟩|⟨xs,rfl,z,hz',q⟩|⟨z,rfl,hz,c,hc,q⟩⟩:=Jk q
 .
  cases p2
  cases p1 with
  | lst hz rs =>
   obtain⟨w,hw,rw⟩:=yr rs hz';exact Qk (CB a b gV s2 σ H2 _ _ v u (λz H'=>z=w/\H'=H2) I2 r1 r2 ⟨_,_,i,w,rfl,rfl,hz.l,hw,rfl,rfl⟩ (hs _ _)) (Qm _ λz H' ⟨e1,e2⟩=>by subst e1 e2;exact⟨_,Eσ.cons_d rw,q⟩)
 .
  cases p2
  cases p1 with
  | tup hz rs =>
   obtain⟨w,hw,rw⟩:=yr rs hz';exact Qk (Lw a b gV s2 σ H2 _ _ v u (λz H'=>z=w/\H'=H2) I2 r1 r2 ⟨_,_,i,w,rfl,rfl,hz,hw,rfl,rfl⟩ (hs _ _)) (Qm _ λz H' ⟨e1,e2⟩=>by subst e1 e2;exact⟨_,Eσ.cons_d rw,q⟩)
 . cases p2;cases p1;exact Qk (Lx a b gV s2 σ H2 _ _ v u (λz H'=>z=.str ⟨#[c]⟩/\H'=H2) I2 r1 r2 ⟨z,i,c,rfl,rfl,hz,hc,rfl,rfl⟩ (hs _ _)) (Qm _ λz H' ⟨e1,e2⟩=>by subst e1 e2;exact⟨_,Eσ.cons_d (.str _),q⟩)
end
section
variable{X:Cx}{e a b c:Expr}{es:List Expr}{pos p:Pos}{ta:W L}{x:Str}{bs:List (Option Nat)}{t:W (List L)}{id T:String}
abbrev Rb:=List D->(L->Prop)->Prop
def gi(X:Cx)(f:Value)(op:Rb):Prop :=
 ∀(gV:List (Addr×Obj))(s:Shared)(σ:St)(H Pr:Hp)(Z:Ev)(vs:List V)(us:List Value)(ds:List D)(so:L->Prop),Qi X gV σ H s->bT vs us->aA X.K Pr H σ Z->bJ X.K H vs ds->op ds so ->
  wpAny (model X.prog X.w) X.A (call f us) (λw s'=>∃z H' r,Qi X gV σ H' s'/\cu z w/\aA X.K Pr H' (some z::σ) (r::Z)/\so r) X.xe s
theorem gi.of{f:Value}{r:List V->Hp->VK->Prop}{op:Rb}(h:jP X f r)(q:∀σ H Pr Z vs ds so,aA X.K Pr H σ Z->bJ X.K H vs ds->op ds so->r vs H λz H'=>∃r,aA X.K Pr H' (some z::σ) (r::Z)/\so r):gi X f op :=
 λgV s σ H Pr Z vs us ds so I rv E ps ho=>Qk (h gV s σ H vs us _ I rv (q σ H Pr Z vs ds so E ps ho)) λw s' ⟨z,H',I',rz,r,E',p⟩=>⟨z,H',r,I',rz,E',p⟩
def bq(op:Rb)(t:W (List L)):W L:=λZ so=>t Z λls Z1=>FL ls λds=>op ds λr=>so r Z1
theorem aQ(hc:gi X (.builtin id) op)(hg:Gl X x)(hm:X.mg x=none)(hv:bootBuiltins x=some (.builtin id))(ha:QV X (e::es) bs t) (hn:x≠"__name__":=by decide) (hdb:(x == ("__debug__" : Str))=false:=by decide)
  (he:starEach (e::es) X.env=(false,eval e X.env)::starEach es X.env:=by rfl) (hpl:(backTo pos (starEach es X.env)).any (·.1)=false:=by rfl):PL X (.Call (.Name x p) (e::es) [] pos) (bq op t):=by
 intro gV s σ H Pr Z so I E h;refine V2 (jw I hg hm hv ?_ hn hdb);refine PyProof.Rows.callWith_builtin1 (Qk (ha pos gV s σ H Pr Z _ I E h) λus s1 ⟨vs,H1,ls,Z1,I1,r1,hl,hb,E1,_,q1⟩=>?_) he hpl;obtain⟨ds,rfl,q2⟩:=jV q1;have p4:vs.length=ds.length:=by simpa using hl
 exact Qk (hc gV s1 σ H1 Pr Z1 vs us ds _ I1 r1 (E1.drop (by simp[p4])) (jW p4 E1) q2) λw s2 ⟨z,H2,r,I2,rz,E2,q⟩=>⟨z,H2,r,Z1,I2,rz,E2,q⟩
theorem jY(hc:gi X (.type T) op)(hg:Gl X x)(hm:X.mg x=none)(hv:bootBuiltins x=some (.type T))(ha:QV X (e::es) bs t) (hn:x≠"__name__":=by decide) (hdb:(x == ("__debug__" : Str))=false:=by decide)
  (he:starEach (e::es) X.env=(false,eval e X.env)::starEach es X.env:=by rfl) (hpl:(backTo pos (starEach es X.env)).any (·.1)=false:=by rfl):PL X (.Call (.Name x p) (e::es) [] pos) (bq op t):=by
 intro gV s σ H Pr Z so I E h;refine V2 (jw I hg hm hv ?_ hn hdb);refine VV (Qk (ha pos gV s σ H Pr Z _ I E h) λus s1 ⟨vs,H1,ls,Z1,I1,r1,hl,hb,E1,_,q1⟩=>?_) he hpl;obtain⟨ds,rfl,q2⟩:=jV q1;have p4:vs.length=ds.length:=by simpa using hl
 exact Qk (hc gV s1 σ H1 Pr Z1 vs us ds _ I1 r1 (E1.drop (by simp[p4])) (jW p4 E1) q2) λw s2 ⟨z,H2,r,I2,rz,E2,q⟩=>⟨z,H2,r,Z1,I2,rz,E2,q⟩
def dX:Rb:=λds k=>match ds with
 |[.lst xs]=>k (.d (.int xs.length))
 |[.tup xs]=>k (.d (.int xs.length))
 |[.str x]=>x.length<=sizeLine/\k (.d (.int x.length))
 |_=>False
theorem oA{K:PySem.W.Frag}{H:Hp}{vs:List V}{d:D}(r:bJ K H vs [d]):∃v,vs=[v]/\QU K H v d:=by
 cases r with
 |cons h t=>cases t;exact⟨_,rfl,h⟩
theorem LX{K:PySem.W.Frag}{H:Hp}{vs:List V}{d d':D}(r:bJ K H vs [d,d']):∃v w,vs=[v,w]/\QU K H v d/\QU K H w d':=by
 cases r with
 | cons h t=>cases t with
  |cons h' t=>cases t;exact⟨_,_,rfl,h,h'⟩
theorem eY:gi X (.builtin "len") dX:=gi.of (pE.or v8) λσ H Pr Z vs ds so E ps h=>by
 unfold dX at h;split at h
 .
  obtain⟨v,rfl,r⟩:=oA ps
  cases r with
  |lst hz rs=>exact .inl ⟨_,_,rfl,.inl hz.l,_,E.cons_d (.int _),by rw[rs.length];exact h⟩
 .
  obtain⟨v,rfl,r⟩:=oA ps
  cases r with
  |tup hz rs=>exact .inl ⟨_,_,rfl,.inr hz,_,E.cons_d (.int _),by rw[rs.length];exact h⟩
 .
  obtain⟨v,rfl,r⟩:=oA ps
  cases r with
  |str z=>exact .inr ⟨_,rfl,h.1,_,E.cons_d (.int _),h.2⟩
 . exact h.elim
def Br:Rb:=λds k=>match ds with
 |[.int i]=>k (.d (.int (if i<0 then -i else i)))
 |_=>False
theorem CU:gi X (.builtin "abs") Br:=gi.of Fp λσ H Pr Z vs ds so E ps h=>by
 unfold Br at h;split at h
 .
  obtain⟨v,rfl,r⟩:=oA ps
  cases r with
  |int i=>exact⟨_,rfl,_,E.cons_d (.int _),h⟩
 . exact h.elim
def CV:Rb:=λds k=>match ds with
 |[.int i,.int j]=>k (.d (.int (if j > i then j else i)))
 |_=>False
def Bs:Rb:=λds k=>match ds with
 |[.int i,.int j]=>k (.d (.int (if j<i then j else i)))
 |_=>False
theorem HL(hc:X.calm=true):gi X (.builtin "max") CV:=gi.of (Cs hc) λσ H Pr Z vs ds so E ps h=>by
 unfold CV at h;split at h
 .
  obtain⟨v,w,rfl,r,r'⟩:=LX ps
  cases r with
  | int i=>cases r' with
   |int j=>exact⟨_,_,rfl,_,E.cons_d (.int _),h⟩
 . exact h.elim
theorem CW(hc:X.calm=true):gi X (.builtin "min") Bs:=gi.of (Ct hc) λσ H Pr Z vs ds so E ps h=>by
 unfold Bs at h;split at h
 .
  obtain⟨v,w,rfl,r,r'⟩:=LX ps
  cases r with
  | int i=>cases r' with
   |int j=>exact⟨_,_,rfl,_,E.cons_d (.int _),h⟩
 . exact h.elim
def CY:Rb:=λds k=>match ds with
 |[.int i]=>k (.d (.int i))
 |[.bl b]=>k (.d (.int (if b then 1 else 0)))
 |_=>False
theorem HM:gi X (.type "int") CY:=gi.of Cu λσ H Pr Z vs ds so E ps h=>by
 unfold CY at h;split at h
 .
  obtain⟨v,rfl,r⟩:=oA ps
  cases r with
  |int i=>exact .inl ⟨_,rfl,_,E.cons_d (.int _),h⟩
 .
  obtain⟨v,rfl,r⟩:=oA ps
  cases r with
  |bl i=>exact .inr ⟨_,rfl,_,E.cons_d (.int _),h⟩
 . exact h.elim
def wz:Rb:=λds k=>match ds with
 |[.lst xs]=>∀a,k (.own a xs)
 |[.tup xs]=>∀a,k (.own a xs)
 |_=>False
theorem CZ:gi X (.type "list") wz:=gi.of v9 λσ H Pr Z vs ds so E ps h=>by
 unfold wz at h;split at h
 .
  obtain⟨v,rfl,r⟩:=oA ps
  cases r with
  |lst hz rs=>exact⟨_,_,rfl,.inl hz.l,λl hl=>⟨_,E.cons_own hl rs,h l⟩⟩
 .
  obtain⟨v,rfl,r⟩:=oA ps
  cases r with
  |tup hz rs=>exact⟨_,_,rfl,.inr hz,λl hl=>⟨_,E.cons_own hl rs,h l⟩⟩
 . exact h.elim
def uL:Rb:=λds k=>match ds with
 |[.lst xs]=>k (.d (.tup xs))
 |[.tup xs]=>k (.d (.tup xs))
 |_=>False
theorem FP:gi X (.type "tuple") uL:=gi.of uA λσ H Pr Z vs ds so E ps h=>by
 unfold uL at h;split at h
 .
  obtain⟨v,rfl,r⟩:=oA ps
  cases r with
  |lst hz rs=>exact⟨_,_,rfl,.inl ⟨hz.l,λl hl=>⟨_,E.cons_tup hl rs,h⟩⟩⟩
 .
  obtain⟨v,rfl,r⟩:=oA ps
  cases r with
  |tup hz rs=>exact⟨_,_,rfl,.inr ⟨hz,_,E.cons_d (.tup hz rs),h⟩⟩
 . exact h.elim
noncomputable def Rc:D->Value
 |.non=>.type "NoneType"
 |.bl _=>.type "bool"
 |.int _=>.type "int"
 |.str _=>.type "str"
 |.tup _=>.type "tuple"
 |.lst _=>.type "list"
 |.dct _=>.type "dict"
 |.exc _ _ _=>.none
 |.fn _ _=>.type "function"
def Re(K:PySem.W.Frag)(d:D)(t:Value):Prop:=match d with
 |.exc c _ _=>∃C,t=.ref C/\jS K c C=true
 |d=>t=Rc d
theorem FQ{gV:List (Addr×Obj)}{σ:St}{H:Hp}{s:Shared}{a:Addr}{o:Obj}{u:HO}{C:Addr}{ns:List Str}{vs:List V}(I:Qi X gV σ H s)(h:H a=some (.frz o u))(hc:o.cls=.ref C)(hn:PySem.W.notCls o=true)(hf:XF H o.dict ns vs):∃od,PySem.W.InstAt s.heap a o C od/\∀d,o.dict=some d->∃q,od=some q/\s.heap.get? d=some q:=by
 have e:=(show s.heap.get? a=some o/\_ from I.hok a _ h).1;rcases hf with⟨_,_,z⟩|⟨d,od,z,h2,_⟩
 . exact⟨none,⟨e,hc,hn,by rw[z];trivial⟩,λd q=>by rw[z]at q;cases q⟩
 . have e2:=(show s.heap.get? d=some od/\_ from I.hok d _ h2).1;exact⟨some od,⟨e,hc,hn,by rw[z];exact e2⟩,λd' q=>by rw[z]at q;cases q;exact⟨od,rfl,e2⟩⟩
theorem FR{gV:List (Addr×Obj)}{σ:St}{H:Hp}{s:Shared}{x:V}{u c:Value}{d:D}{b:Bool}{Q:Value->Shared->Prop}{A:Around}{E:Value->Shared->Prop}(I:Qi X gV σ H s)(rx:cu x u)(r:QU X.K H x d)(e:∀t,Re X.K d t->PySem.W.kitOne X.K t c=some b)(h:∀tk,Q (.bool b) {s with toks:=tk}) :
  wpAny (model X.prog X.w) A (call (.builtin "isinstance") [u,c]) Q E s:=by
 cases r with
 |non=>cases rx;exact Wt PySem.W.kitx_none I.kIn True.intro (e _ rfl) (λz=>nomatch z) h
 |bl y=>cases rx;exact Wt PySem.W.kitx_bool I.kIn True.intro (e _ rfl) (λz=>nomatch z) h
 |int i=>obtain⟨t,rfl⟩:=rx;exact Wt PySem.W.kitx_int I.kIn True.intro (e _ rfl) (λz=>nomatch z) h
 |str y=>obtain⟨t,rfl⟩:=rx;exact Wt PySem.W.kitx_str I.kIn True.intro (e _ rfl) (λz=>nomatch z) h
 | lst hz rs =>
  cases rx;obtain⟨its,_,⟨o,n,e1,c1,_,_⟩,_⟩:=I.list hz.l;exact Wt PySem.W.kitx_list I.kIn ⟨o,e1,c1⟩ (e _ rfl) (λz=>nomatch z) h
 | tup hz rs =>
  cases rx;obtain⟨its,_,⟨o,e1,c1,_⟩,_⟩:=I.tuple hz;exact Wt PySem.W.kitx_tuple I.kIn ⟨o,e1,c1⟩ (e _ rfl) (λz=>nomatch z) h
 | @dct a o kvs hz =>
  cases rx;obtain⟨_,_,_,vs,_,o',es,ep,h1,h2,_⟩:=(show d6 X.prog X.w H s.heap a (.frz o (.dK kvs))from I.hok a _ hz);exact Wt PySem.W.kitx_dict I.kIn ⟨o',h1,h2.1⟩ (e _ rfl) (λz=>nomatch z) h
 | @exc a o u cc C ns vs ds h1 hv hc hn hs hq hf rs =>
  cases rx;obtain⟨od,Ia,_⟩:=FQ I h1 hc hn hf;obtain⟨LL,cd,S⟩:=jT hs;exact Wt (FD S) I.kIn ⟨_,_,Ia⟩ (e _ ⟨C,rfl,hs⟩) (λz=>nomatch z) h
 | fn hl hf hq hc hz hd hv hm r =>
  cases rx;exact Wt IR I.kIn ⟨_,(I.hok _ _ hf).1,rfl⟩ (e _ rfl) (λz=>nomatch z) h
noncomputable def ng(T:String):D->Bool
 |.non=>T == "NoneType"
 |.bl _=>T == "bool" ||T == "int"
 |.int _=>T == "int"
 |.str _=>T == "str"
 |.tup _=>T == "tuple"
 |.lst _=>T == "list"
 |.dct _=>T == "dict"
 |.exc _ _ _=>(["ValueError","Exception","BaseException","object"]:List String).contains T
 |.fn _ _=>T == "function"
def p5(T:String):D->(L->Prop)->Prop:=λd k=>k (.d (.bl (ng T d)))
theorem pH{T:String}{y:Str}{py:Pos}(hT:∀ K d t,Re K d t->PySem.W.kitOne K t (.type T)=some (ng T d)) (hg:Gl X "isinstance") (hm:X.mg "isinstance"=none) (hy:Gl X y) (hmy:X.mg y=none) (hby:bootBuiltins y=some (.type T)) (ha:PL X a ta)
  (hny:y≠"__name__":=by decide) (hdy:(y == ("__debug__" : Str))=false:=by decide)
  (h1:starEach [a,.Name y py] X.env=(false,eval a X.env)::starEach [.Name y py] X.env:=by rfl) (h2:starEach [.Name y py] X.env=[(false,eval (.Name y py) X.env)]:=by rfl) (hpl:(backTo pos (starEach [.Name y py] X.env)).any (·.1)=false:=by rfl) :
  PL X (.Call (.Name "isinstance" p) [a,.Name y py] [] pos) (Q3 (p5 T) ta):=by
 have cr:jP X (.builtin "isinstance") (λxs H Q=>∃ x d,xs=[x,.ty T]/\QU X.K H x d/\Q (.bl (ng T d)) H):=by intro gV s σ H xs us Q I rv h;obtain⟨x,d,rfl,r,q⟩:=h;obtain⟨u,w,rfl,r1,r2⟩:=Fo rv;cases r2;exact FR I r1 r (hT _ d) λtk=>⟨.bl _,H,I.tok _,rfl,q⟩
 refine PL.of (zT cr hg hm y_ (c9 (ay ha).pe (c9 (Iu hy hmy hby (v:=.ty T) rfl hny hdy) lD h2) h1) (he:=h1) (hpl:=hpl)) λσ H Pr Z so E h=>?_
 refine⟨Pr,Z,λr Z1=>match r with
  |.d x=>p5 T x λr=>so r Z1
  |_=>False,E,h,λv H' r Z' E' p=>?_⟩
 cases r with
 | d x =>
  obtain⟨_,e1,p1⟩:=E'.head_d;cases e1;exact⟨_,x,rfl,p1,_,Z',E'.tail.cons_d (.bl _),p⟩
 |_=>exact p.elim
end
section
variable{X:Cx}{e a b:Expr}{pos p apos cpos:Pos}{tb te:W L}{x:Str}
theorem aA.updOwn{K:PySem.W.Frag}{Pr H:Hp}{σ:St}{Z:Ev}{i:Nat}{l:Addr}{xs ys:List D}{vs:List V}(E:aA K Pr H σ Z)(q:Z[i]?=some (.own l xs))(r:bJ K H vs ys):aA K Pr (Qa H l (.lst vs)) σ (Z.set i (.own l ys)):=by obtain⟨sv,hs,rfl,_⟩:=E.slot q;have hi:i<Z.length:=(U1.mp q).1;have E1:=(E.out q).write r;have E2:=E1.back (i:=i) (by simp[hi]) hs;rw[WK]at E2;exact E2
theorem aA.ownAt{K:PySem.W.Frag}{Pr H:Hp}{σ:St}{Z:Ev}{i:Nat}{l:Addr}{xs:List D}(E:aA K Pr H σ Z)(q:Z[i]?=some (.own l xs)):σ[i]?=some (some (.ref l))/\∃vs,H l=some (.lst vs)/\bJ K H vs xs:=by obtain⟨sv,hs,rfl,r⟩:=E.slot q;exact⟨hs,r⟩
def wB(i:Nat)(Z:Ev)(k:Addr->List D->Prop):Prop:=match Z[i]? with
 |some (.own a xs)=>k a xs
 |_=>False
theorem hU{i:Nat}{Z:Ev}{k:Addr->List D->Prop}(h:wB i Z k):∃a xs,Z[i]?=some (.own a xs)/\k a xs:=by
 unfold wB at h
 cases q:Z[i]? with
 |none=>rw[q]at h;exact h.elim
 | some l =>
  rw[q]at h
  cases l with
  |own a xs=>exact⟨a,xs,rfl,h⟩
  |un=>exact h.elim
  |d x=>exact h.elim
  |bx _ _=>exact h.elim
  |dic _ _=>exact h.elim
def Jl(i:Nat)(te:W L):W L:=λZ so=>wB i Z λ_ _=>te Z λr Z1=>QX r λy=>wB i Z1 λa xs=>xs.length<sizeLine/\so (.d .non) (Z1.set i (.own a (xs++[y])))
theorem jZ(i:Nat)(he:PL X e te)(hN:X.N[i]?=some x:=by rfl)(hv:Qg X.env.scope x:=by first | exact Or.inl rfl | exact Or.inr (Or.inl rfl) | exact Or.inr (Or.inr rfl)) (hd:(x == ("__debug__" : Str))=false:=by decide)
  (hcd:(x == ("__classdict__" : Str))=false:=by decide) (hs1:starEach [e] X.env=[(false,eval e X.env)]:=by rfl) (hbase:attributeBase (.Name x p) "append" X.env (eval (.Name x p) X.env)=eval (.Name x p) X.env:=by rfl)
  (hfew:((backTo cpos (starEach [e] X.env)).all (λx=>!x.1) && (backToKw cpos (keywordEach [] X.env)).all (λx=>x.1.isSome)
   && decide (([e]).length+([]:List Keyword).length+(if([]:List Keyword).isEmpty then 0 else 1)<30))=true:=by rfl)
  (hline:(apos.endLine == cpos.line)=true:=by rfl) (hplain:(backTo cpos (starEach ([]:List Expr) X.env)).any (·.1)=false:=by rfl) :
  PL X (.Call (.Attribute (.Name x p) "append" apos) [e] [] cpos) (Jl i te):=by
 refine PL.of (LA PySem.F.plainAttrs_list PySem.F.slot_list_append PySem.F.type_list_append wd (gJ hN hv hd hcd) (c9 (ay he).pe lD hs1) (hbase:=hbase) (hfew:=hfew) (hline:=hline) (hs:=hs1) (hplain:=hplain)) λσ H Pr Z so E h=>?_;obtain⟨l,xs0,q0,h⟩:=hU h;obtain⟨hσ,vs0,hl0,_⟩:=E.ownAt q0
 refine⟨.ref l,hσ,.inl ⟨rfl,vs0,Qn.of hl0⟩,Pr,Z,λr Z1=>match r with
  |.d y=>wB i Z1 λa xs=>xs.length<sizeLine/\so (.d .non) (Z1.set i (.own a (xs++[y])))
  |_=>False,E,h,λv H' r Z' E' pp=>?_⟩
 cases r with
 | d y =>
  obtain⟨l',xs,q,p4,pp⟩:=hU pp;obtain⟨hσ',vs,hl,r⟩:=E'.tail.ownAt q;rw[hσ]at hσ';cases hσ';obtain⟨_,e1,p1⟩:=E'.head_d;cases e1;exact⟨l,vs,v,rfl,rfl,hl,by rw[r.length];exact p4,_,_,(E'.tail.updOwn q (r.append (.cons p1 .nil))).cons_d .non,pp⟩
 |_=>exact pp.elim
def wD(i:Nat)(tb:W L):W L:=λZ so=>wB i Z λ_ _=>tb Z λr Z1=>m7 r λj=>wB i Z1 λ_ xs=>∃y,QH xs j=some y/\so (.d y) Z1
theorem gj(i:Nat)(hb:PL X b tb)(hs:yj b)(hN:X.N[i]?=some x:=by rfl)(hv:Qg X.env.scope x:=by first | exact Or.inl rfl | exact Or.inr (Or.inl rfl) | exact Or.inr (Or.inr rfl)) (hd:(x == ("__debug__" : Str))=false:=by decide)
  (hcd:(x == ("__classdict__" : Str))=false:=by decide):PL X (.Subscript (.Name x p) b pos) (wD i tb):=by
 refine PL.of (N0 CB (gJ hN hv hd hcd) hb.pe hs) λσ H Pr Z so E h=>?_;obtain⟨l,xs0,q0,h⟩:=hU h;obtain⟨hσ,vs0,hl0,_⟩:=E.ownAt q0;refine⟨.ref l,hσ,Pr,Z,_,E,h,λv H' r Z' E' pp=>?_⟩;obtain⟨j,rfl,pp⟩:=dG pp;obtain⟨l',xs,q,y,hy,pp⟩:=hU pp;obtain⟨hσ',vs,hl,r⟩:=E'.tail.ownAt q;rw[hσ]at hσ';cases hσ';obtain⟨_,e1,p1⟩:=E'.head_d;cases e1;cases p1;obtain⟨w,hw,rw⟩:=yr r hy;exact⟨l,vs,j,w,rfl,rfl,Qn.of hl,hw,_,Z',E'.tail.cons_d rw,pp⟩
def Jm(i:Nat):W L:=λZ so=>wB i Z λ_ xs=>so (.d (.int xs.length)) Z
theorem Jn(i:Nat) (hg:Gl X "len") (hm:X.mg "len"=none) (hN:X.N[i]?=some x:=by rfl) (hv:Qg X.env.scope x:=by first | exact Or.inl rfl | exact Or.inr (Or.inl rfl) | exact Or.inr (Or.inr rfl)) (hd:(x == ("__debug__" : Str))=false:=by decide)
  (hcd:(x == ("__classdict__" : Str))=false:=by decide) (h1:starEach [.Name x p] X.env=[(false,eval (.Name x p) X.env)]:=by rfl) (hpl:(backTo pos (starEach ([]:List Expr) X.env)).any (·.1)=false:=by rfl) :
  PL X (.Call (.Name "len" apos) [.Name x p] [] pos) (Jm i):=by
 refine PL.of (zT pE hg hm PySem.boot_len (c9 (gJ hN hv hd hcd) lD h1) (he:=h1) (hpl:=hpl)) λσ H Pr Z so E h=>?_;obtain⟨l,xs0,q0,h⟩:=hU h;obtain⟨hσ,vs0,hl0,r⟩:=E.ownAt q0;exact⟨.ref l,hσ,l,vs0,rfl,.inl (Qn.of hl0),_,Z,E.cons_d (.int _),by rw[r.length];exact h⟩
def tE(i:Nat)(tb te:W L):W Fl:=λZ so=>te Z λr Z1=>QX r λy=>wB i Z1 λ_ _=>tb Z1 λr Z2=>m7 r λj=>wB i Z2 λa xs=>∃k,QG xs.length j=some k/\so .nx (Z2.set i (.own a (xs.set k y)))
theorem j2(i:Nat){b:Expr}{ps:Pos}(hb:PL X b tb)(he:PL X e te)(hN:X.N[i]?=some x:=by rfl)(hv:Qg X.env.scope x:=by first | exact Or.inl rfl | exact Or.inr (Or.inl rfl) | exact Or.inr (Or.inr rfl)) (hd:(x == ("__debug__" : Str))=false:=by decide)
  (hcd:(x == ("__classdict__" : Str))=false:=by decide)
  (ha:∀v,assign (.Subscript (.Name x p) b ps) X.env v=(do
   let ov <- holding [v] (eval (.Name x p) X.env)
   let iv <- holding [v,ov] (eval b X.env)
   standAt ps
   holding [v,ov,iv] (setItem ov iv v)
   release [v,ov,iv] []):=by intro _;rfl)
  (hs:swapsWithSole [.Subscript (.Name x p) b ps] e pos.line X.env=pure false:=by rfl) (hw:swappedStores [.Subscript (.Name x p) b ps] e X.env=pure none:=by rfl)
  (h1:(assignEach [.Subscript (.Name x p) b ps] X.env).map (·.2)=[assign (.Subscript (.Name x p) b ps) X.env]:=by rfl):PM X (.Assign [.Subscript (.Name x p) b ps] e pos) (tE i tb te):=by
 refine PM.of (Li (ay he).pe (Lh (gJ hN hv hd hcd) hb.pe Ft ha) hs hw h1) λσ H Pr Z so p4 E h=>?_
 refine⟨Pr,Z,λr Z1=>match r with
  |.d y=>wB i Z1 λ_ _=>tb Z1 λr Z2=>m7 r λj=>wB i Z2 λa xs=>∃k,QG xs.length j=some k/\so .nx (Z2.set i (.own a (xs.set k y)))
  |_=>False,E,h,λv H' r Z' E' pp=>?_⟩
 cases r with
 | d y =>
  obtain⟨l,xs0,q0,pp⟩:=hU pp;obtain⟨hσ,vs0,hl0,_⟩:=E'.tail.ownAt q0;refine⟨.ref l,hσ,bE H' Z',Z',_,E'.tail.wide,pp,λw H2 r2 Z2 E2 pp=>?_⟩;obtain⟨j,rfl,pp⟩:=dG pp;obtain⟨l',xs,q,k,hk,pp⟩:=hU pp;obtain⟨_,e1,p1⟩:=E2.head_d;cases e1;cases p1;have E3:aA X.K Pr H2 (some (.int j)::some v::σ) (.d (.int j)::.d y::Z2):=aA.step (τ:=[some v]) (lam:=[.d y]) (w:=[some (.int j)]) (μ:=[.d (.int j)]) E' rfl E2 rfl;obtain⟨_,e1,p1⟩:=E3.tail.head_d;cases e1;obtain⟨hσ',vs,hl,r⟩:=E3.tail.tail.ownAt q;rw[hσ]at hσ';cases hσ';refine⟨l,vs,j,k,rfl,rfl,hl,by rw[r.length];exact hk,_,E3.tail.tail.updOwn q (r.set p1 k),pp⟩
 |_=>exact pp.elim
def Bt:Option (W L)->Ev->(Option Int->Ev->Prop)->Prop
 |none=>λZ k=>k none Z
 |some t=>λZ k=>t Z λr Z1=>m7 r λi=>k (some i) Z1
noncomputable def t9{α:Type}(xs:List α)(lo hi:Option Int):List α:=(xs.drop (HT.sIx xs.length 0 lo)).take (HT.sIx xs.length xs.length hi-HT.sIx xs.length 0 lo)
end
noncomputable def bH:List Nat->Ev->Ev
 |[],Z=>Z
 |j::r,Z=>(bH r Z).set j .un
noncomputable def cM(fi:List Nat)(Z:Ev):Ev:=fi.map λj=>(Z[j]?).getD .un
noncomputable def cg(fi:List Nat)(σ:St):St:=fi.map λj=>(σ[j]?).getD none
noncomputable def iA:List Nat->Ev->Ev->Ev
 |j::r,c::cs,Z=>iA r cs (Z.set j c)
 |_,_,Z=>Z
theorem gm:∀(fi:List Nat)(Z:Ev),(bH fi Z).length=Z.length
 |[],_=>rfl
 |j::r,Z=>by unfold bH;rw[Wc,gm r Z]
theorem wF:∀(fi:List Nat)(Z:Ev)(j:Nat),j∉fi->(bH fi Z)[j]?=Z[j]?
 |[],_,_,_=>rfl
 | i::r,Z,j,h=>by unfold bH;rw[VH (λe=>h (by simp[e])),wF r Z j λe=>h (UW _ e)]
theorem zW:∀(fi:List Nat)(Z:Ev)(j:Nat),j∈fi->j<Z.length->(bH fi Z)[j]?=some .un
 | i::r,Z,j,h,hl=>by
  unfold bH;by_cases e:i=j
  . subst e;rw[VA (by rw[gm];exact hl)]
  . rw[VH e];exact zW r Z j ((Vc.mp h).resolve_left λz=>e z.symm) hl
section
variable{K:PySem.W.Frag}{Pr H:Hp}{σ:St}{Z:Ev}
theorem aA.takeAt(E:aA K Pr H σ Z){i:Nat}{l:L}{s:Option V}(h:Z[i]?=some l)(hs:σ[i]?=some s):aA K Pr H (s::σ) (l::Z.set i .un):=E.outL h hs
theorem aA.takes(E:aA K Pr H σ Z):∀(fi:List Nat),fi.Nodup->(∀j∈fi,j<Z.length)->aA K Pr H (cg fi σ++σ) (cM fi Z++bH fi Z)
 |[],_,_=>E
 | j::r,nd,hl=>by
  have ih:=E.takes r (VC.mp nd).2 λi hi=>hl i (UW _ hi);have hj:j<Z.length:=hl j UZ;have hjs:j<σ.length:=by rw[E.len];exact hj
  have e1:(cM r Z++bH r Z)[r.length+j]?=some Z[j]:=by rw[Vr (by simp[cM])];simp only[cM,U4,Vw];rw[wF r Z j (VC.mp nd).1];exact tu hj
  have e2:(cg r σ++σ)[r.length+j]?=some σ[j]:=by rw[Vr (by simp[cg])];simp only[cg,U4,Vw];exact tu hjs
  have z:=ih.takeAt e1 e2;rw[WT _ _ (by simp[cM])]at z;simp only[cM,U4,Vw]at z;have c1:cg (j::r) σ=σ[j]::cg r σ:=by simp[cg,hjs]
  have c2:cM (j::r) Z=Z[j]::cM r Z:=by simp[cM,hj]
  rw[c1,c2];exact z
theorem aA.backs:∀(fi:List Nat){cs Z:Ev},fi.Nodup->cs.length=fi.length->(∀j∈fi,Z[j]?=some .un)->(∀j∈fi,j<σ.length)->aA K Pr H (cg fi σ++σ) (cs++Z)->aA K Pr H σ (iA fi cs Z)
 |[],[],Z,_,_,_,_,E=>E
 | j::r,c::cs,Z,nd,hl,hu,hs,E=>by
  have hjs:j<σ.length:=hs j UZ;have hj:=hu j UZ;have c1:cg (j::r) σ=σ[j]::cg r σ:=by simp[cg,hjs]
  rw[c1]at E;have hlr:cs.length=r.length:=by simpa using hl
  have z:=aA.back (σ:=cg r σ++σ) (Z:=cs++Z) (l:=c) E (i:=r.length+j) (by
   rw[Vr xL,hlr,Vw];exact hj) (by
   rw[Vr (by simp[cg])];simp only[cg,U4,Vw]
   exact tu hjs)
  rw[WT _ _ xL,hlr,Vw]at z
  exact aA.backs r (VC.mp nd).2 hlr (λi hi=>by
   rw[VH (λe=>(VC.mp nd).1 (by rw[e];exact hi))];exact hu i (UW _ hi)) (λi hi=>hs i (UW _ hi)) z
 |[],_::_,_,_,hl,_,_,_=>by simp at hl
 |_::_,[],_,_,hl,_,_,_=>by simp at hl
end
noncomputable def wG(cells:List (Str×Addr)):List (Str×NameKind)->List (Str×Addr)->List (Str×Addr)
 |[],acc=>acc
 |(n,k)::r,acc=>wG cells r (if k == .free then(match cells.lookup n with|some c=>(n,c)::acc|none=>acc)else acc)
theorem oB{env:Env}:∀(names:List (Str×NameKind))(acc:List (Str×Addr)),(∀x∈names,x.2=.free->∃c,env.cells.lookup x.1=some c) ->
  (forIn names acc λ(x:Str×NameKind) (cs:List (Str×Addr))=>(if x.2 == .free then do let c <- cellOf env x.1;pure (ForInStep.yield ((x.1,c)::cs))else pure (ForInStep.yield cs):Sem (ForInStep (List (Str×Addr)))))=pure (wG env.cells names acc)
 |[],acc,_=>rfl
 | (n,k)::r,acc,h=>by
  rw[List.forIn_cons];by_cases hk:(k == NameKind.free)=true
  .
   obtain⟨c,hc⟩:=h (n,k) UZ (by simpa using hk);have e:cellOf env n=pure c:=by unfold cellOf;rw[show env.cells.lookup n=some c from hc]
   simp only[hk,W5,e,pure_bind,wG,hc];exact oB r _ λx hx=>h x (UW _ hx)
  . simp only[hk,wG,WX,pure_bind];exact oB r _ λx hx=>h x (UW _ hx)
theorem nh{scope:Scope}{env:Env}(h:∀x∈scope.names,x.2=.free->∃c,env.cells.lookup x.1=some c):closureFor scope env=pure (wG env.cells scope.names []):=by have:=oB (env:=env) scope.names [] h;unfold closureFor;simp only[bind_pure_comp]at this ⊢;rw[this];rfl
theorem zX{cells:List (Str×Addr)}:∀(names:List (Str×NameKind))(acc:List (Str×Addr)),(∀x c,acc.lookup x=some c->cells.lookup x=some c)->∀x c,(wG cells names acc).lookup x=some c->cells.lookup x=some c
 |[],acc,h,x,c,e=>h x c e
 | (n,k)::r,acc,h,x,c,e=>by
  unfold wG at e;refine zX r _ (λy d ey=>?_) x c e;split at ey
  .
   split at ey
   .
    rename_i q;rw[VJ]at ey;split at ey
    .
     rename_i e2;have:y=n:=by simpa using e2
     cases ey;rw[this];exact q
    . exact h y d ey
   . exact h y d ey
  . exact h y d ey
theorem p6{n:Str}{c:Addr}{acc:List (Str×Addr)}{x:Str}(h:∃d,acc.lookup x=some d):∃d,((n,c)::acc).lookup x=some d:=by
 rw[VJ];split
 . exact⟨_,rfl⟩
 . exact h
theorem uM{cells:List (Str×Addr)}:∀(names:List (Str×NameKind))(acc:List (Str×Addr))(x:Str),((∃d,acc.lookup x=some d)∨((x,NameKind.free)∈names/\∃c,cells.lookup x=some c))->∃d,(wG cells names acc).lookup x=some d
 | [],acc,x,h=>by
  rcases h with h|⟨h,_⟩
  . exact h
  . simp at h
 | (n,k)::r,acc,x,h=>by
  unfold wG;refine uM r _ x ?_;rcases h with h|⟨hm,c,hc⟩
  .
   left;split
   .
    split
    . exact p6 h
    . exact h
   . exact h
  .
   rcases Vc.mp hm with e|hm
   . cases e;left;simp only[hc,beq_self_eq_true,W5];exact⟨c,by simp[VJ]⟩
   . exact .inr ⟨hm,c,hc⟩
noncomputable def jy(X:Cx)(scope:Scope)(cl:List (Str×Addr))(Nb:List Str)(s₀:Shared)(H₀:Hp)(fp:List Addr):Cx :=
 {X with N:=Nb,s₀:=s₀,H₀:=H₀,env:=compEnvC scope cl s₀.heap.objs.size X.env,outer:=X.stack,stack:=X.stack,ex:=fp,fn:=λ_=>false,pn:=[],xe:=λ_ _=>False}
theorem kZ{α β:Type}{F:α->β->Prop}:∀{a:List α}{b:List β},Paired F a b↔a.length=b.length/\∀p∈a.zip b,F p.1 p.2
 |[],[]=>⟨λ_=>⟨rfl,λ_ h=>by simp at h⟩,λ_=>.nil⟩
 |[],_::_=>⟨(λh=>nomatch h),λh=>by simp at h⟩
 |_::_,[]=>⟨(λh=>nomatch h),λh=>by simp at h⟩
 | x::a,y::b=>by
  constructor
  .
   intro h
   cases h with
   | cons r t =>
    obtain⟨h1,h2⟩:=kZ.mp t
    exact⟨by simp[h1],λp hp=>by
     rw[Wm]at hp;rcases Vc.mp hp with rfl|hp
     . exact r
     .
      exact h2 p hp⟩
  . rintro⟨hl,h⟩;exact .cons (h (x,y) v6) (kZ.mpr ⟨by simpa using hl,λp hp=>h p (by rw[Wm];exact UW _ hp)⟩)
theorem uN:∀{σ:St}{Z:Ev},σ.length=Z.length->(σ.zip Z).map (·.2)=Z
 |[],[],_=>rfl
 | _::σ,l::Z,h=>by have ih:=uN (σ:=σ) (Z:=Z) (by simpa using h);rw[Wm,Vo,ih]
 |[],_::_,h=>by simp at h
 |_::_,[],h=>by simp at h
theorem aA.rearr{K:PySem.W.Frag}{Pr H:Hp}{σ σ2:St}{Z Z2:Ev}(E:aA K Pr H σ Z)(hl:σ2.length=Z2.length)(extra:List (Option V×L))(h:(σ.zip Z).Perm (σ2.zip Z2++extra)):aA K Pr H σ2 Z2:=by
 have pm:(owns Z).Perm (owns Z2++owns (extra.map (·.2))):=by have q:=m6 (h.map (·.2));rw[Wb,uN E.len,uN hl,aF]at q;exact q
 refine⟨E.sub,(Vv.mp (pm.nodup_iff.mp E.nd)).1,λa ha=>E.off a (pm.mem_iff.mpr (Vh _ ha)),kZ.mpr ⟨hl,λp hp=>?_⟩⟩;exact(kZ.mp E.sl).2 p (h.mem_iff.mpr (Vh _ hp))
theorem wH{fi:List Nat}{σ τ:St}(h:∀j∈fi,j<σ.length):cg fi (σ++τ)=cg fi σ:=by unfold cg;refine Ws λj hj=>?_;rw[VQ (h j hj)]
theorem Bu{fi:List Nat}{σ τ:Ev}(h:∀j∈fi,j<σ.length):cM fi (σ++τ)=cM fi σ:=by unfold cM;refine Ws λj hj=>?_;rw[VQ (h j hj)]
theorem wJ{τ:Ev}:∀{fi:List Nat}{Z:Ev},(∀j∈fi,j<Z.length)->bH fi (Z++τ)=bH fi Z++τ
 |[],_,_=>rfl
 | j::r,Z,h=>by unfold bH;rw[wJ λi hi=>h i (UW _ hi),List.set_append_left _ _ (by rw[gm];exact h j UZ)]
theorem ua{τ:Ev}:∀{fi:List Nat}{cs Z:Ev},(∀j∈fi,j<Z.length)->iA fi cs (Z++τ)=iA fi cs Z++τ
 |[],[],_,_=>rfl
 |[],_::_,_,_=>rfl
 |_::_,[],_,_=>rfl
 | j::r,c::cs,Z,h=>by unfold iA;rw[List.set_append_left _ _ (h j UZ)];exact ua λi hi=>by rw[Wc];exact h i (UW _ hi)
theorem gn{env:Env}:∀{names:List (Str×NameKind)}{x:Str},names.lookup x=some .free ->
  (names.map λ(n,k)=>if(k == NameKind.free && env.scope.kind == .function && env.kindOf n == some .cell)then(n,NameKind.cell)else(n,k)).lookup x=some .cell ∨
  (names.map λ(n,k)=>if(k == NameKind.free && env.scope.kind == .function && env.kindOf n == some .cell)then(n,NameKind.cell)else(n,k)).lookup x=some .free
 |[],_,h=>by simp at h
 | (n,k)::r,x,h=>by
  have ih:=@gn env r x;rw[Vo]
  cases hx:x == n with
  | true =>
   simp only[VJ,hx]at h;cases h;dsimp only;by_cases hc:(NameKind.free == NameKind.free && env.scope.kind == .function && env.kindOf n == some .cell)=true
   . left;rw[if_pos hc];simp[VJ,hx]
   . right;rw[if_neg hc];simp[VJ,hx]
  | false =>
   simp only[VJ,hx]at h;dsimp only;by_cases hc:(k == NameKind.free && env.scope.kind == .function && env.kindOf n == some .cell)=true
   . rw[if_pos hc];simp only[VJ,hx];exact ih h
   . rw[if_neg hc];simp only[VJ,hx];exact ih h
theorem iU{env:Env}:∀{names:List (Str×NameKind)}{x:Str}{k:NameKind},(∀y∈names,y.2≠.cell)->(k=.cell∨k=.free) ->
  (names.map λ(n,k)=>if(k == NameKind.free && env.scope.kind == .function && env.kindOf n == some .cell)then(n,NameKind.cell)else(n,k)).lookup x=some k->(x,NameKind.free)∈names
 |[],_,_,_,_,h=>by simp at h
 | (n,k0)::r,x,k,hc,hk,h=>by
  rw[Vo]at h;dsimp only at h;by_cases q:(k0 == NameKind.free && env.scope.kind == .function && env.kindOf n == some .cell)=true
  .
   rw[if_pos q,VJ]at h;have e0:k0=.free:=by have:=(WW.mp (WW.mp q).1).1;simpa using this
   split at h
   .
    rename_i e;have:x=n:=by simpa using e
    subst this e0;exact UZ
   . exact UW _ (iU (λy hy=>hc y (UW _ hy)) hk h)
  .
   rw[if_neg q,VJ]at h;split at h
   .
    rename_i e;have:x=n:=by simpa using e
    subst this;have e1:k0=k:=by simpa using h
    subst e1;rcases hk with z|z
    . exact absurd z (hc (x,k0) UZ)
    . subst z;exact UZ
   . exact UW _ (iU (λy hy=>hc y (UW _ hy)) hk h)
section
variable{prog:Program}{w:World}{A:Around}{R:Result->Shared->Prop}
theorem C0{elt target iter:Expr}{ifs:List Expr}{scope:Scope}{pos:Pos}{it acc:Value}{env:Env}(I:Nat->Shared->Prop)
  (turn:∀n s,I n s->wpAny (model prog w) A (pyNext it) (λr s₁=>match r with
   |none=>R (.ok .next) s₁
   | some v=>wpAny (model prog w) A (letOwnedTupleGo target it v) (λ_ s₀=>wpAny (model prog w) A (assign target env v) (λ_ s₂ =>
     wpAny (model prog w) A (forIn ifs true λc r=>if r=true then do let ok <- isTrue c env (eval c env);pure (ForInStep.yield ok)else pure (ForInStep.yield r)) (λok s₃ =>
      if ok=true then wpAny (model prog w) A (eval elt env) (λx s₄ =>
       wpAny (model prog w) A (call (.builtin "list.append") [acc,x]) (λ_ s₅=>∃ m,m < n/\I m s₅) (λ_ _=>False) s₄) (λ_ _=>False) s₃
      else ∃m,m<n/\I m s₃) (λ_ _=>False) s₂) (λ_ _=>False) s₀) (λ_ _=>False) s₁) (λ_ _=>False) s)
  (n:Nat) {s:Shared} (h:I n s) :
  codeAny (model prog w) A (.compLoop (.ListComp elt [⟨target,iter,ifs,0⟩] scope pos) 0 it acc env) R s:=by
 refine codeAny_loop rfl I (λn s hI=>?_) n h
 show wpAny _ A ((compTurn (.ListComp elt [⟨target,iter,ifs,0⟩] scope pos) 0 it acc env).onRaise (λx=>do noteFrame x env;theTreesLotGoes x)) _ _ s
 refine wpAny_noted ?_;rw[compTurn_list];have fe:∀{α:Type}{t:Sem α}{Q:α->Shared->Prop}{E:Value->Shared->Prop}{s:Shared},wpAny (model prog w) A t Q (λ_ _=>False) s->wpAny (model prog w) A t Q E s:=λh=>V7 h (λ_ _ q=>q) λ_ _ z=>z.elim;refine UX (W2 (UX (V7 (turn n s hI) (λr s₁ h₁=>?_) λ_ _ h'=>h'.elim)))
 cases r with
 |none=>exact U9 h₁
 | some v =>
  refine UX (V7 h₁ (λ_ s₀ h₀=>?_) λ_ _ z=>z.elim);refine UX (V7 h₀ (λ_ s₂ h₂=>UX (V7 h₂ (λok s₃ h₃=>?_) λ_ _ h'=>h'.elim)) λ_ _ h'=>h'.elim)
  cases ok with
  |false=>exact U9 ⟨rfl,h₃⟩
  | true =>
   exact UX (UX (V7 h₃ (λx s₄ h₄=>UX (V7 h₄ (λ_ s₅ h₅=>U9 (U9 ⟨rfl,h₅⟩)) λ_ _ h'=>h'.elim)) λ_ _ h'=>h'.elim))
end
def Rf(X:Cx)(tg:Expr)(n:Nat)(g:Tg):Prop:=∃gg:TG,PG X tg gg/\∀v σ H Pr Z x k,σ.length=X.N.length->aA X.K Pr H σ Z->QU X.K H v x->g x Z k->gg v σ H λσ' H'=>H'=H/\σ'.drop n=σ.drop n/\∃Z',aA X.K Pr H σ' Z'/\k Z'
theorem j3{X:Cx}{i n:Nat}{x:Str}{pos:Pos}(hn:i<n)(hN:X.N.Nodup)(hi:X.N[i]?=some x)(hx:Qh X.env.scope x)(hf:X.fn x=true∨X.env.scope.names.lookup x=some .local:=by first|exact .inl rfl|exact .inr rfl|assumption):Rf X (.Name x pos) n (bp i) :=
 ⟨_,uy hN hi hx hf,λv σ H Pr Z x k hl E r h=>⟨rfl,by rw[List.drop_set_of_lt hn],_,(E.cons_d r).store (by rw[hl];exact(U1.mp hi).1),h⟩⟩
def Rg(X:Cx)(ifs:List Expr)(t:W Bool):Prop :=
 ∀(gV:List (Addr×Obj))(s:Shared)(σ:St)(H Pr:Hp)(Z:Ev)(so:Bool->Ev->Prop),Qi X gV σ H s->aA X.K Pr H σ Z->t Z so ->
  wpAny (model X.prog X.w) X.A (forIn ifs true λc r=>if r=true then do let ok <- isTrue c X.env (eval c X.env);pure (ForInStep.yield ok)else pure (ForInStep.yield r)) (EB X gV σ Pr so) X.xe s
def ma:W Bool:=λZ so=>so true Z
theorem iV{X:Cx}:Rg X [] ma:=λgV s σ H Pr Z so I E h=>wpAny_tests_nil ⟨H,Z,I,E,h⟩
theorem yt{X:Cx}{c:Expr}{t:W Bool}(h:PB X c t):Rg X [c] t:=λgV s σ H Pr Z so I E ht=>wpAny_tests_one (h gV s σ H Pr Z so I E ht)
def fh(g:Tg)(ti:W Bool)(te:W L):List D->Ev->List D->(List D->Ev->Prop)->Prop
 |[],Z,acc,k=>k acc Z
 |x::xs,Z,acc,k=>g x Z λZ1=>ti Z1 λb Z2=>if b=true then te Z2 λr Z3=>QX r λy=>fh g ti te xs Z3 (acc++[y]) k else fh g ti te xs Z2 acc k
def lx(n:Nat)(fi:List Nat)(src:W (List D))(g:Tg)(ti:W Bool)(te:W L):W L:=λZ so=>src Z λxs Z1=>xs.length<=sizeLine /\
 fh g ti te xs (List.replicate n .un++cM fi Z1) [] λys ρb=>∀a,so (.own a ys) (iA fi (ρb.drop n) (bH fi Z1))
section
variable{X:Cx}
theorem wK{elt tg iter:Expr}{ifs:List Expr}{scope sc:Scope}{pos:Pos}{N Nt Nf:List Str}{fi:List Nat}{src:W (List D)}{g:Tg}{ti:W Bool}{te:W L}
  (hsc:X.env.scope=sc) (hXN:X.N=N) (hc:X.calm=true) (hi:Q8 X tg iter src)
  (hkind:scope.kind=.function) (hnames:∀x∈scope.names,x.2=.local->scope.names.lookup x.1=some .local) (hcell:∀y∈scope.names,y.2≠.cell)
  (hfr:∀x∈scope.names,x.2=.free->sc.names.lookup x.1=some .cell∨sc.names.lookup x.1=some .free)
  (hnd:fi.Nodup) (hNf:Nf.map some=fi.map (λj=>N[j]?)) (hNk:∀x∈Nf,scope.names.lookup x=some .free) (hfl:∀j∈fi,j<N.length)
  (hg:∀cl s₀ H₀ fp,Rf (jy X scope cl (Nt++Nf) s₀ H₀ fp) tg Nt.length g) (hti:∀cl s₀ H₀ fp,Rg (jy X scope cl (Nt++Nf) s₀ H₀ fp) ifs ti) (hte:∀cl s₀ H₀ fp,PL (jy X scope cl (Nt++Nf) s₀ H₀ fp) elt te)
  {gV:List (Addr×Obj)} {s:Shared} {σ:St} {H Pr:Hp} {Z:Ev} {so:L->Ev->Prop} {use:Option (Value->Sem Unit)} {Q:Value->Shared->Prop} (I:Qi X gV σ H s) (E:aA X.K Pr H σ Z) (h:lx Nt.length fi src g ti te Z so)
  (hRR:∀D C s7 H6 acc Z'' m,Qi X gV σ H6 s7->s7.heap.Ns C m->H6 C=none->C≠X.env.locals->X.s₀.heap.objs.size<=C->(∀x c,X.env.cells.lookup x=some c->c≠C)->(∀p∈X.pn++gV,p.1≠C)->aA X.K Pr H6 (some (.ref D)::σ) (.own D acc::Z'')->so (.own D acc) Z'' ->
   compPost (model X.prog X.w) X.A X.xe use Q (.ref D) C (.ok .next) s7)
  (hs:∀x,foldedSetIterable iter X.env x=pure x):wpAny (model X.prog X.w) X.A (comprehension (.ListComp elt [⟨tg,iter,ifs,0⟩] scope pos) scope X.env (firstIterPos [⟨tg,iter,ifs,0⟩] pos) (newList []) false (eval iter X.env) use) Q X.xe s:=by
 have hcells:∀x∈scope.names,x.2=.free->∃c,X.env.cells.lookup x.1=some c:=λx hx hk=>I.ok.has x.1 (by
  show X.env.scope.names.lookup x.1=_∨X.env.scope.names.lookup x.1=_
  rw[hsc];exact hfr x hx hk)
 have hsub:=zX (cells:=X.env.cells) scope.names [] (λx c e=>by simp at e);refine wpAny_comprehension_free (use:=use) rfl hs (nh hcells) hkind hnames (Qk (hi gV s σ H Pr Z _ I E h) λv s1 h1=>Qk h1 λitv s2 h2=>?_);obtain⟨it,fp,tn,J,H2,xs,Z2,e,I2,T,st2,f2,E2,G,p4,w0⟩:=h2;subst e;refine WD (T:="list") ?_;generalize hD:s2.heap.objs.size=D;have fD:H2 D=none:=by rw[<- hD];exact I2.fresh
 have I3:Qi X gV σ (Qa H2 D (.lst [])) {s2 with heap:=s2.heap.push {cls:=.type "list",dict:=none,data:=.seq ([]:List Value).toArray} }:=by have:=Qi.lnew (ys:=[]) (its:=[]) (t':=s2.toks) I2 .nil (Wn _);rw[hD]at this;exact this
 have E3:=E2.cons_own (p:=D) (vs:=[]) (xs:=[]) fD .nil;have sz3:(s2.heap.push {cls:=.type "list",dict:=none,data:=.seq ([]:List Value).toArray}).objs.size=D+1:=by rw[Heap.size_push,hD]
 generalize hs3:({s2 with heap:=s2.heap.push {cls:=.type "list",dict:=none,data:=.seq ([]:List Value).toArray} }:Shared)=s3 at I3;have hs3h:s3.heap=s2.heap.push {cls:=.type "list",dict:=none,data:=.seq ([]:List Value).toArray}:=by rw[<- hs3]
 have fpD:∀b∈fp,b≠D:=λb hb=>by obtain⟨o,e,_⟩:=T.obj 0 _ st2 b hb;rw[<- hD];exact Vp (U6 e)
 have old3:∀b o,s2.heap.get? b=some o->s3.heap.get? b=some o:=λb o e=>by rw[hs3h];exact UY _ e
 refine wpAny_newFunctionEnv (around:=some X.env) hcell (by intro y hy;simp at hy) (λh4 hns4 hsb4=>?_) hkind
 have hns4':h4.Ns s3.heap.objs.size (λ_=>none):=by
  have:(λx=>(([]:List (Str×Value)).reverse.lookup x))=λ_=>(none:Option Value):=by funext x;rfl
  rw[this]at hns4;exact hns4
 have old4:∀b o,s3.heap.get? b=some o->h4.get? b=some o:=λb o e=>by rw[hsb4.2 b (Vp (U6 e))];exact UY _ e
 have hσl:σ.length=N.length:=by rw[<- hXN];exact I.len
 have hρ2:σ.length=Z2.length:=E2.len;have hjσ:∀j∈fi,j<σ.length:=λj hj=>by rw[hσl];exact hfl j hj
 have hjρ:∀j∈fi,j<Z2.length:=λj hj=>by rw[<- hρ2];exact hjσ j hj
 have hfpl:∀b∈fp,b<s3.heap.objs.size:=λb hb=>by obtain⟨o,e,_⟩:=T.obj 0 _ st2 b hb;exact U6 (old3 b o e)
 have hlNf:Nf.length=fi.length:=by have:=congrArg List.length hNf;simpa using this
 have Bok:(jy X scope (wG X.env.cells scope.names []) (Nt++Nf) s3 (Qa H2 D (.lst [])) fp).Ok:=by
  refine⟨I3.ok.mod,hkind,I.ok.glob,I.ok.blt,Vb _,λx y c e1 e2=>I.ok.inj x y c (hsub x c e1) (hsub y c e2),λx hx=>?_,λx c hf _=>(Vt hf).elim,I.ok.hd,I.ok.frames,.inl rfl,λb hb=>⟨Vp (hfpl b hb),λx c e=>(f2 b hb).2.2.2.2.1 x c (hsub x c e)⟩,I3.bs,U8 I.ok.bsz I3.sz,λb o e hb=>?_,λb hb hm=>?_,I3.stack,I3.stkFree,I3.tbs⟩
  .
   have hm:(x,NameKind.free)∈scope.names:=by
    rcases hx with hx|hx
    . exact iU (env:=X.env) hcell (.inl rfl) hx
    . exact iU (env:=X.env) hcell (.inr rfl) hx
   exact uM scope.names [] x (.inr ⟨hm,hcells _ hm rfl⟩)
  .
   rcases(f2 b hb).2.2.2.1 with z|z
   . exact I.ok.noex b o e z
   . exact absurd (U2 (U6 (I.ok.bs b o e).1) z) (Wq _)
  .
   rcases Vc.mp (I3.stkSub b hm)with z|z
   . exact(f2 b hb).2.1 z
   . exact(f2 b hb).2.2.1 z
 have I4:Qi (jy X scope (wG X.env.cells scope.names []) (Nt++Nf) s3 (Qa H2 D (.lst [])) fp) [] (List.replicate Nt.length none++cg fi σ) (Qa H2 D (.lst [])) {s3 with heap:=h4,toks:=s3.toks+([]:List (Str×Value)).length}:=by
  refine⟨Bok,rfl,I3.bare,Un.kept old4,⟨_,hns4',λi x v e1 e2 e3=>?_⟩,λx c e=>?_,I3.fresh,λx c e=>(I3.freeC x c (hsub x c e)).imp id λz=>⟨rfl,z.2⟩,λp hp=>absurd (show p∈([]:List (Addr×Obj))from hp) v6,I3.hok.kept old4,?_⟩
  .
   have e1:(Nt++Nf)[i]?=some x:=e1
   have hi':Nt.length<=i:=by
    by_cases q:i<Nt.length
    . rw[VQ (by simpa using q),List.getElem?_replicate]at e2;split at e2<;>cases e2
    . omega
   rw[Vr hi']at e1;rw[Vr (by simpa using hi')]at e2;simp only[List.length_replicate]at e2;generalize i-Nt.length=k at e1 e2;have hk:k<fi.length:=by have:=(U1.mp e1).1;omega
   have e4:(Nf.map some)[k]?=(fi.map λj=>N[j]?)[k]?:=by rw[hNf]
   rw[Vf,Vf,e1,tu hk]at e4;have e5:N[fi[k]]?=some x:=by simpa using e4.symm
   have e6:σ[fi[k]]?=some (some v):=by unfold cg at e2;rw[Vf,tu hk]at e2;have hjl:=hjσ fi[k] (U3 hk);rw[tu hjl];simpa[tu hjl]using e2
   have hxm:x∈Nf:=List.mem_of_getElem? e1;have hfree:=hNk x hxm;have hmem:(x,NameKind.free)∈scope.names:=Wf hfree;have hkx:=hfr _ hmem rfl;obtain⟨m,_,hl⟩:=I3.loc;obtain⟨u,ru,lk⟩:=hl fi[k] x v (by rw[hXN];exact e5) e6 (by rw[hsc];exact .inr hkx);refine⟨u,ru,.inr ⟨gn (env:=X.env) hfree,?_⟩⟩;rcases lk with⟨z,_⟩|⟨_,c,hc1,hc2⟩
   .
    have z:X.env.scope.names.lookup x=some .local:=z;rw[hsc]at z;rcases hkx with q|q
    . rw[z]at q;cases q
    . rw[z]at q;cases q
   .
    obtain⟨d,hd⟩:=uM (cells:=X.env.cells) scope.names [] x (.inr ⟨hmem,c,hc1⟩);have:d=c:=by have:=hsub x d hd;rw[hc1]at this;exact(Vq this).symm
    subst this;obtain⟨o,ho,hdd⟩:=hc2;exact⟨d,hd,o,old4 _ o ho,hdd⟩
  . obtain⟨v,o,ho,hd⟩:=I3.cell x c (hsub x c e);exact⟨v,o,old4 c o ho,hd⟩
  . show(List.replicate Nt.length none++cg fi σ).length=(Nt++Nf).length;simp[cg,hlNf]
 have E4:aA X.K Pr (Qa H2 D (.lst [])) (some (.ref D)::(σ++(List.replicate Nt.length none++cg fi σ))) (.own D []::(bH fi Z2++(List.replicate Nt.length .un++cM fi Z2))):=by
  have a1:aA X.K Pr (Qa H2 D (.lst [])) (σ++[some (.ref D)]) (Z2++[.own D []]):=E3.rearr (by simp[hρ2]) [] (by
   rw[VR,VY hρ2]
   exact(VW (l₁:=[(some (V.ref D),L.own D [])]) (l₂:=σ.zip Z2)))
  have a2:=a1.takes fi hnd λj hj=>by have:=hjρ j hj;simp;omega
  rw[wH hjσ,Bu hjρ,wJ hjρ]at a2;have a3:=a2.uns Nt.length;have hcl:(cg fi σ).length=(cM fi Z2).length:=by simp[cg,cM]
  have hul:σ.length=(bH fi Z2).length:=by rw[gm];exact hρ2
  refine a3.rearr (by simp[hul,hcl]) [] ?_;have l1:(cg fi σ++(σ++[some (V.ref D)])++List.replicate Nt.length none).zip (cM fi Z2++(bH fi Z2++[L.own D []])++List.replicate Nt.length L.un)=((cg fi σ).zip (cM fi Z2)++(σ.zip (bH fi Z2)++[(some (V.ref D),L.own D [])]))++(List.replicate Nt.length none).zip (List.replicate Nt.length L.un):=by rw[VY (by simp only[VL,hcl,hul];rfl),VY hcl,VY hul];rfl
  have l2:(some (V.ref D)::(σ++(List.replicate Nt.length none++cg fi σ))).zip (L.own D []::(bH fi Z2++(List.replicate Nt.length L.un++cM fi Z2)))=(some (V.ref D),L.own D [])::(σ.zip (bH fi Z2)++((List.replicate Nt.length none).zip (List.replicate Nt.length L.un)++(cg fi σ).zip (cM fi Z2))):=by rw[Wm,VY hul,VY v6]
  rw[VR,l1,l2];generalize (cg fi σ).zip (cM fi Z2)=z1;generalize σ.zip (bH fi Z2)=z2;generalize (List.replicate Nt.length none).zip (List.replicate Nt.length L.un)=z3;show(z1++(z2++[(some (V.ref D),L.own D [])])++z3).Perm ((some (V.ref D),L.own D [])::(z2++(z3++z1)));have p1:(z1++(z2++[(some (V.ref D),L.own D [])])++z3).Perm ((z2++[(some (V.ref D),L.own D [])])++z3++z1):=by rw[VT];exact VW
  refine p1.trans ?_;rw[VT,VT];exact List.perm_middle
 clear E3
 let B:Cx:=jy X scope (wG X.env.cells scope.names []) (Nt++Nf) s3 (Qa H2 D (.lst [])) fp
 have hul:σ.length=(bH fi Z2).length:=by rw[gm];exact hρ2
 have stat:∀{H':Hp},(∀b∈fp,H' b=none)->∀b∈fp,Cn B [] H' b:=λhn b hb=>by
  refine⟨hn b hb,Vp (hfpl b hb),λhm=>?_,.inl hb,λx c e=>(f2 b hb).2.2.2.2.1 x c (hsub x c e),λp hp=>absurd (show p∈([]:List (Addr×Obj))from hp) v6⟩;rcases Vc.mp (I3.stkSub b hm)with z|z
  . exact(f2 b hb).2.1 z
  . exact(f2 b hb).2.2.1 z
 have loop:∀s5:Shared,s5={s3 with heap:=h4,toks:=s3.toks+([]:List (Str×Value)).length}->codeAny (model X.prog X.w) X.A (.compLoop (.ListComp elt [⟨tg,iter,ifs,0⟩] scope pos) 0 (.ref it) (.ref D) B.env)
   (compPost (model X.prog X.w) X.A X.xe use Q (.ref D) s3.heap.objs.size) s5:=by
  rintro s5 rfl
  refine C0 (λn s'=>∃i σ' H' Z' acc,n+i=xs.length/\Qi B [] σ' H' s'/\tn i s'.heap/\(∀b∈fp,H' b=none)/\σ'.drop Nt.length=cg fi σ/\aA X.K Pr H' (some (.ref D)::(σ++σ')) (.own D acc::(bH fi Z2++Z'))/\acc.length<=i /\
   fh g ti te (xs.drop i) Z' acc λys ρb=>∀a,so (.own a ys) (iA fi (ρb.drop Nt.length) (bH fi Z2))) ?_ xs.length
   ⟨0,_,_,_,[],xL,I4,T.keep 0 _ _ st2 λb hb o e=>old4 b o (old3 b o e),λb hb=>by rw[ax (fpD b hb)];exact(f2 b hb).1,v6,E4,Vb _,by simpa using w0⟩
  rintro n s6 ⟨i,σ6,H6,Z6,acc,hn,I6,st6,fr6,dr6,E6,hal,w6⟩
  have pr:vQ H2 H6:=λb o p e=>by
   have ne:b≠D:=λz=>by rw[z,fD]at e;cases e
   have e':B.H₀ b=some o:=by show Qa H2 D (.lst []) b=some o;rw[ax ne];exact e
   cases o with
   |tup ys=>exact I6.base.tups b ys e'
   |frz ob u=>exact I6.base.frzs b ob u e'
   |tbl t=>exact I6.base.tbls b t e'
   |_=>exact p.elim
  obtain⟨go,stop⟩:=G H6 pr;have hτ:(some (V.ref D)::σ).length=(L.own D acc::bH fi Z2).length:=by simp[hul]
  by_cases hlt:i<xs.length
  .
   obtain⟨hgo,hy⟩:=go i xs[i] (tu hlt);rw[VD hlt]at w6;refine Qk (T.item B rfl rfl rfl hc i [] s6 σ6 H6 (λ_ _=>False) I6 (stat fr6) st6 hgo) λr s7 ⟨u,hr,h7⟩=>?_;subst hr;refine Qk h7 λ_ s8 ⟨x,H8,I8,r8,y8,st8,fr8⟩=>?_;obtain⟨gr,rx⟩:=hy x H8 y8;have I8':=I8.pinned (stat fr8) (T.obj _ _ st8);have E8:=E6.grown gr;have E8a:aA X.K (bE H8 Z6) H8 σ6 Z6:=(aA.drop (τ:=some (V.ref D)::σ) (lam:=L.own D acc::bH fi Z2) E8 hτ).wide;obtain⟨gg,hgg,hgs⟩:=hg (wG X.env.cells scope.names []) s3 (Qa H2 D (.lst [])) fp;refine Qk (hgg _ s8 σ6 H8 x u _ I8' r8 (hgs x σ6 H8 _ Z6 xs[i] _ I8.len E8a rx w6)) λ_ s9 ⟨σ9,H9,I9,e9,dr9,Z9,E9,q9⟩=>?_;subst e9;have F9:aA X.K Pr H9 (some (V.ref D)::(σ++σ9)) (L.own D acc::(bH fi Z2++Z9)):=aA.step (τ:=some (V.ref D)::σ) (lam:=L.own D acc::bH fi Z2) (w:=[]) (μ:=[]) E8 hτ E9 rfl;have F9a:aA X.K (bE H9 Z9) H9 σ9 Z9:=(aA.drop (τ:=some (V.ref D)::σ) (lam:=L.own D acc::bH fi Z2) F9 hτ).wide;refine Qk (hti _ _ _ _ _ s9 σ9 H9 _ Z9 _ I9 F9a q9) λok sA ⟨HA,ρA,IA,EA,qA⟩=>?_;have FA:aA X.K Pr HA (some (V.ref D)::(σ++σ9)) (L.own D acc::(bH fi Z2++ρA)):=aA.step (τ:=some (V.ref D)::σ) (lam:=L.own D acc::bH fi Z2) (w:=[]) (μ:=[]) F9 hτ EA rfl
   have again:∀{sZ:Shared}{HZ:Hp}{ρZ:Ev}{acc':List L2.D},Qi B ([]++vV fp s8.heap) σ9 HZ sZ->aA X.K Pr HZ (some (.ref D)::(σ++σ9)) (.own D acc'::(bH fi Z2++ρZ))->acc'.length<=i+1 ->
     (fh g ti te (xs.drop (i+1)) ρZ acc' λys ρb=>∀a,so (.own a ys) (iA fi (ρb.drop Nt.length) (bH fi Z2)))->∃m,m<n/\∃i σ' H' Z' acc,m+i=xs.length/\Qi B [] σ' H' sZ/\tn i sZ.heap/\(∀b∈fp,H' b=none)/\σ'.drop Nt.length=cg fi σ /\
     aA X.K Pr H' (some (.ref D)::(σ++σ')) (.own D acc::(bH fi Z2++Z'))/\acc.length<=i/\fh g ti te (xs.drop i) Z' acc λys ρb=>∀a,so (.own a ys) (iA fi (ρb.drop Nt.length) (bH fi Z2)):=λ{sZ HZ ρZ acc'} IZ EZ hz qZ=>by
    refine⟨n-1,xL,i+1,σ9,HZ,ρZ,acc',xL,IZ.unpinned,T.keep _ _ _ st8 λb hb o e=>(IZ.pin (b,o) (Vi _ (Vi _ (kW hb e)))).1,λb hb=>?_,dr9.trans dr6,EZ,hz,qZ⟩;obtain⟨o,e,d⟩:=T.obj _ _ st8 b hb;exact(IZ.pin (b,o) (Vi _ (Vi _ (kW hb e)))).2.1
   cases ok with
   | false =>
    rw[if_neg Vt]at qA ⊢;exact again IA FA xL qA
   | true =>
    rw[if_pos rfl]at qA ⊢;have FAa:aA X.K (bE HA ρA) HA σ9 ρA:=(aA.drop (τ:=some (V.ref D)::σ) (lam:=L.own D acc::bH fi Z2) FA hτ).wide;refine Qk (hte _ _ _ _ _ sA σ9 HA _ ρA _ IA FAa qA) λux sB qB=>?_;obtain⟨vy,HB,y,ρB,IB,rB,EB,qB⟩:=EL.frz (X:=B) (so:=λy Z3=>fh g ti te (xs.drop (i+1)) Z3 (acc++[y]) λys ρb=>∀a,so (.own a ys) (iA fi (ρb.drop Nt.length) (bH fi Z2))) qB;have FB:aA X.K Pr HB (some vy::(some (V.ref D)::(σ++σ9))) (.d y::(L.own D acc::(bH fi Z2++ρB))):=aA.step (τ:=some (V.ref D)::σ) (lam:=L.own D acc::bH fi Z2) (w:=[some vy]) (μ:=[.d y]) FA hτ EB rfl;obtain⟨_,e1,p1⟩:=FB.head_d;cases e1;have Rh:=FB.tail.sl
    cases Rh with
    | cons q0 _ =>
     obtain⟨_,vs,hDB,rvs⟩:=q0;refine Qk (wd (X:=B) _ sB σ9 HB (.ref D) [vy] (.ref D) [ux] (λz H'=>H'=Qa HB D (.lst (vs++[vy]))) IB rfl (.cons rB .nil) ⟨D,vs,vy,rfl,rfl,hDB,by rw[rvs.length];omega,rfl⟩) λ_ sC ⟨z,HC,IC,_,eC⟩=>?_;subst eC;exact again IC (FB.tail.write (rvs.append (.cons p1 .nil))) (by simp;omega) qB
  .
   have e:i=xs.length:=by omega
   subst e;refine Qk (T.done B rfl rfl rfl hc xs.length [] s6 σ6 H6 (λ_ _=>False) I6 (stat fr6) st6 stop) λr s7 ⟨hr,I7⟩=>?_;subst hr;rw[W6]at w6;obtain⟨m,hm,_⟩:=id I7.loc;have I8:Qi X gV σ H6 s7:=I3.call' (ch:=fp) I7.os I7.base I7.hok I7.bare λb hb=>⟨(f2 b hb).2.2.2.1,(f2 b hb).2.1,(f2 b hb).2.2.2.2.1,(f2 b hb).2.2.2.2.2⟩;have f4:=I3.fpOk (H':=H6) (b:=s3.heap.objs.size) (Vb _) I7.free
   .
    have hlen6:σ6.length=Z6.length:=(aA.drop (τ:=some (V.ref D)::σ) (lam:=L.own D acc::bH fi Z2) E6 hτ).len
    have a1:aA X.K Pr H6 (cg fi σ++(σ++[some (V.ref D)])) (Z6.drop Nt.length++(bH fi Z2++[L.own D acc])):=by
     have hcd:(cg fi σ).length=(Z6.drop Nt.length).length:=by rw[<- dr6,Ww,Ww,hlen6]
     refine E6.rearr (by simp[hcd,hul,hlen6]) ((σ6.take Nt.length).zip (Z6.take Nt.length)) ?_;have l0:σ6.zip Z6=(σ6.take Nt.length).zip (Z6.take Nt.length)++(cg fi σ).zip (Z6.drop Nt.length):=by rw[<- dr6,<- VY (by simp[hlen6]),List.take_append_drop,List.take_append_drop]
     have l1:(some (V.ref D)::(σ++σ6)).zip (L.own D acc::(bH fi Z2++Z6))=(some (V.ref D),L.own D acc)::(σ.zip (bH fi Z2)++σ6.zip Z6):=by rw[Wm,VY hul]
     have l2:(cg fi σ++(σ++[some (V.ref D)])).zip (Z6.drop Nt.length++(bH fi Z2++[L.own D acc]))=(cg fi σ).zip (Z6.drop Nt.length)++(σ.zip (bH fi Z2)++[(some (V.ref D),L.own D acc)]):=by rw[VY hcd,VY hul];rfl
     rw[l1,l2,l0];generalize (cg fi σ).zip (Z6.drop Nt.length)=z1;generalize σ.zip (bH fi Z2)=z2;generalize (σ6.take Nt.length).zip (Z6.take Nt.length)=z3;have p1:((some (V.ref D),L.own D acc)::(z2++(z3++z1))).Perm ((z2++[(some (V.ref D),L.own D acc)])++(z3++z1)):=by rw[VT];exact List.perm_middle.symm
     refine p1.trans ?_;have p2:((z2++[(some (V.ref D),L.own D acc)])++(z3++z1)).Perm ((z3++z1)++(z2++[(some (V.ref D),L.own D acc)])):=VW;refine p2.trans ?_;rw[VT];exact VW
    have a2:=aA.backs (σ:=σ++[some (V.ref D)]) (cs:=Z6.drop Nt.length) (Z:=bH fi Z2++[L.own D acc]) fi hnd (by rw[Ww,<- hlen6,<- Ww,dr6];simp[cg]) (λj hj=>by
     rw[VQ (by rw[gm];exact hjρ j hj)];exact zW fi Z2 j hj (hjρ j hj)) (λj hj=>by have:=hjσ j hj;simp;omega) (by rw[wH hjσ];exact a1)
    rw[ua λj hj=>by rw[gm];exact hjρ j hj]at a2;have hpl:σ.length=(iA fi (Z6.drop Nt.length) (bH fi Z2)).length:=by have:=a2.len;simpa using this
    refine hRR D s3.heap.objs.size s7 H6 acc (iA fi (Z6.drop Nt.length) (bH fi Z2)) m I8 hm f4.1 f4.2.1 I3.sz f4.2.2.2.2.1 f4.2.2.2.2.2 (a2.rearr (by simp[hpl]) [] ?_) (w6 D);rw[VR,VY hpl,Wm];exact VW (l₂:=[(some (V.ref D),L.own D acc)])
 exact codeAny_compStart_list (loop _ rfl) (T.self _ 0 _ _ _ (T.keep 0 _ _ st2 λb hb o e=>old4 b o (old3 b o e)) (loop _ rfl))
theorem iW{elt tg iter:Expr}{ifs:List Expr}{scope sc:Scope}{pos:Pos}{N Nt Nf:List Str}{fi:List Nat}{src:W (List D)}{g:Tg}{ti:W Bool}{te:W L}
  (hsc:X.env.scope=sc) (hXN:X.N=N) (hc:X.calm=true) (hi:Q8 X tg iter src)
  (hkind:scope.kind=.function) (hnames:∀x∈scope.names,x.2=.local->scope.names.lookup x.1=some .local) (hcell:∀y∈scope.names,y.2≠.cell)
  (hfr:∀x∈scope.names,x.2=.free->sc.names.lookup x.1=some .cell∨sc.names.lookup x.1=some .free)
  (hnd:fi.Nodup) (hNf:Nf.map some=fi.map (λj=>N[j]?)) (hNk:∀x∈Nf,scope.names.lookup x=some .free) (hfl:∀j∈fi,j<N.length)
  (hg:∀cl s₀ H₀ fp,Rf (jy X scope cl (Nt++Nf) s₀ H₀ fp) tg Nt.length g) (hti:∀cl s₀ H₀ fp,Rg (jy X scope cl (Nt++Nf) s₀ H₀ fp) ifs ti) (hte:∀cl s₀ H₀ fp,PL (jy X scope cl (Nt++Nf) s₀ H₀ fp) elt te)
  (hs:∀x,foldedSetIterable iter X.env x=pure x:=by intro _;rfl):PL X (.ListComp elt [⟨tg,iter,ifs,0⟩] scope pos) (lx Nt.length fi src g ti te):=by
 intro gV s σ H Pr Z so I E h;rw[eval_ListComp];refine wK (use:=none) hsc hXN hc hi hkind hnames hcell hfr hnd hNf hNk hfl hg hti hte I E h (λD C s7 H6 acc Z'' m I7 hm h1 h2 h3 h4 h5 E7 p=>?_) hs;exact⟨m,hm,λh' hsb=>⟨.ref D,H6,_,Z'',I7.turned (t':=s7.toks) (λb o hb e=>(hsb.2 b hb).trans e) h1 (VX (VX h2)) (.inr h3) h4 h5,rfl,E7,p⟩⟩
theorem yu{elt tg iter:Expr}{ifs:List Expr}{scope sc:Scope}{pos spos py:Pos}{y:Str}{j:Nat}{N Nt Nf:List Str}{fi:List Nat}{src:W (List D)}{g:Tg}{ti:W Bool}{te:W L}
  (hN:X.N.Nodup) (hj:X.N[j]?=some y) (hy:Qh X.env.scope y)
  (hsc:X.env.scope=sc) (hXN:X.N=N) (hc:X.calm=true) (hi:Q8 X tg iter src)
  (hkind:scope.kind=.function) (hnames:∀x∈scope.names,x.2=.local->scope.names.lookup x.1=some .local) (hcell:∀y∈scope.names,y.2≠.cell)
  (hfr:∀x∈scope.names,x.2=.free->sc.names.lookup x.1=some .cell∨sc.names.lookup x.1=some .free)
  (hnd:fi.Nodup) (hNf:Nf.map some=fi.map (λj=>N[j]?)) (hNk:∀x∈Nf,scope.names.lookup x=some .free) (hfl:∀j∈fi,j<N.length)
  (hg:∀cl s₀ H₀ fp,Rf (jy X scope cl (Nt++Nf) s₀ H₀ fp) tg Nt.length g) (hti:∀cl s₀ H₀ fp,Rg (jy X scope cl (Nt++Nf) s₀ H₀ fp) ifs ti) (hte:∀cl s₀ H₀ fp,PL (jy X scope cl (Nt++Nf) s₀ H₀ fp) elt te)
  (hsw:swapsWith (.ListComp elt [⟨tg,iter,ifs,0⟩] scope pos) (some (.Name y py)) spos.line X.env=pure true:=by rfl) (hf:X.fn y=true∨X.env.scope.names.lookup y=some .local:=by first|exact .inl rfl|exact .inr rfl|assumption)
  (hs:∀x,foldedSetIterable iter X.env x=pure x:=by intro _;rfl):PM X (.Assign [.Name y py] (.ListComp elt [⟨tg,iter,ifs,0⟩] scope pos) spos) (bL j (lx Nt.length fi src g ti te)):=by
 intro gV s σ H Pr Z so I E h;rw[exec_Assign_Name_used _ _ _ _ hsw];refine UX (W2 (UX ?_))
 show wpAny _ X.A (do let _ <- comprehension (.ListComp elt [⟨tg,iter,ifs,0⟩] scope pos) scope X.env (firstIterPos [⟨tg,iter,ifs,0⟩] pos) (newList []) false (eval iter X.env) (some (assign (.Name y py) X.env))) _ _ s
 refine UX (Qk (wK (use:=some (assign (.Name y py) X.env)) (Q:=λ_ s'=>SM X gV Pr so .next s') (so:=λr Z1=>so .nx (Z1.set j r)) hsc hXN hc hi hkind hnames hcell hfr hnd hNf hNk hfl hg hti hte I E h (λD C s7 H6 acc Z'' m I7 hm h1 h2 h3 h4 h5 E7 p=>?_) hs) λ_ s' hq=>U9 (U9 hq))
 show wpAny _ X.A (assign (.Name y py) X.env (.ref D)) _ _ _;refine wpAny_assign_Name (vU (v:=.ref D) I7 hN hj hy rfl (λs8 I8 ⟨a,sb,ha⟩=>?_) hf)
 have hCa:C≠a:=by
  rcases ha with z|z
  . rw[z];exact h2
  . exact λq=>h4 y a z q.symm
 refine⟨m,hm.sameBut sb hCa,λh' hsb=>⟨_,H6,_,I8.turned (t':=s8.toks) (λb o hb e=>(hsb.2 b hb).trans e) h1 h2 (.inr h3) h4 h5,E7.store (by rw[I7.len];exact(U1.mp hj).1),p⟩⟩
end
section
variable{X:Cx}{e a b:Expr}{pos:Pos}{ta tb te:W L}{x y:Str}
def NH(i j:Nat)(ta tb:W L):W Fl:=λZ so=>ta Z λr Z1=>QX r λv=>tb Z1 λr2 Z2=>QX r2 λw=>so .nx ((Z2.set i (.d v)).set j (.d w))
theorem HN{i j:Nat}{px py pt:Pos} {kt k2 pt2} (hc:X.calm=true) (hN:X.N.Nodup) (hi:X.N[i]?=some x) (hj:X.N[j]?=some y) (hij:i≠j)
  (hx:X.env.scope.names.lookup x=some .local) (hy:X.env.scope.names.lookup y=some .local) (ha:PL X a ta) (hb:PL X b tb)
  (hw:swappedStores [.Tuple [.Name x px,.Name y py] kt pt] (.Tuple [a,b] k2 pt2) X.env=pure (some [x,y]))
  (hs:swapsWithSole [.Tuple [.Name x px,.Name y py] kt pt] (.Tuple [a,b] k2 pt2) pos.line X.env=pure false:=by rfl)
  (h1:starEach [a,b] X.env=(false,eval a X.env)::starEach [b] X.env:=by rfl) (h2:starEach [b] X.env=[(false,eval b X.env)]:=by rfl) :
  PM X (.Assign [.Tuple [.Name x px,.Name y py] kt pt] (.Tuple [a,b] k2 pt2) pos) (NH i j ta tb):=by
 refine PM.of (Lj hc hN hi hj hij hx hy (c9 (ay ha).pe (c9 (ay hb).pe lD h2) h1) hw hs) λσ H Pr Z so p4 E h=>?_
 refine⟨Pr,Z,λr Z1=>match r with
  |.d v=>tb Z1 λr2 Z2=>QX r2 λw=>so .nx ((Z2.set i (.d v)).set j (.d w))
  |_=>False,E,h,λv H1 r Z1 E1 pp=>?_⟩
 cases r with
 | d dv =>
  refine⟨bE H1 Z1,Z1,λr Z2=>match r with
   |.d w=>so .nx ((Z2.set i (.d dv)).set j (.d w))
   |_=>False,E1.tail.wide,pp,λw H2 r2 Z2 E2 pp=>?_⟩
  cases r2 with
  | d dw =>
   have E3:aA X.K Pr H2 (some w::some v::σ) (.d dw::.d dv::Z2):=aA.step (τ:=[some v]) (lam:=[.d dv]) (w:=[some w]) (μ:=[.d dw]) E1 rfl E2 rfl;have il:i<σ.length:=by rw[p4];exact(U1.mp hi).1
   have jl:j<σ.length:=by rw[p4];exact(U1.mp hj).1
   obtain⟨_,e1,r1⟩:=E3.head_d;cases e1;have E4:aA X.K Pr H2 (σ.set i (some v)) (Z2.set i (.d dv)):=E3.tail.store il;exact⟨v,w,rfl,_,(E4.cons_d r1).store (by simpa using jl),pp⟩
  |_=>exact pp.elim
 |_=>exact pp.elim
def C1(is:List Nat)(te:W L):W Fl:=λZ so=>te Z λr Z1=>QX r λv=>eX is v Z1 λZ2=>so .nx Z2
theorem yv{tg:Expr}{is:List Nat}(hg:Q6 X tg (eX is))(he:PL X e te)(hs:swapsWithSole [tg] e pos.line X.env=pure false:=by rfl)(hw:swappedStores [tg] e X.env=pure none:=by rfl)
  (h1:(assignEach [tg] X.env).map (·.2)=[assign tg X.env]:=by rfl):PM X (.Assign [tg] e pos) (C1 is te):=by
 intro gV s σ H Pr Z so I E h;obtain⟨gg,hg,hgg⟩:=hg;refine wpAny_Assign_stores (Qk (he gV s σ H Pr Z _ I E h) λv s1 q=>?_) hs hw;obtain⟨w,H1,d,Z1,I1,r1,E1,q1⟩:=EL.frz (so:=λd Z1=>eX is d Z1 λZ2=>so .nx Z2) q;rw[h1];obtain⟨_,e1,p1⟩:=E1.head_d;cases e1;exact Qk (hg gV s1 σ H1 w v _ I1 r1 (hgg w σ H1 Pr Z1 d _ I1.len E1.tail p1 q1)) λ_ s2 ⟨σ',H',I',e',_,Z',E',q⟩=>by subst e';exact⟨σ',_,Z',I',E',q⟩
noncomputable def p7:D->Bool
 |.non=>true | .bl _=>true | .int _=>true | .str _=>true
 |_=>false
noncomputable def Ri:D->D->Bool
 |.non,.non=>true
 |.bl a,.bl b=>a == b
 |.bl a,.int b=>(if a then 1 else 0) == b
 |.int a,.bl b=>a == (if b then 1 else 0)
 |.int a,.int b=>a == b
 |.str a,.str b=>a == b
 |_,_=>false
theorem nj{K:PySem.W.Frag}{H:Hp}{v:V}{d:D}(r:QU K H v d)(h:p7 d=true):tj v=true:=by cases r<;>first|rfl|(exact absurd h (by simp[p7]))
theorem LY{K:PySem.W.Frag}{H:Hp}{v w:V}{d f:D}(r:QU K H v d)(q:QU K H w f)(h:p7 d=true)(h':p7 f=true):QK v w=Ri d f:=by cases r<;>cases q<;>first|rfl|(exact absurd h (by simp[p7]))|(exact absurd h' (by simp[p7]))
noncomputable def QR(x:D)(ys:List D):Bool:=ys.any λy=>Ri y x
theorem wL{K:PySem.W.Frag}{H:Hp}{v:V}{x:D}(r:QU K H v x)(h:p7 x=true):∀{vs:List V}{ys:List D},bJ K H vs ys->ys.all p7=true->QM v vs=QR x ys/\vs.all tj=true
 |_,_,.nil,_=>⟨rfl,rfl⟩
 | _,_,.cons r0 t,ha=>by rw[List.all_cons,U7]at ha;obtain⟨i1,i2⟩:=wL r h t ha.2;unfold QM QR at i1 ⊢;rw[WL,WL,List.all_cons,i1,LY r0 r ha.1 h,nj r0 ha.1,i2];exact⟨rfl,rfl⟩
def yw(neg:Bool):QY:=λx y k=>p7 x=true/\oz y λys=>ys.all p7=true/\k (.d (.bl (if neg then !QR x ys else QR x ys)))
theorem LZ:QZ X (compareOp .In) (yw false):=QZ.of CC λσ H Pr Z x y dx dy so E px py ⟨hx,h⟩=>by
 cases py with
 | lst hz rs =>
  obtain⟨ha,h⟩:=h;obtain⟨i1,i2⟩:=wL px hx rs ha;exact⟨_,_,rfl,.inl hz.l,nj px hx,i2,_,E.cons_d (.bl _),by rw[i1];exact h⟩
 | tup hz rs =>
  obtain⟨ha,h⟩:=h;obtain⟨i1,i2⟩:=wL px hx rs ha;exact⟨_,_,rfl,.inr hz,nj px hx,i2,_,E.cons_d (.bl _),by rw[i1];exact h⟩
 |_=>exact h.elim
theorem zY:QZ X (compareOp .NotIn) (yw true):=QZ.of v7 λσ H Pr Z x y dx dy so E px py ⟨hx,h⟩=>by
 cases py with
 | lst hz rs =>
  obtain⟨ha,h⟩:=h;obtain⟨i1,i2⟩:=wL px hx rs ha;exact⟨_,_,rfl,.inl hz.l,nj px hx,i2,_,E.cons_d (.bl _),by rw[i1];exact h⟩
 | tup hz rs =>
  obtain⟨ha,h⟩:=h;obtain⟨i1,i2⟩:=wL px hx rs ha;exact⟨_,_,rfl,.inr hz,nj px hx,i2,_,E.cons_d (.bl _),by rw[i1];exact h⟩
 |_=>exact h.elim
def Rj(X:Cx)(lo:Option Expr)(t:Option (W L)):Prop:=match lo,t with
 |none,none=>True
 |some e,some t=>PL X e t
 |_,_=>False
theorem wM{K:PySem.W.Frag}{H:Hp}{vs:List V}{xs:List D}(r:bJ K H vs xs)(l u:Option Int):bJ K H (HF vs l u) (t9 xs l u):=by unfold HF t9;rw[r.length];exact(r.drop _).take _
noncomputable def Rk(K:PySem.W.Frag)(t:Option (W L)):TO:=λσ H Q=>∃Pr Z so,aA K Pr H σ Z/\Bt t Z so/\∀i H' Z',aA K Pr H' σ Z'->so i Z'->Q i H'
theorem Ma{lo:Option Expr}{t:Option (W L)}(h:Rj X lo t):PO X lo (Rk X.K t):=by
 cases lo with
 | none =>
  cases t with
  | none =>
   intro gV s σ H Q I ⟨Pr,Z,so,E,hw,q⟩;exact IJ gV s σ H Q I (q none H Z E hw)
  |some t=>exact h.elim
 | some e =>
  cases t with
  |none=>exact h.elim
  | some t =>
   intro gV s σ H Q I ⟨Pr,Z,so,E,hw,q⟩;refine IK (PL.pe (show PL X e t from h)) gV s σ H Q I ⟨Pr,Z,_,E,hw,λv H' r Z' E' pp=>?_⟩;obtain⟨i,rfl,pp⟩:=dG pp;obtain⟨_,e1,p1⟩:=E'.head_d;cases e1;cases p1;exact⟨i,rfl,q (some i) H' Z' E'.tail pp⟩
end
def Mb{α:Type}(o:Option L)(t u:W α)(Z:Ev)(so:α->Ev->Prop):Prop:=match o with
 |some (.own _ _)=>t Z so
 |_=>u Z so
noncomputable def dH{α:Type}(i:Nat)(t u:W α):W α:=λZ so=>Mb Z[i]? t u Z so
theorem FT{α:Type}(a:Addr)(xs:List D)(t u:W α)(Z:Ev)(so:α->Ev->Prop):Mb (some (.own a xs)) t u Z so=t Z so:=(rfl)
theorem Mc{α:Type}(x:D)(t u:W α)(Z:Ev)(so:α->Ev->Prop):Mb (some (.d x)) t u Z so=u Z so:=(rfl)
theorem Jo{α:Type}(a:Option Addr)(ls:List L)(t u:W α)(Z:Ev)(so:α->Ev->Prop):Mb (some (.bx a ls)) t u Z so=u Z so:=(rfl)
theorem fJ{X:Cx}{e:Expr}{i:Nat}{t u:W L}(h:PL X e t)(h':PL X e u):PL X e (dH i t u):=λgV s σ H Pr Z so I E q=>by
 unfold dH Mb at q;split at q
 . exact h gV s σ H Pr Z so I E q
 . exact h' gV s σ H Pr Z so I E q
theorem Jp{K:PySem.W.Frag}{c:Str}{C:Addr}{T:String}(h:jS K c C=true)(hm:PySem.W.kitMeta T=true):PySem.W.kitOne K (.ref C) (.type T)=some ((["ValueError","Exception","BaseException","object"]:List String).contains T):=by obtain⟨L,cd,S⟩:=jT h;unfold PySem.W.kitOne PySem.W.kitCls;rw[if_neg (show ¬((Value.ref C == Value.type T)=true)from λz=>by cases z)];dsimp only;rw[if_pos hm];show PySem.W.mroIn K C (.type T)=_;rw[S.mroIn,qJ]
theorem wN{T:String}(h0:∀K d,(∀c ns xs,d≠.exc c ns xs)->PySem.W.kitOne K (Rc d) (.type T)=some (ng T d))(hm:PySem.W.kitMeta T=true):∀K d t,Re K d t->PySem.W.kitOne K t (.type T)=some (ng T d):=by
 intro K d t h
 cases d with
 | exc c ns xs =>
  obtain⟨C,e,h⟩:=h;rw[e];exact Jp h hm
 |_=>cases h;exact h0 K _ (λ_ _ _ z=>nomatch z)
theorem Jq:∀ K d t,Re K d t->PySem.W.kitOne K t (.type "int")=some (ng "int" d):=wN (λK d hd=>by cases d <;> first | rfl | exact absurd rfl (hd _ _ _)) y_
theorem FU:∀ K d t,Re K d t->PySem.W.kitOne K t (.type "bool")=some (ng "bool" d):=wN (λK d hd=>by cases d <;> first | rfl | exact absurd rfl (hd _ _ _)) y_
theorem Jr:∀ K d t,Re K d t->PySem.W.kitOne K t (.type "str")=some (ng "str" d):=wN (λK d hd=>by cases d <;> first | rfl | exact absurd rfl (hd _ _ _)) y_
theorem zZ:∀ K d t,Re K d t->PySem.W.kitOne K t (.type "list")=some (ng "list" d):=wN (λK d hd=>by cases d <;> first | rfl | exact absurd rfl (hd _ _ _)) y_
theorem qM:∀ K d t,Re K d t->PySem.W.kitOne K t (.type "tuple")=some (ng "tuple" d):=wN (λK d hd=>by cases d <;> first | rfl | exact absurd rfl (hd _ _ _)) y_
def yx(K:PySem.W.Frag)(mg:Str->Option Value)(x:Str)(d:D):Prop:=∃v u,mg x=some u/\cu v u/\∀H,QU K H v d
theorem j4{X:Cx}{x:Str}{d:D}{pos:Pos}(g:yx X.K X.mg x d)(hg:Gl X x) (hdb:(x == ("__debug__" : Str))=false:=by decide):PL X (.Name x pos) (wC d):=by obtain⟨v,u,h1,h2,h3⟩:=g;exact Ja hg h1 h2 h3 hdb
def N7(o:Obj)(d:D):Prop:=∃ its n vs ds,d=.tup ds/\o.cls=.type "tuple"/\o.data=.seq its n/\its.size<=sizeLine/\bT vs its.toList/\∀ K H,bJ K H vs ds
theorem z6{K:PySem.W.Frag}{mg:Str->Option Value}{x:Str}{d:D}{l:Addr}{o:Obj}(h1:mg x=some (.ref l))(h2:K.lookup l=some o)(h3:N7 o d):yx K mg x d:=by obtain⟨its,n,vs,ds,rfl,hc,hd,hz,hv,hr⟩:=h3;exact⟨.ref l,_,h1,rfl,λH=>.tup (.inr ⟨o,its,n,h2,hc,hd,hz,hv⟩) (hr K H)⟩
theorem z7{K:PySem.W.Frag}{mg:Str->Option Value}{x:Str}{s:Str}{t:Tok}(h1:mg x=some (.str s t)):yx K mg x (.str s):=⟨.str s,_,h1,⟨t,rfl⟩,λH=>.str s⟩
theorem nq{K:PySem.W.Frag}{H:Hp}:∀ns:List Int,bJ K H (ns.map V.int) (ns.map D.int)
 |[]=>.nil
 |n::ns=>.cons (.int n) (nq ns)
theorem C2{K:PySem.W.Frag}{H:Hp}{a:Addr}{ns:List Int}{fs:FS}{n:Nat}(hl:ns.length<=n)(hO:NF H)(hS:Qn K H a (ns.map V.int))(h:fs [.d (.lst (ns.map .int))] (λr _=>r=.d (.bl true))):spF K 1 fs [.ref a] H (λv _=>v=.bl true) λ_ _ _=>False:=by
 have hz:QT K H a (ns.map V.int):=by
  rcases hS with(h|⟨o,h⟩)|h
  .
   rcases hO a with z|⟨o,xs,z⟩|⟨q,z⟩
   . rw[z]at h;cases h
   . rw[z]at h;cases h
   . rw[z]at h;cases h
  . exact .inl ⟨o,h⟩
  . exact .inr h
 refine⟨rfl,λ_=>none,[.d (.lst (ns.map .int))],_,⟨(λb o e=>nomatch e),(show([]:List Addr).Nodup from List.nodup_nil),(λa h=>absurd (show a∈([]:List Addr)from h) v6),.cons ⟨.ref a,rfl,.lst hz (nq ns)⟩ .nil⟩,h,λv H' r ls' E p=>?_⟩;subst p;obtain⟨_,e,r⟩:=E.head_d;cases e;cases r;rfl
section
variable{X:Cx}
def FV:QY:=λx y k=>match y with
 |.non=>k (.d (.bl (match x with | .non=>true|_=>false)))
 |_=>False
def ub:QY:=λx y k=>match y with
 |.non=>k (.d (.bl (match x with | .non=>false|_=>true)))
 |_=>False
theorem Js:QZ X (compareOp .Is) FV:=LW.imp λx y k h=>by
 unfold FV at h;split at h
 . exact⟨rfl,h⟩
 . exact h.elim
theorem z8:QZ X (compareOp .IsNot) ub:=Jj.imp λx y k h=>by
 unfold ub at h;split at h
 . exact⟨rfl,h⟩
 . exact h.elim
end
end L2
namespace L2
open PySem
theorem z9(a b:Int):Int.gcd b (a.fmod b)=Int.gcd a b:=by rw[Int.fmod_def,Int.gcd_sub_mul_left_right,Int.gcd_comm]
theorem lG(a:Int){b:Int}(h:b≠0):(a.fmod b).natAbs<b.natAbs:=by
 rw[Int.fmod_eq_emod];have h1:=Int.emod_nonneg a h;have h2:a % b<(b.natAbs:Int):=Int.emod_lt a h;split
 . omega
 . rename_i q;have:a % b≠0:=λe=>q (.inr (Int.dvd_of_emod_eq_zero e));omega
noncomputable def Rl(q:Rat):D:=.tup [.int q.num,.int (q.den:Int)]
theorem yy{t b:Int}(h:b≠0):0<Int.gcd t b:=Int.gcd_pos_of_ne_zero_right _ h
noncomputable def cN(t b:Int):Int:=if b<0 then -(Int.gcd t b:Int)else(Int.gcd t b:Int)
theorem Aa{t b:Int}(h:b≠0):cN t b≠0:=by have:=yy (t:=t) h;unfold cN;split<;>omega
theorem C3(t b:Int):(cN t b).natAbs=Int.gcd t b:=by unfold cN;split<;>omega
theorem Ab{t b:Int}(h:b≠0):(cN t b).natAbs<=b.natAbs:=by rw[C3];exact Wy xL (by have:=Int.gcd_dvd_right t b;exact Int.natAbs_dvd_natAbs.mpr this |> λq=>by simpa using q)
theorem qN{a g:Int}(hg:g≠0)(h:g∣a):a.fdiv (-g)=-(a / g):=by obtain⟨k,rfl⟩:=h;rw[Int.mul_ediv_cancel_left _ hg,show g*k=(-g)*(-k) by rw[Int.neg_mul_neg],Int.mul_fdiv_cancel_left _ xL]
theorem C4{t b:Int}(h:b≠0):t.fdiv (cN t b)=(Rat.divInt t b).num:=by
 have hg:=yy (t:=t) h;have hd:(Int.gcd t b:Int)∣t:=Int.gcd_dvd_left t b;rw[Rat.num_divInt,Int.gcd_comm b t];unfold cN;split
 . rename_i hb;rw[qN xL hd,Int.sign_eq_neg_one_of_neg hb,Int.neg_one_mul,Int.neg_ediv_of_dvd hd]
 . rename_i hb;rw[Int.sign_eq_one_of_pos xL,Int.one_mul,Int.fdiv_eq_ediv_of_nonneg _ xL]
theorem Jt{t b:Int}(h:b≠0):b.fdiv (cN t b)=((Rat.divInt t b).den:Int):=by
 have hg:=yy (t:=t) h;have hd:(Int.gcd t b:Int)∣b:=Int.gcd_dvd_right t b;rw[Rat.den_divInt,if_neg h,Int.gcd_comm b t,Int.natCast_ediv];unfold cN;split
 .
  rename_i hb;rw[qN xL hd,<- Int.neg_ediv_of_dvd hd]
  congr 1
  omega
 .
  rename_i hb;rw[Int.fdiv_eq_ediv_of_nonneg _ xL]
  congr 1
  omega
theorem C5{t b:Int}(h:b≠0):(Rat.divInt t b).den<=b.natAbs:=by rw[Rat.den_divInt,if_neg h];exact Nat.div_le_self _ _
theorem HP{t b:Int}(h:b≠0):(Rat.divInt t b).num.natAbs<=t.natAbs:=by rw[<- C4 h];exact PySem.natAbs_fdiv_le _ _
theorem den_pos(q:Rat):0<q.den:=Nat.pos_of_ne_zero q.den_nz
theorem wO(p q:Rat):Rat.divInt (p.num*(q.den:Int)+q.num*(p.den:Int)) ((p.den:Int)*(q.den:Int))=p+q:=by have hp:=den_pos p;have hq:=den_pos q;have:=Rat.divInt_add_divInt p.num q.num (d₁:=(p.den:Int)) (d₂:=(q.den:Int)) xL xL;rw[VE,VE]at this;exact this.symm
theorem HQ(p q:Rat):Rat.divInt (p.num*(q.den:Int)-q.num*(p.den:Int)) ((p.den:Int)*(q.den:Int))=p-q:=by have:=wO p (-q);rw[Wa,<- this];simp only[Rat.neg_num,Rat.neg_den,Int.neg_mul,Int.sub_eq_add_neg]
def RB(n:Nat)(q:Rat):Prop:=q.num.natAbs<2^n/\q.den<2^n
theorem RB.mono{m n:Nat}{q:Rat}(h:RB m q)(hl:m<=n):RB n q:=⟨U2 h.1 (Vg x_ hl),U2 h.2 (Vg x_ hl)⟩
theorem RB.neg{n:Nat}{q:Rat}(h:RB n q):RB n (-q):=⟨by rw[Rat.neg_num,Int.natAbs_neg];exact h.1,by rw[Rat.neg_den];exact h.2⟩
theorem RB.bn{n:Nat}{q:Rat}(h:RB n q)(hl:n<=1000000):cT q.num:=U2 h.1 (Vg x_ hl)
theorem RB.bd{n:Nat}{q:Rat}(h:RB n q)(hl:n<=1000000):cT (q.den:Int):=by unfold cT;rw[Vj];exact U2 h.2 (Vg x_ hl)
theorem bo{a b m n:Nat}(h1:a<2^m)(h2:b<2^n):a*b<2^(m+n):=by rw[Nat.pow_add];exact Nat.mul_lt_mul'' h1 h2
theorem RB.add{m n:Nat}{p q:Rat}(hp:RB m p)(hq:RB n q):RB (m+n+1) (p+q):=by
 have dp:=den_pos p;have dq:=den_pos q;have hne:((p.den:Int)*(q.den:Int))≠0:=Xd xL xL;rw[<- wO p q];have a1:=bo hp.1 hq.2;have a2:=bo hq.1 hp.2;have a3:=bo hp.2 hq.2;have e:(2:Nat)^(m+n+1)=2^(m+n)+2^(m+n):=by rw[Nat.pow_succ];omega
 rw[Nat.add_comm n m]at a2;constructor
 . refine Ve (HP hne) ?_;refine Ve (Int.natAbs_add_le _ _) ?_;rw[Wj,Wj,Vj,Vj,e];omega
 . refine Ve (C5 hne) ?_;rw[Wj,Vj,Vj,e];omega
theorem Bv(p q:Rat):(p+q).den<=p.den*q.den:=by have dp:=den_pos p;have dq:=den_pos q;have hne:((p.den:Int)*(q.den:Int))≠0:=Xd xL xL;rw[<- wO p q];have:=C5 (t:=p.num*(q.den:Int)+q.num*(p.den:Int)) hne;rw[Wj,Vj,Vj]at this;exact this
@[simp] theorem qO(i j:Int):Ra (.int i) (.int j)=decide (i=j):=by simp[Ra,Q9,PyData.eqv];by_cases h:i=j<;>simp[h]
@[simp] theorem Ju(i j:Str):Ra (.str i) (.str j)=decide (i=j):=by simp[Ra,Q9,PyData.eqv];by_cases h:i=j<;>simp[h]
@[simp] theorem Md(i j:Bool):Ra (.bl i) (.bl j)=decide (i=j):=by simp[Ra,Q9,PyData.eqv];cases i<;>cases j<;>rfl
@[simp] theorem Bw(i:Int):fH (.int i):=rfl
@[simp] theorem C6(i:Bool):fH (.bl i):=rfl
@[simp] theorem Bx:fH .non:=rfl
mutual
noncomputable def Rm:Nat->D->Bool
 |_,.non=>true
 |_,.bl _=>true
 |_,.int _=>true
 |_,.str x=>PyData.strOk x
 |0,.tup _=>false
 |0,.lst _=>false
 |n+1,.tup xs=>sW n xs
 |n+1,.lst xs=>sW n xs
 |_,.dct _=>false
 |_,.exc _ _ _=>false
 |_,.fn _ _=>false
noncomputable def sW:Nat->List D->Bool
 |_,[]=>true
 |n,x::xs=>Rm n x && sW n xs
end
mutual
theorem oC:∀(n:Nat)(d:D),Rm n d=true->(Q9 d).canLay0=true/\(Q9 d).depth<=n
 |_,.non,_=>⟨rfl,Wn _⟩
 |_,.bl _,_=>⟨rfl,Wn _⟩
 |_,.int _,_=>⟨rfl,Wn _⟩
 |_,.str x,h=>⟨by simpa[Rm,Q9,PyData.canLay0]using h,Wn _⟩
 |0,.tup _,h=>by simp[Rm]at h
 |0,.lst _,h=>by simp[Rm]at h
 | n+1,.tup xs,h=>by
  obtain⟨h1,h2⟩:=uO n xs (by simpa[Rm]using h)
  exact⟨h1,Nat.succ_le_succ h2⟩
 | n+1,.lst xs,h=>by
  obtain⟨h1,h2⟩:=uO n xs (by simpa[Rm]using h)
  exact⟨h1,Nat.succ_le_succ h2⟩
 |_,.dct _,h=>by simp[Rm]at h
 |_,.exc _ _ _,h=>by simp[Rm]at h
 |_,.fn _ _,h=>by simp[Rm]at h
theorem uO:∀(n:Nat)(ds:List D),sW n ds=true->PyData.canLayAll0 (ff ds)=true/\PyData.depthAll (ff ds)<=n
 |_,[],_=>⟨rfl,Wn _⟩
 | n,d::ds,h=>by
  have h':Rm n d=true/\sW n ds=true:=by simpa[sW]using h
  obtain⟨a1,a2⟩:=oC n d h'.1
  obtain⟨b1,b2⟩:=uO n ds h'.2
  exact⟨by simp[ff,PyData.canLayAll0,a1,b1],by simp only[ff,PyData.depthAll];omega⟩
end
theorem nr{n:Nat}{d:D}(h:Rm n d=true)(hn:n<=64):fH d:=by obtain⟨h1,h2⟩:=oC n d h;unfold fH SeqAt.shaped;rw[h1,Vm xL];rfl
theorem C7(xs ys:List D):Ra (.tup xs) (.tup ys)=PyData.eqvAll (ff xs) (ff ys):=by simp[Ra,Q9,PyData.eqv]
theorem Jv(xs ys:List D):Ra (.lst xs) (.lst ys)=PyData.eqvAll (ff xs) (ff ys):=by simp[Ra,Q9,PyData.eqv]
theorem j5(x y:D)(xs ys:List D):PyData.eqvAll (ff (x::xs)) (ff (y::ys))=(Ra x y && PyData.eqvAll (ff xs) (ff ys)):=by simp[ff,PyData.eqvAll,Ra]
theorem uP:PyData.eqvAll (ff []) (ff [])=true:=by simp[ff,PyData.eqvAll]
theorem nu(q:Rat):fH (Rl q):=nr (n:=1) (by simp[Rl,Rm,sW]) x_
theorem uc(p q:Rat):Ra (Rl p) (Rl q)=decide (p=q):=by
 unfold Rl;rw[C7,j5,j5,uP,qO,qO,Bool.and_true];by_cases h:p=q
 . subst h;simp
 .
  rw[Va h];by_cases h1:p.num=q.num
  . have:¬((p.den:Int)=(q.den:Int)):=λe=>h (Rat.ext h1 xL);simp[this]
  . simp[h1]
end L2
namespace L2
open PySem PySem.Spec PyProof.Rows
section
variable{X:Cx}{a b c:Expr}{pos p:Pos}{ta tb tc:W L}
def Ac(o o':QY)(ta tb tc:W L):W L:=λZ so=>ta Z λr Z1=>m7 r λi=>tb Z1 λr Z2=>m7 r λj=>o (.int i) (.int j) λz=>Bn z λk=>if k=true then tc Z2 λr Z3=>m7 r λl=>o' (.int j) (.int l) λz=>so z Z3 else so (.d (.bl false)) Z2
def NI(X:Cx)(op:CmpOp)(o:QY):Prop:=∃f:Int->Int->Bool,Qv X (compareOp op) (Qy λi j=>.bl (f i j))/\∀i j k,o (.int i) (.int j) k->k (.d (.bl (f i j)))
theorem N8:NI X .Lt uI:=⟨_,Lr,λ_ _ _ h=>h⟩
theorem N9:NI X .LtE N6:=⟨_,NV,λ_ _ _ h=>h⟩
theorem FW{op op':CmpOp}{o o':QY}{f f':Int->Int->Bool}(h1:∀i j k,o (.int i) (.int j) k->k (.d (.bl (f i j))))(h2:∀i j k,o' (.int i) (.int j) k->k (.d (.bl (f' i j))))
  (σ:St) (H Pr:Hp) (Z:Ev) (so:L->Ev->Prop) (Q:VK) (hQ:∀v H' r Z',aA X.K Pr H' (some v::σ) (r::Z')->so r Z'->Q v H') (E:aA X.K Pr H σ Z) (h:Ac o o' ta tb tc Z so) :
  HE (Qy λi j=>.bl (f i j)) (Qy λi j=>.bl (f' i j)) (tL X.K ta) (tL X.K tb) (tL X.K tc) σ H Q:=by
 refine⟨Pr,Z,_,E,h,λv H1 r Z1 E1 p=>?_⟩;obtain⟨i,rfl,p⟩:=dG p;obtain⟨_,e1,r1⟩:=E1.head_d;cases e1;cases r1;refine⟨Pr,Z1,_,E1.tail,p,λv H2 r Z2 E2 p=>?_⟩;obtain⟨j,rfl,p⟩:=dG p;obtain⟨_,e1,r1⟩:=E2.head_d;cases e1;cases r1;refine⟨i,j,rfl,rfl,f i j,rfl,?_⟩;have q:=h1 i j _ p
 cases hk:f i j with
 | false =>
  rw[hk]at q;exact hQ _ _ _ Z2 (E2.tail.cons_d (.bl false)) q
 | true =>
  rw[hk]at q;refine⟨Pr,Z2,_,E2.tail,q,λv H3 r Z3 E3 p=>?_⟩;obtain⟨l,rfl,p⟩:=dG p;obtain⟨_,e1,r1⟩:=E3.head_d;cases e1;cases r1;exact⟨j,l,rfl,rfl,hQ _ _ _ Z3 (E3.tail.cons_d (.bl _)) (h2 j l _ p)⟩
theorem FY{op op':CmpOp}{o o':QY}(ho:NI X op o)(ho':NI X op' o')(ha:PL X a ta)(hb:PL X b tb)(hc:PL X c tc)(hm:lastMarks [op,op'] [b,c]=false:=by with_unfolding_all rfl) :
  PL X (.Compare a [op,op'] [b,c] pos) (Ac o o' ta tb tc):=by
 obtain⟨f,r1,h1⟩:=ho;obtain⟨f',r2,h2⟩:=ho';exact PL.of (Fn r1 r2 ha.pe hb.pe hc.pe hm) λσ H Pr Z so E h=>FW (op:=op) (op':=op') h1 h2 σ H Pr Z so _ (λv H' r Z' E' p=>⟨r,Z',E',p⟩) E h
end
end L2
namespace L2
open PySem PySem.Spec PyProof.Rows PySem.Builtin.Str
section
variable{X:Cx}{a:Expr}{pos p2:Pos}{ta:W L}{x:Str}
theorem Me:QE X (λx lo hi H Q=>∃z,x=.str z/\z.length<=sizeLine/\Q (.str (Txt.slice z lo hi)) H):=by
 intro gV s σ H x v vl vu lo hi sl Q I rx hs pl pu h;obtain⟨z,rfl,hz,q⟩:=h;obtain⟨t,rfl⟩:=rx;refine⟨"str",_,F.slot_str_getitem.lookup,typeIs_str _ _ _,?_⟩
 obtain⟨l',rfl,rfl⟩:∃l':Option (Int×Tok),vl=partValue l'/\lo=l'.map (·.1):=by
  cases pl
  . exact⟨none,rfl,rfl⟩
  . exact⟨some (_,_),rfl,rfl⟩
 obtain⟨u',rfl,rfl⟩:∃l':Option (Int×Tok),vu=partValue l'/\hi=l'.map (·.1):=by
  cases pu
  . exact⟨none,rfl,rfl⟩
  . exact⟨some (_,_),rfl,rfl⟩
 exact wpAny_getItem_str_slice (l:=l') (u:=u') (st:=none) hs rfl (post_val_or_str ⟨U8 (Txt.slice_le z _ _) hz,λt' k=>⟨.str _,H,I.tok k,⟨t',rfl⟩,q⟩⟩)
def Jw(ta:W L)(lo hi:Option (W L)):W L:=λZ so=>ta Z λr Z1=>QX r λd=>Bt lo Z1 λl Z2=>Bt hi Z2 λu Z3=>match d with
 |.lst xs=>∀a,so (.own a (t9 xs l u)) Z3
 |.str z=>z.length<=sizeLine/\so (.d (.str (Txt.slice z l u))) Z3
 |.tup xs=>¬(HT.sIx xs.length 0 l=0/\HT.sIx xs.length xs.length u=xs.length)/\so (.d (.tup (t9 xs l u))) Z3
 |_=>False
theorem j6{lo hi:Option Expr}{tl th:Option (W L)}(ha:PL X a ta)(hl:Rj X lo tl)(hh:Rj X hi th):PL X (.Subscript a (.Slice lo hi none p2) pos) (Jw ta tl th):=by
 refine PL.of (Fs (QE.or IL (QE.or Me Lv)) (ay ha).pe (Ma hl) (Ma hh)) λσ H Pr Z so E h=>?_
 refine⟨Pr,Z,λr Z1=>match r with
  | .d d=>Bt tl Z1 λl Z2=>Bt th Z2 λu Z3=>match d with
   |.lst xs=>∀a,so (.own a (t9 xs l u)) Z3
   |.str z=>z.length<=sizeLine/\so (.d (.str (Txt.slice z l u))) Z3
   |.tup xs=>¬(HT.sIx xs.length 0 l=0/\HT.sIx xs.length xs.length u=xs.length)/\so (.d (.tup (t9 xs l u))) Z3
   |_=>False
  |_=>False,E,h,λv H1 r Z1 E1 pp=>?_⟩
 cases r with
 | d d =>
  obtain⟨_,e1,p1⟩:=E1.head_d;cases e1;refine⟨bE H1 Z1,Z1,_,E1.tail.wide,pp,λl H2 Z2 E2 pp=>?_⟩;have F2:aA X.K Pr H2 (some v::σ) (.d d::Z2):=aA.step (τ:=[some v]) (lam:=[.d d]) (w:=[]) (μ:=[]) E1 rfl E2 rfl;refine⟨bE H2 Z2,Z2,_,F2.tail.wide,pp,λu H3 Z3 E3 pp=>?_⟩;have F3:aA X.K Pr H3 (some v::σ) (.d d::Z3):=aA.step (τ:=[some v]) (lam:=[.d d]) (w:=[]) (μ:=[]) F2 rfl E3 rfl;obtain⟨_,e1,p1⟩:=F3.head_d;cases e1
  cases p1 with
  |lst hz rs=>exact .inl ⟨_,_,rfl,hz.l,λq hq=>⟨_,_,F3.tail.cons_own hq (wM rs l u),pp q⟩⟩
  |str z=>exact .inr (.inl ⟨z,rfl,pp.1,_,_,F3.tail.cons_d (.str _),pp.2⟩)
  |tup hz rs=>exact .inr (.inr ⟨_,_,rfl,hz,by rw[rs.length];exact pp.1,λq hq=>⟨_,_,F3.tail.cons_tup hq (wM rs l u),pp.2⟩⟩)
  |_=>exact pp.elim
 |_=>exact pp.elim
end
section
variable{X:Cx}{e a b c:Expr}{es:List Expr}{pos p apos:Pos}{x y:Str}
theorem Qi.turnedL{gV:List (Addr×Obj)}{σ:St}{H:Hp}{s:Shared}{h':Heap}{t':Nat}{fp:List Addr}(I:Qi X gV σ H s)(k:∀b o,b∉fp->s.heap.get? b=some o->h'.get? b=some o)(hf:∀b∈fp,Cn X gV H b):Qi X gV σ H {s with heap:=h',toks:=t' }:=by
 have nit:∀b u,H b=some u->b∉fp:=λb u e z=>by rw[(hf b z).1]at e;cases e
 refine I.step (g':=s.gens) (d':=s.drawn) (ch:=fp) (λb hb=>?_) (λb o _ _ hc e _=>k b o hc e) (λb o _ _ hc e _=>⟨o.slots,k b o hc e⟩) (λ_ _ _ _ n=>n)
  (λb o hc e=>⟨o,k b o hc e⟩) (λ_ _ e=>e) (λ_ _ _ e=>e) (λ_ _ e=>e) (λm hm=>?_) (λb u e=>?_) I.bare
 . obtain⟨f0,f1,f2,f3,f4,f5⟩:=hf b hb;exact⟨f3,f1,f4,f5⟩
 . obtain⟨o,es,ep,ho,r⟩:=hm;exact⟨o,es,ep,k _ o (λz=>(hf _ z).2.1 rfl) ho,r⟩
 .
  refine(I.hok b u e).stay (λc v hc q=>k c v ?_ q) (λ_ q=>q) (λ_ _ q=>q) λ_ _ _ _ q=>q;rcases hc with z|z
  . rw[z];exact nit b u e
  . exact nit c _ z
noncomputable def Rn(K:PySem.W.Frag)(a:Addr):It :=
 ⟨λi H=>∃xs x,Qn K H a xs/\xs[i]?=some x,λi H v H'=>∃p x,v=.ref p/\H p=none/\H'=Qa H p (.tup [.int i,x])/\∀xs,Qn K H a xs->xs[i]?=some x,λi H=>∃xs,Qn K H a xs/\xs.length<=i⟩
theorem C8{P:Program}{w:World}{K:PySem.W.Frag}{k:Nat}(q it a:Addr)(hne:q≠it):Iw P w K (.Tuple es k pos) (Rn K a) [q,it] q (λi h=>(∃old,IsEnum h q it i old)/\h.IsListIter it a i) where
 mem:=by simp
 obj:=λi h st b hb=>by
  obtain⟨⟨old,he⟩,o,e,c,d⟩:=st;rcases Vc.mp hb with rfl|hb
  .
   exact⟨_,he,λv z=>by
    have z':Data.fields _=Data.cell v:=z
    cases z'⟩
  .
   have e':b=it:=by simpa using hb
   subst e';exact⟨o,e,λv z=>by rw[d]at z;cases z⟩
 keep:=λi h h' st kk=>⟨let ⟨old,he⟩:=st.1;⟨old,kk q v6 _ he⟩,st.2.at λo e=>kk it v6 o e⟩
 item:=by
  intro X hP hw hK hc i gV s σ H E I hf st hg;subst hP hw hK;obtain⟨xs,x,hq,hx⟩:=hg;obtain⟨its,rv,p,hz⟩:=I.list hq;obtain⟨u,hu,ru⟩:=rv.get hx;obtain⟨⟨old,he⟩,hit⟩:=st;have hai:a≠it:=λz=>by subst z;obtain⟨o,e,c,d⟩:=hit;obtain⟨o',e',c',_⟩:=p.isList;rw[e]at e';cases e';rw[c]at c';exact absurd c' v6
  have hqa:q≠a:=λz=>by subst z;obtain⟨o',e',c',_⟩:=p.isList;rw[he]at e';cases e';exact absurd c' v6
  have D:=Draws.list (prog:=X.prog) (w:=X.w) (A:=X.A.in1) (I.ok.hd hc) it a hai its.toArray;have hlt:i<its.toArray.size:=by rw[Vd];exact(U1.mp hu).1
  refine wpAny_pyNext_enum_itemD D he ⟨hit,p.isList⟩ hlt hne (by simp[hne,hqa]) λx' h' tk hPx hout hst' htup hsz hk=>?_
  have hx':x'=u:=by
   have:its.toArray[i]?=some u:=by simpa using hu
   rw[this]at hPx;exact(Vq hPx).symm
  subst hx';refine⟨.ref s.heap.objs.size,rfl,wpAny_letOwnedTupleGo_enum (s:={s with heap:=h',toks:=tk+1}) hout λh'' he'' hs''=>?_⟩;have qlt:q<s.heap.objs.size:=U6 he;have ilt:it<s.heap.objs.size:=by obtain⟨o,e,_⟩:=hit;exact U6 e
  have I1:Qi X gV σ (Qa H s.heap.objs.size (.tup [.int i,x])) {s with heap:=s.heap.push {cls:=.type "tuple",data:=.seq #[.int i tk,x'] },toks:=tk} :=
   I.laid (λb ob q=>UY _ q) (Vb _) ⟨by show 2<=sizeLine;decide,[.int i tk,x'],.cons ⟨tk,rfl⟩ (.cons ru .nil),⟨_,Vn _ rfl,rfl,_,rfl⟩⟩
  have hf1:∀b∈[q,it],Cn X gV (Qa H s.heap.objs.size (.tup [.int i,x])) b:=λb hb=>by
   refine⟨?_,(hf b hb).2⟩;rw[ax ?_]
   . exact(hf b hb).1
   .
    rcases Vc.mp hb with rfl|hb
    . exact Vp qlt
    . rw[WR.mp hb];exact Vp ilt
  have I2:=I1.turnedL (h':=h'') (t':=tk+1) (fp:=[q,it]) (λb o hb e=>by
   have hbq:b≠q:=λz=>hb (by simp[z]);have hbi:b≠it:=λz=>hb (by simp[z]);refine(hs''.2 b hbq).trans ?_;rcases Heap.get?_push_cases e with⟨rfl,rfl⟩|e
   . exact htup
   .
    exact hk b o hbq hbi e) hf1
  refine⟨.ref s.heap.objs.size,_,I2,rfl,⟨_,x,rfl,I.fresh,rfl,λys hy=>by rw[I.list_inj hy hq];exact hx⟩,⟨⟨_,by simpa using he''⟩,hst'.1.extBut hs''.extBut (VX hne)⟩,λb hb=>(hf1 b hb).1⟩
 done:=by
  intro X hP hw hK hc i gV s σ H E I hf st hg;subst hP hw hK;obtain⟨xs,hq,hx⟩:=hg;obtain⟨its,rv,p,hz⟩:=I.list hq;obtain⟨⟨old,he⟩,hit⟩:=st;have hai:a≠it:=λz=>by subst z;obtain⟨o,e,c,d⟩:=hit;obtain⟨o',e',c',_⟩:=p.isList;rw[e]at e';cases e';rw[c]at c';exact absurd c' v6
  have hl:=rv.length;have hT:s.TypeIs (.ref q) "enumerate":=⟨_,he,rfl⟩;unfold pyNext
  refine UX (wpAny_attempt (wpAny_callSpecial?_slot (name:=Str.ofString "__next__") hT F.slot_enumerate_next
   (wpAny_call_entry F.slot_enumerate_next hT F.entry_enumerate_next ?_ (F.args_enumerate_next_1 _))))
  show wpAny _ _ (field (.ref q) 2 >>= _) _ _ _;refine UX (W1 he rfl (x:=.ref it) rfl ?_);refine UX (wpAny_nextOf_list_end (I.ok.hd hc) hit p.isList (by simp;omega) λh' x he' hx'=>?_);obtain⟨o,ho,hcc⟩:=hx';refine UX (wpAny_isInstance (T:="StopIteration") (b:=true) ⟨o,ho,hcc⟩ isSubtype_stop ?_);refine U9 ⟨rfl,?_⟩;exact I.turnedL (t':=s.toks) (fp:=[q,it]) (λb o hb e=>he' b o (λz=>hb (by simp[z])) e) hf
 self:=λ_ _ _ _ _ st h=>let ⟨_,he⟩:=st.1;wpAny_pyIter_enum he h
noncomputable def d8(xs:List D):List D:=xs.zipIdx.map λp=>.tup [.int (p.2:Int),p.1]
theorem By{K:PySem.W.Frag}{H:Hp}{a:Addr}{vs:List V}{xs:List D}(h:QT K H a vs)(r:bJ K H vs xs):Bo K H (Rn K a) (d8 xs):=λH' p=>by
 have h':=(h.pres p).l;have p4:(d8 xs).length=vs.length:=by rw[r.length];simp[d8]
 refine⟨λi x e=>?_,⟨vs,h',by rw[p4];exact Vb _⟩⟩;have hi:i<vs.length:=by rw[<- p4];exact(U1.mp e).1
 have hi2:i<xs.length:=by rw[<- r.length];exact hi
 have ex:x=.tup [.int (i:Int),xs[i]]:=by
  have:(d8 xs)[i]?=some (.tup [.int (i:Int),xs[i]]):=by simp[d8,hi2]
  rw[this]at e;exact(Vq e).symm
 obtain⟨v,ev,rv⟩:=r.get (i:=i) (tu hi2);refine⟨⟨vs,v,h',ev⟩,λw H2 ⟨q,y,e1,e2,e3,e4⟩=>?_⟩;have e5:=e4 vs h';rw[ev]at e5;cases e5;subst e1 e3 ex;refine⟨.inr ⟨_,_,e2,rfl⟩,.tup (.inl (.inl (aW ..))) (.cons (.int _) (.cons ((rv.pres p).new e2) .nil))⟩
def uQ(t:W L):W (List D):=λZ so=>t Z λr Z1=>QX r λd=>match d with
 |.lst xs=>so (d8 xs) Z1
 |_=>False
theorem iX{k:Nat}{t:W L} (hg:Gl X "enumerate") (hm:X.mg "enumerate"=none) (ha:PL X a t) (hs:starEach [a] X.env=[(false,eval a X.env)]:=by rfl):Q8 X (.Tuple es k apos) (.Call (.Name "enumerate" p) [a] [] pos) (uQ t):=by
 intro gV s σ H Pr Z so I E h
 refine Call_ (jw I hg hm boot_enumerate (VV (Qk (aa (ay ha) af hs pos gV s σ H Pr Z (λls Z1=>match ls with
  |[.d (.lst xs)]=>so (d8 xs) Z1
  |_=>False) I E ?_) λus s1 ⟨vs,H1,ls,Z1,I1,r1,hl,hb,E1,_,q1⟩=>?_) hs rfl))
 .
  show t Z _
  have e:(λr Z1=>QX r λd=>match d with | .lst xs=>so (d8 xs) Z1|_=>False)=(λr Z1=>QX r λx=>aI Z1 λxs Z2=>match L.d x::xs with | [.d (.lst xs)]=>so (d8 xs) Z2|_=>False):=by
   funext r Z1
   cases r with
   |un=>rfl
   |d d=>cases d<;>rfl
   |own=>rfl
   | bx b ls =>
    show d7 (bK (.bx b ls)) _=d7 (bK (.bx b ls)) _
    cases bK (.bx b ls)with
    |none=>rfl
    |some d=>cases d<;>rfl
   |dic b ls=>rfl
  rw[<- e];exact h
 .
  dsimp only at q1;split at q1
  .
   rename_i xs
   cases vs with
   |nil=>exact absurd hl v6
   | cons v vs =>
    have:vs=[]:=by
     have:vs.length=0:=by simpa using hl
     exact WB.mp this
    subst this;obtain⟨_,e1,p1⟩:=aA.head_d (σ:=σ) (Z:=Z1) E1;cases e1
    cases p1 with
    | lst hz rs =>
     obtain⟨u,rfl,ru⟩:=r1.one;cases ru;obtain⟨its,rv,pl,hz'⟩:=I1.list hz.l;refine call_enumerate_list pl.isList λh' hE hI hsz hk=>?_;refine wpAny_pyIter_enum (s:={s1 with heap:=h' }) hE ?_;have E2:aA X.K Pr H1 σ Z1:=aA.tail (σ:=σ) (Z:=Z1) E1;refine⟨s1.heap.objs.size+1,[s1.heap.objs.size+1,s1.heap.objs.size],_,_,H1,_,Z1,rfl,I1.kept (t':=s1.toks) hk,C8 _ _ _ (Nat.succ_ne_self _),⟨⟨_,hE⟩,hI⟩,λb hb=>?_,E2,By hz rs,q1⟩
     have hb':s1.heap.objs.size<=b:=by
      rcases Vc.mp hb with rfl|hb
      . exact Nat.le_succ _
      . rw[WR.mp hb];exact Vb _
     exact I1.fpOk hb' (I1.hok.fresh hb')
  . exact q1.elim
end
section
variable{X:Cx}{e a b:Expr}{es:List Expr}{pos p p2 apos:Pos}{x y:Str}
noncomputable def Ro(K:PySem.W.Frag)(a b:Addr):It :=
 ⟨λi H=>∃xs ys x y,Qn K H a xs/\Qn K H b ys/\xs[i]?=some x/\ys[i]?=some y,λi H v H'=>∃p x y,v=.ref p/\H p=none/\H'=Qa H p (.tup [x,y])/\(∀xs,Qn K H a xs->xs[i]?=some x)/\∀ys,Qn K H b ys->ys[i]?=some y,
  λi H=>∃xs ys,Qn K H a xs/\Qn K H b ys/\(xs.length<=i∨ys.length<=i)⟩
theorem cO{h:Heap}{l a:Addr}{its:Array Value}{o:Obj}(hl:h.IsList l its)(ho:h.get? a=some o) (hc:o.cls≠.type "list"):l≠a:=λz=>by subst z;obtain⟨o',e',c',_⟩:=hl;rw[ho]at e';cases e';exact hc c'
theorem FZ{P:Program}{w:World}{K:PySem.W.Frag}{k:Nat}(z TI TO i1 i2 l1 l2:Addr)(hnd:[z,TI,TO,i1,i2].Nodup):Iw P w K (.Tuple es k pos) (Ro K l1 l2) [z,TI,TO,i1,i2] z
  (λi h=>IsZip h z TI TO .none/\IsPair h TI (.ref i1) (.ref i2)/\(∃a b,IsPair h TO a b)/\h.IsListIter i1 l1 i/\h.IsListIter i2 l2 i) where
 mem:=by simp
 obj:=λi h st b hb=>by
  obtain⟨hz,hTI,⟨p,q,hTO⟩,⟨o1,e1,c1,d1⟩,⟨o2,e2,c2,d2⟩⟩:=st;simp only[Vc,WO,or_false]at hb;rcases hb with rfl|rfl|rfl|rfl|rfl
  .
   exact⟨_,hz,λv z=>by
    have z':Data.fields _=Data.cell v:=z
    cases z'⟩
  .
   exact⟨_,hTI,λv z=>by
    have z':Data.seq _ _=Data.cell v:=z
    cases z'⟩
  .
   exact⟨_,hTO,λv z=>by
    have z':Data.seq _ _=Data.cell v:=z
    cases z'⟩
  . exact⟨o1,e1,λv z=>by rw[d1]at z;cases z⟩
  . exact⟨o2,e2,λv z=>by rw[d2]at z;cases z⟩
 keep:=λi h h' st kk=>by obtain⟨hz,hTI,⟨p,q,hTO⟩,h1,h2⟩:=st;exact⟨kk z v6 _ hz,kk TI v6 _ hTI,⟨p,q,kk TO v6 _ hTO⟩,h1.at λo e=>kk i1 v6 o e,h2.at λo e=>kk i2 v6 o e⟩
 item:=by
  intro X hP hw hK hc i gV s σ H E I hf st hg;subst hP hw hK;obtain⟨xs,ys,x,y,hq1,hq2,hx,hy⟩:=hg;obtain⟨its,rv,pl,_⟩:=I.list hq1;obtain⟨its2,rv2,pl2,_⟩:=I.list hq2;obtain⟨u,hu,ru⟩:=rv.get hx;obtain⟨u2,hu2,ru2⟩:=rv2.get hy;obtain⟨hz,hTI,⟨p,q,hTO⟩,h1,h2⟩:=st;obtain⟨o1,e1,c1,d1⟩:=id h1;obtain⟨o2,e2,c2,d2⟩:=id h2;have n1:o1.cls≠.type "list":=by rw[c1]; simp
  have n2:o2.cls≠.type "list":=by rw[c2]; simp
  simp only[VC,Vc,WO,or_false,not_or,List.nodup_nil,and_true,not_false_eq_true]at hnd;obtain⟨⟨a1,a2,a3,a4⟩,⟨b1,b2,b3⟩,⟨c1',c2'⟩,d1'⟩:=hnd
  have D:ZipApart z TI TO i1 i2 l1 l2:=⟨VX a1,VX a2,VX a3,VX a4,b1,b2,b3,c1',c2',d1',cO pl.isList hz v6,cO pl.isList hTO v6,cO pl.isList e1 n1,cO pl.isList e2 n2,
   cO pl2.isList hz v6,cO pl2.isList hTO v6,cO pl2.isList e1 n1,cO pl2.isList e2 n2⟩
  refine wpAny_pyNext_zip_item D hz hTI hTO h1 h2 pl.isList pl2.isList (x:=u) (y:=u2) (by simpa using hu) (by simpa using hu2) λh' hz' hTO' h1' h2' hT' hsz hk=>?_;refine⟨.ref s.heap.objs.size,rfl,wpAny_letOwnedTupleGo_zip (s:={s with heap:=h' }) hz' λh'' hz'' hs''=>?_⟩
  have lt:∀b∈[z,TI,TO,i1,i2],b<s.heap.objs.size:=λb hb=>by
   simp only[Vc,WO,or_false]at hb;rcases hb with rfl|rfl|rfl|rfl|rfl
   . exact U6 hz
   . exact U6 hTI
   . exact U6 hTO
   . exact U6 e1
   . exact U6 e2
  have I1:Qi X gV σ (Qa H s.heap.objs.size (.tup [x,y])) {s with heap:=s.heap.push {cls:=.type "tuple",data:=.seq #[u,u2] },toks:=s.toks} :=
   I.laid (λb ob q=>UY _ q) (Vb _) ⟨by show 2<=sizeLine;decide,[u,u2],.cons ru (.cons ru2 .nil),⟨_,Vn _ rfl,rfl,_,rfl⟩⟩
  have hf1:∀b∈[z,TI,TO,i1,i2],Cn X gV (Qa H s.heap.objs.size (.tup [x,y])) b:=λb hb=>by refine⟨?_,(hf b hb).2⟩;rw[ax (Vp (lt b hb))];exact(hf b hb).1
  have I2:=I1.turnedL (h':=h'') (t':=s.toks) (fp:=[z,TI,TO,i1,i2]) (λb o hb e=>by
   simp only[Vc,WO,or_false,not_or]at hb;obtain⟨hbz,hbTI,hbTO,hb1,hb2⟩:=hb;refine(hs''.2 b hbz).trans ?_;rcases Heap.get?_push_cases e with⟨rfl,rfl⟩|e
   . exact hT'
   .
    exact hk b o hbz hbTO hb1 hb2 e) hf1
  exact⟨.ref s.heap.objs.size,_,I2,rfl,⟨_,x,y,rfl,I.fresh,rfl,λzs hy'=>by rw[I.list_inj hy' hq1];exact hx,λzs hy'=>by rw[I.list_inj hy' hq2];exact hy⟩,
   ⟨hz'',hs''.extBut _ _ D.TIz (hk _ _ D.TIz D.TITO D.TIi1 D.TIi2 hTI),⟨_,_,hs''.extBut _ _ D.TOz hTO'⟩,h1'.extBut hs''.extBut D.i1z,h2'.extBut hs''.extBut D.i2z⟩,λb hb=>(hf1 b hb).1⟩
 done:=by
  intro X hP hw hK hc i gV s σ H E I hf st hg;subst hP hw hK;obtain⟨xs,ys,hq1,hq2,hend⟩:=hg;obtain⟨its,rv,pl,_⟩:=I.list hq1;obtain⟨its2,rv2,pl2,_⟩:=I.list hq2;obtain⟨hz,hTI,⟨p,q,hTO⟩,h1,h2⟩:=st;obtain⟨o1,e1,c1,d1⟩:=id h1;obtain⟨o2,e2,c2,d2⟩:=id h2;have n1:o1.cls≠.type "list":=by rw[c1]; simp
  have n2:o2.cls≠.type "list":=by rw[c2]; simp
  simp only[VC,Vc,WO,or_false,not_or,List.nodup_nil,and_true,not_false_eq_true]at hnd;obtain⟨⟨a1,a2,a3,a4⟩,⟨b1,b2,b3⟩,⟨c1',c2'⟩,d1'⟩:=hnd
  have D:ZipApart z TI TO i1 i2 l1 l2:=⟨VX a1,VX a2,VX a3,VX a4,b1,b2,b3,c1',c2',d1',cO pl.isList hz v6,cO pl.isList hTO v6,cO pl.isList e1 n1,cO pl.isList e2 n2,
   cO pl2.isList hz v6,cO pl2.isList hTO v6,cO pl2.isList e1 n1,cO pl2.isList e2 n2⟩
  have hl:=rv.length;have hl2:=rv2.length
  have hend':its.toArray[i]?=none∨its2.toArray[i]?=none:=by
   rcases hend with h|h
   . exact .inl (by simp;omega)
   . exact .inr (by simp;omega)
  refine wpAny_pyNext_zip_end (I.ok.hd hc) D hz hTI hTO h1 h2 pl.isList pl2.isList hend' λh' hk=>⟨rfl,?_⟩;exact I.turnedL (t':=s.toks) (fp:=[z,TI,TO,i1,i2]) (λb o hb e=>hk b o (λz=>hb (by simp[z])) (λz=>hb (by simp[z])) (λz=>hb (by simp[z])) (λz=>hb (by simp[z])) e) hf
 self:=λ_ _ _ _ _ st h=>wpAny_pyIter_zip st.1 h
noncomputable def Cb(xs ys:List D):List D:=(xs.zip ys).map λp=>.tup [p.1,p.2]
theorem C9{K:PySem.W.Frag}{H:Hp}{a b:Addr}{vs ws:List V}{xs ys:List D}(h:QT K H a vs)(r:bJ K H vs xs)(h2:QT K H b ws)(r2:bJ K H ws ys):Bo K H (Ro K a b) (Cb xs ys):=λH' p=>by
 have h':=(h.pres p).l;have h2':=(h2.pres p).l;have p4:(Cb xs ys).length=min vs.length ws.length:=by rw[r.length,r2.length];simp[Cb]
 refine⟨λi x e=>?_,⟨vs,ws,h',h2',by rw[p4];omega⟩⟩;have hi:i<min vs.length ws.length:=by rw[<- p4];exact(U1.mp e).1
 have hi2:i<xs.length:=by rw[<- r.length];omega
 have hi3:i<ys.length:=by rw[<- r2.length];omega
 have ex:x=.tup [xs[i],ys[i]]:=by
  have:(Cb xs ys)[i]?=some (.tup [xs[i],ys[i]]):=by simp[Cb,hi2,hi3,List.getElem?_zip_eq_some]
  rw[this]at e;exact(Vq e).symm
 obtain⟨v,ev,rv⟩:=r.get (i:=i) (tu hi2);obtain⟨v2,ev2,rv2⟩:=r2.get (i:=i) (tu hi3);refine⟨⟨vs,ws,v,v2,h',h2',ev,ev2⟩,λw H2 ⟨q,y,y2,e1,e2,e3,e4,e5⟩=>?_⟩;have e6:=e4 vs h';have e7:=e5 ws h2';rw[ev]at e6;rw[ev2]at e7;cases e6;cases e7;subst e1 e3 ex;refine⟨.inr ⟨_,_,e2,rfl⟩,.tup (.inl (.inl (aW ..))) (.cons ((rv.pres p).new e2) (.cons ((rv2.pres p).new e2) .nil))⟩
def K4(d d2:D)(k:List D->Prop):Prop:=match d,d2 with
 |.lst xs,.lst ys=>k (Cb xs ys)
 |_,_=>False
def Mf(t u:W L):W (List D):=λZ so=>t Z λr Z1=>QX r λd=>u Z1 λr2 Z2=>QX r2 λd2=>K4 d d2 λzs=>so zs Z2
theorem yz{k:Nat}{t u:W L} (hg:Gl X "zip") (hm:X.mg "zip"=none) (ha:PL X a t) (hb:PL X b u) (hs:starEach [a,b] X.env=[(false,eval a X.env),(false,eval b X.env)]:=by rfl) (hs2:starEach [b] X.env=[(false,eval b X.env)]:=by rfl) :
  Q8 X (.Tuple es k apos) (.Call (.Name "zip" p) [a,b] [] pos) (Mf t u):=by
 intro gV s σ H Pr Z so I E h
 refine Call_ (jw I hg hm boot_zip (VV (Qk (aa (ay ha) (aa (ay hb) af hs2) (by rw[hs,hs2]) pos gV s σ H Pr Z (λls Z1=>match ls with
  |[.d d,.d d2]=>K4 d d2 λzs=>so zs Z1
  |_=>False) I E ?_) λus s1 ⟨vs,H1,ls,Z1,I1,r1,hl,hb,E1,_,q1⟩=>?_) (by rw[hs,hs2]) (by rw[hs2];rfl)))
 .
  show t Z _
  have e:(λr Z1=>QX r λd=>u Z1 λr2 Z2=>QX r2 λd2=>K4 d d2 λzs=>so zs Z2)
    = (λr Z1=>QX r λx=>ar (bG u) aI Z1 λxs Z2=>match L.d x::xs with | [.d d,.d d2]=>K4 d d2 λzs=>so zs Z2|_=>False):=by
   funext r Z1
   cases r with
   |un=>rfl
   |d d=>rfl
   |own a xs=>rfl
   | bx b ls =>
    show d7 (bK (.bx b ls)) _=d7 (bK (.bx b ls)) _;cases bK (.bx b ls)<;>rfl
   |dic b ls=>rfl
  rw[<- e];exact h
 .
  dsimp only at q1;split at q1
  .
   rename_i d d2;unfold K4 at q1;split at q1
   rotate_left
   . exact q1.elim
   rename_i xs ys
   match vs,hl with
   | [v,v2],_ =>
    obtain⟨_,e1,p1⟩:=aA.head_d (σ:=some v2::σ) (Z:=.d (.lst ys)::Z1) E1;cases e1;obtain⟨_,e1,p2⟩:=aA.head_d (σ:=σ) (Z:=Z1) (aA.tail (σ:=some v2::σ) (Z:=.d (.lst ys)::Z1) E1);cases e1
    cases p1 with
    | lst hz rs =>
     cases p2 with
     | lst hz2 rs2 =>
      obtain⟨u1,u2,rfl,ru,ru2⟩:=r1.two;cases ru;cases ru2;obtain⟨its,rv,pl,_⟩:=I1.list hz.l;obtain⟨its2,rv2,pl2,_⟩:=I1.list hz2.l;refine call_zip_2 pl.isList pl2.isList λh' hZ hTI hTO hI1 hI2 hsz hk=>?_;refine wpAny_pyIter_zip (s:={s1 with heap:=h' }) hZ ?_;have E1':aA X.K Pr H1 (some _::some _::σ) (.d _::.d _::Z1):=E1;have E2:aA X.K Pr H1 σ Z1:=E1'.tail.tail;refine⟨s1.heap.objs.size+4,[s1.heap.objs.size+4,s1.heap.objs.size+2,s1.heap.objs.size+3,s1.heap.objs.size,s1.heap.objs.size+1],_,_,H1,_,Z1,rfl,I1.kept (t':=s1.toks) hk,FZ _ _ _ _ _ _ _ v6,⟨hZ,hTI,⟨_,_,hTO⟩,hI1,hI2⟩,λb hb=>?_,E2,C9 hz rs hz2 rs2,q1⟩
      have hb':s1.heap.objs.size<=b:=by
       simp only[Vc,WO,or_false]at hb;rcases hb with rfl|rfl|rfl|rfl|rfl
       . exact WN _ _
       . exact WN _ _
       . exact WN _ _
       . exact Vb _
       . exact WN _ _
      exact I1.fpOk hb' (I1.hok.fresh hb')
  . exact q1.elim
end
section
variable{X:Cx}{es:List Expr}{pos:Pos}{x:Str}
def NJ(X:Cx)(es:List Expr)(n:Nat)(is:List Nat):Prop:=∃gg:Qp,Qq X es gg/\es.length=is.length/\∀vs σ H Pr Z xs k,σ.length=X.N.length->aA X.K Pr H σ Z->bJ X.K H vs xs->iS is xs Z k->gg vs σ H λσ' H'=>H'=H/\σ'.drop n=σ.drop n/\∃Z',aA X.K Pr H σ' Z'/\k Z'
theorem uR{n:Nat}:NJ X [] n []:=⟨_,Cm,rfl,λvs σ H Pr Z xs k hl E r h=>by
 cases r with
 |nil=>exact⟨rfl,rfl,rfl,Z,E,h⟩
 |cons _ _=>exact h.elim⟩
theorem gK{i n:Nat}{is:List Nat}{x:Str}(hn:i<n)(hN:X.N.Nodup)(hi:X.N[i]?=some x)(hx:Qh X.env.scope x)(hr:NJ X es n is)(hf:X.fn x=true∨X.env.scope.names.lookup x=some .local:=by first|exact .inl rfl|exact .inr rfl|assumption)
  (hs:(assignEach (.Name x pos::es) X.env).map (·.2)=assign (.Name x pos) X.env::(assignEach es X.env).map (·.2):=by rfl):NJ X (.Name x pos::es) n (i::is):=by
 obtain⟨gg,hg,p4,q⟩:=hr;refine⟨_,zO (uy hN hi hx hf) hg hs,by simp[p4],λvs σ H Pr Z xs k hl E r h=>?_⟩
 cases r with
 |nil=>exact h.elim
 | cons r0 t =>
  refine⟨_,_,rfl,?_⟩;have:=q _ (σ.set i (some _)) H Pr _ _ k (by simpa using hl) ((E.cons_d r0).store (by rw[hl];exact(U1.mp hi).1)) t h;rw[List.drop_set_of_lt hn]at this;exact this
theorem Ad{is:List Nat}{k n:Nat}(hc:X.calm=true)(h:NJ X es n is)(hn:(assignEach es X.env).length=is.length:=by rfl)(hst:(assignEach es X.env).findIdx? (·.1)=none:=by rfl):Rf X (.Tuple es k pos) n (eX is):=by
 obtain⟨gg,hg,p4,q⟩:=h;refine⟨_,HD hc hg hn hst,λv σ H Pr Z x k hl E r h=>?_⟩
 cases r with
 |tup hs rs=>exact⟨_,_,rfl,hs,by rw[rs.length];exact l7 h,q _ σ H Pr Z _ k hl E rs h⟩
 |_=>exact h.elim
end
end L2
namespace L2
open PySem PySem.Spec PyProof.Rows
mutual
noncomputable def Rp:D->Bool
 |.lst _=>false
 |.dct _=>false
 |.exc _ _ _=>false
 |.fn _ _=>false
 |.tup xs=>uS xs
 |_=>true
noncomputable def uS:List D->Bool
 |[]=>true
 |x::xs=>Rp x && uS xs
end
mutual
noncomputable def lH:L->Bool
 |.un=>true
 |.d x=>Rp x
 |.own _ xs=>uS xs
 |.bx _ ls=>qP ls
 |.dic _ kvs=>kvs.all λp=>Rp p.2
noncomputable def qP:List L->Bool
 |[]=>true
 |l::ls=>lH l && qP ls
end
theorem yA:lH .un=true:=by simp[lH]
theorem Mg(x:D):lH (.d x)=Rp x:=by simp[lH]
theorem F0(a:Addr)(xs:List D):lH (.own a xs)=uS xs:=by simp[lH]
theorem Jx(a:Option Addr)(ls:List L):lH (.bx a ls)=qP ls:=by simp[lH]
theorem F4(a:Addr)(kvs:List (P9×D)):lH (.dic a kvs)=kvs.all λp=>Rp p.2:=by simp[lH]
theorem Da:qP []=true:=by simp[qP]
theorem Bz(l:L)(ls:List L):qP (l::ls)=(lH l && qP ls):=by simp[qP]
section
variable{X:Cx}{gV:List (Addr×Obj)}{σ:St}{H:Hp}{s:Shared}
theorem Qi.thaw{a:Addr}{o:Obj}{xs:List V}(I:Qi X gV σ H s)(h:H a=some (.frz o (.lst xs)))(h0:∀o u,X.H₀ a≠some (.frz o u)):Qi X gV σ (Qa H a (.lst xs)) s:=by
 have ne:∀b,H b=none->b≠a:=λb n e=>by subst e;rw[h]at n;cases n
 have nt:∀b xs,H b=some (.tup xs)->b≠a:=λb xs n e=>by subst e;rw[h]at n;cases n
 have no:∀b z,H b=some (.own z)->b≠a:=λb z n e=>by subst e;rw[h]at n;cases n
 have nf:∀b o,H b=some (.frz o (.own b))->b≠a:=λb o n e=>by subst e;rw[h]at n;cases n
 have nw:=(I.hok a _ h).2;refine⟨I.ok,I.os,I.bare,⟨I.base.keep,I.base.slot,λb ob e n hx=>?_,I.base.there,λb xs e=>?_,λb ob z e=>?_,λb ps e=>?_⟩,I.loc,I.cell,?_,λx c e=>?_,λp hp=>?_,λb z e=>?_,I.len⟩
 . have q:=I.base.free b ob e n hx;rw[ax (ne b q)];exact q
 . have q:=I.base.tups b xs e;rw[ax (nt b xs q)];exact q
 . have q:=I.base.frzs b ob z e;rw[ax (λy=>by subst y;exact h0 _ _ e)];exact q
 . have q:=I.base.tbls b ps e;rw[ax (λz=>by subst z;rw[h]at q;cases q)];exact q
 . rw[ax (ne _ I.free)];exact I.free
 .
  rcases I.freeC x c e with z|⟨hf,o,z⟩
  . exact .inl (by rw[ax (ne _ z)];exact z)
  . exact .inr ⟨hf,o,by rw[ax (nf _ _ z)];exact z⟩
 . obtain⟨e,n,r⟩:=I.pin p hp;exact⟨e,by rw[ax (ne _ n)];exact n,r⟩
 .
  by_cases hb:b=a
  . subst hb;rw[aW]at e;cases e;exact nw.stay (λc v _ q=>q) (λc q=>by rw[ax (no c _ q)];exact q) (λc xs q=>by rw[ax (nt c xs q)];exact q) λc ob _ _ q=>by rw[ax (nf c ob q)];exact q
  . rw[ax hb]at e;exact(I.hok b z e).stay (λc v _ q=>q) (λc q=>by rw[ax (no c _ q)];exact q) (λc xs q=>by rw[ax (nt c xs q)];exact q) λc ob _ _ q=>by rw[ax (nf c ob q)];exact q
end
def lI(H' H2:Hp)(S:List Addr):Prop:=(∀b,b∉S->H2 b=H' b)/\(∀a∈S,∃o vs,H' a=some (.frz o (.lst vs))/\H2 a=some (.lst vs))
theorem Dc{X:Cx}{gV:List (Addr×Obj)}{σ:St}{s:Shared}:∀(S:List Addr){H:Hp},S.Nodup->Qi X gV σ H s->(∀a∈S,∃o vs,H a=some (.frz o (.lst vs)))->(∀a∈S,∀o u,X.H₀ a≠some (.frz o u))->∃H2,Qi X gV σ H2 s/\lI H H2 S
 |[],H,_,I,_,_=>⟨H,I,λ_ _=>rfl,λ_ h=>by simp at h⟩
 | a::S,H,nd,I,h,h0=>by
  obtain⟨na,nd⟩:=VC.mp nd;obtain⟨o,vs,ea⟩:=h a UZ;have I1:=I.thaw ea (h0 a UZ)
  obtain⟨H2,I2,T1,T2⟩:=Dc S nd I1 (λb hb=>by
   obtain⟨o,us,e⟩:=h b (UW _ hb)
   exact⟨o,us,by rw[ax (λz:b=a=>na (by rw[<- z];exact hb))];exact e⟩) λb hb=>h0 b (UW _ hb)
  refine⟨H2,I2,λb hb=>?_,λb hb=>?_⟩
  . rw[T1 b (λz=>hb (UW _ z)),ax (λz:b=a=>hb (by rw[z];exact UZ))]
  .
   rcases Vc.mp hb with rfl|hb
   . exact⟨o,vs,ea,by rw[T1 b na,aW]⟩
   . obtain⟨o',us,e1,e2⟩:=T2 b hb;rw[ax (λz:b=a=>na (by rw[<- z];exact hb))]at e1;exact⟨o',us,e1,e2⟩
section
variable{K:PySem.W.Frag}{H' H2:Hp}{S:List Addr}
mutual
theorem QU.thaw(T:lI H' H2 S):∀{v:V}{d:D},Rp d=true->QU K H' v d->QU K H2 v d
 |_,_,_,.non=>.non
 |_,_,_,.bl b=>.bl b
 |_,_,_,.int i=>.int i
 |_,_,_,.str x=>.str x
 | _,_,h,.tup hs r=>by
  refine .tup ?_ (bJ.thaw T (by simpa[Rp]using h) r)
  rcases hs with(e|⟨u,e⟩)|e
  .
   exact .inl (.inl (by rw[T.1 _ λz=>by obtain⟨o,vs,e1,_⟩:=T.2 _ z;rw[e1]at e;cases e];exact e))
  .
   exact .inl (.inr ⟨u,by rw[T.1 _ λz=>by obtain⟨o,vs,e1,_⟩:=T.2 _ z;rw[e1]at e;cases e];exact e⟩)
  .
   exact .inr e
 |_,_,h,.lst hs r=>by simp[Rp]at h
 |_,_,h,.dct e=>by simp[Rp]at h
 |_,_,h,.exc _ _ _ _ _ _ _ _=>by simp[Rp]at h
 |_,_,h,.fn _ _ _ _ _ _ _ _ _=>by simp[Rp]at h
theorem bJ.thaw(T:lI H' H2 S):∀{vs:List V}{ds:List D},uS ds=true->bJ K H' vs ds->bJ K H2 vs ds
 |_,_,_,.nil=>.nil
 | _,_,h,.cons r t=>by
  simp only[uS,U7]at h
  exact .cons (QU.thaw T h.1 r) (bJ.thaw T h.2 t)
end
theorem lI.lst(T:lI H' H2 S){a:Addr}{vs:List V}(h:H' a=some (.lst vs)):a∉S/\H2 a=some (.lst vs):=by
 have n:a∉S:=λz=>by obtain⟨o,us,e,_⟩:=T.2 a z;rw[h]at e;cases e
 exact⟨n,(T.1 a n).trans h⟩
theorem lI.tup(T:lI H' H2 S){a:Addr}{vs:List V}(h:Qo K H' a vs):Qo K H2 a vs:=by
 rcases h with(e|⟨u,e⟩)|e
 . exact .inl (.inl (by rw[T.1 _ λz=>by obtain⟨o,vs,e1,_⟩:=T.2 _ z;rw[e1]at e;cases e];exact e))
 . exact .inl (.inr ⟨u,by rw[T.1 _ λz=>by obtain⟨o,vs,e1,_⟩:=T.2 _ z;rw[e1]at e;cases e];exact e⟩)
 . exact .inr e
mutual
theorem a8.thaw(T:lI H' H2 S):∀{s:Option V}(l:L),lH l=true->a8 K H' s l->a8 K H2 s l
 |_,.un,_,_=>by unfold a8;exact True.intro
 | _,.d x,h,q=>by
  unfold a8 at q ⊢
  obtain⟨v,e,r⟩:=q
  exact⟨v,e,r.thaw T (by simpa[lH]using h)⟩
 | _,.own a xs,h,q=>by
  unfold a8 at q ⊢
  obtain⟨e,vs,ha,r⟩:=q
  exact⟨e,vs,(T.lst ha).2,r.thaw T (by simpa[lH]using h)⟩
 | _,.bx none ls,h,q=>by
  unfold a8 at q ⊢
  obtain⟨a,vs,e,ha,r⟩:=q
  exact⟨a,vs,e,T.tup ha,cb.thaw T ls (by simpa[lH]using h) r⟩
 | _,.bx (some a) ls,h,q=>by
  unfold a8 at q ⊢
  obtain⟨e,vs,ha,r⟩:=q
  exact⟨e,vs,(T.lst ha).2,cb.thaw T ls (by simpa[lH]using h) r⟩
 | _,.dic a kvs,h,q=>by
  unfold a8 at q ⊢
  obtain⟨e,vs,ha,r⟩:=q
  have h':∀p∈kvs,Rp p.2=true:=by simpa[lH]using h
  refine⟨e,vs,?_,Paired.impMem r λp hp q z=>⟨z.1,z.2.thaw T (h' p hp)⟩⟩
  rw[T.1 a λz=>by obtain⟨o,us,e1,_⟩:=T.2 _ z;rw[e1]at ha;cases ha]
  exact ha
theorem cb.thaw(T:lI H' H2 S):∀{vs:List V}(ls:List L),qP ls=true->cb K H' vs ls->cb K H2 vs ls
 |_,[],_,q=>by unfold cb at q ⊢;exact q
 | _,l::ls,h,q=>by
  unfold cb at q ⊢
  simp only[qP,U7]at h
  obtain⟨v,us,e,h1,h2⟩:=q
  exact⟨v,us,e,a8.thaw T l h.1 h1,cb.thaw T ls h.2 h2⟩
end
end
noncomputable def tF:L->Bool
 |.d _=>true
 |l=>lH l
theorem F5:tF .un=true:=by simp[tF,lH]
theorem Jy(x:D):tF (.d x)=true:=rfl
theorem Dd(a:Addr)(xs:List D):tF (.own a xs)=uS xs:=by simp[tF,lH]
theorem De(a:Addr)(kvs:List (P9×D)):tF (.dic a kvs)=kvs.all λp=>Rp p.2:=by simp[tF,lH]
theorem F6(a:Option Addr)(ls:List L):tF (.bx a ls)=qP ls:=by simp[tF,lH]
noncomputable def d9(i:Nat)(Z:Ev):Bool:=(Z.set i .un).all tF
theorem ud{K:PySem.W.Frag}{H0 H' H2:Hp}{S:List Addr}(T:lI H' H2 S)(p:vQ H0 H2):∀{σ:St}{Z Z0:Ev},Z.length=Z0.length ->
  (∀(j:Nat)(l:L),Z[j]?=some l->lH l=true∨∃x,l=.d x/\Z0[j]?=some (.d x))->Paired (a8 K H0) σ Z0->Paired (a8 K H') σ Z->Paired (a8 K H2) σ Z
 |[],[],_,_,_,_,_=>.nil
 | s::σ,l::Z,l0::Z0,hl,h,.cons q0 t0,.cons q t=>by
  refine .cons ?_ (ud T p (by simpa using hl) (λj l e=>h (j+1) l e) t0 t);rcases h 0 l rfl with hh|⟨x,rfl,e⟩
  . exact q.thaw T l hh
  .
   have e:l0=.d x:=by simpa using e
   subst e;exact q0.pres p (.d x) λa ha=>by simp[bb]at ha
 |[],_::_,_,_,_,_,t=>nomatch t
 |_::_,[],_,_,_,_,t=>nomatch t
mutual
theorem a8.lsts{K:PySem.W.Frag}{H:Hp}:∀{s:Option V}(l:L){x:D},a8 K H s l->bK l=some x->∀a∈bb l,∃vs,H a=some (.lst vs)
 |_,.un,_,_,_,a,ha=>by simp[bb]at ha
 |_,.d x,_,_,_,a,ha=>by simp[bb]at ha
 |_,.dic _ _,_,_,h,_,_=>by simp[bK]at h
 | _,.own b xs,_,h,_,a,ha=>by
  simp only[a8]at h
  have e:a=b:=by simpa[bb]using ha
  subst e
  obtain⟨_,vs,q,_⟩:=h
  exact⟨_,q⟩
 | _,.bx none ls,_,h,hx,a,ha=>by
  simp only[a8]at h
  simp only[bK,Option.map_eq_some_iff]at hx
  obtain⟨xs,hx,_⟩:=hx
  obtain⟨b,vs,e,_,r⟩:=h
  exact cb.lsts ls r hx a (by simpa[bb]using ha)
 | _,.bx (some b) ls,_,h,hx,a,ha=>by
  simp only[a8]at h
  simp only[bK,Option.map_eq_some_iff]at hx
  obtain⟨xs,hx,_⟩:=hx
  obtain⟨e,vs,q,r⟩:=h
  rcases(by simpa[bb]using ha:a=b∨a∈eU ls)with z|z
  .
   subst z;exact⟨_,q⟩
  .
   exact cb.lsts ls r hx a z
theorem cb.lsts{K:PySem.W.Frag}{H:Hp}:∀{vs:List V}(ls:List L){xs:List D},cb K H vs ls->cx ls=some xs->∀a∈eU ls,∃vs,H a=some (.lst vs)
 |_,[],_,_,_,a,ha=>by simp[eU]at ha
 | _,l::ls,_,h,hx,a,ha=>by
  simp only[cb]at h
  obtain⟨v,us,e,h1,h2⟩:=h
  simp only[cx]at hx
  split at hx
  .
   rename_i x1 xs1 e1 e2
   rcases(by simpa[eU]using ha:a∈bb l∨a∈eU ls)with z|z
   .
    exact a8.lsts l h1 e1 a z
   .
    exact cb.lsts ls h2 e2 a z
  .
   cases hx
end
theorem Df{X:Cx}{gV:List (Addr×Obj)}{σ0:St}{s s1:Shared}{Pr H H1 H':Hp}{σ τ:St}{Z lam:Ev}{i:Nat}{k:L}{x:D}{v:Option V}(I:Qi X gV σ0 H s)(E:aA X.K Pr H σ Z)(hi:Z[i]?=some k)(hSa:∀a∈bb k,∃vs,H a=some (.lst vs))(F:pG H H1 (bb k))(hfl:d9 i Z=true)
  (I':Qi X gV σ0 H' s1) (E1:aA X.K Pr H1 σ (Z.set i (.d x))) (E':aA X.K (bE H1 (Z.set i (.d x))) H' (τ++σ) (lam++Z.set i (.d x))) (p4:τ.length=lam.length) (hr:lam.all lH=true):∃H2,Qi X gV σ0 H2 s1/\aA X.K Pr H2 (τ++σ) (lam++Z):=by
 have hil:i<Z.length:=(U1.mp hi).1;have prm:=iz hi (l:=.d x) rfl;have hnd:(bb k++owns (Z.set i (.d x))).Nodup:=prm.nodup_iff.mp E.nd;obtain⟨nd1,nd2,nd3⟩:=Vv.mp hnd;have hna:∀a∈bb k,a∉owns (Z.set i (.d x)):=λa ha z=>nd3 a ha a z rfl;have hb:∀b u,H1 b=some u->b∉owns (Z.set i (.d x))->H' b=some u:=λb u e hno=>by refine E'.sub b u ?_;unfold bE;rw[if_neg hno];exact e
 have hS:∀a∈bb k,∃o vs,H' a=some (.frz o (.lst vs)):=λa ha=>by obtain⟨vs,e⟩:=hSa a ha;obtain⟨o,eo⟩:=F.2.2 a ha vs e;exact⟨o,vs,hb a _ eo (hna a ha)⟩
 obtain⟨H2,I2,T⟩:=Dc (bb k) nd1 I' hS λa ha o u e=>by have z:=I.base.frzs a o u e;obtain⟨vs,q⟩:=hSa a ha;rw[q]at z;cases z
 have back:∀a∈bb k,H2 a=H a:=λa ha=>by obtain⟨vs,e⟩:=hSa a ha;obtain⟨o,eo⟩:=F.2.2 a ha vs e;obtain⟨o',vs',e1,e2⟩:=T.2 a ha;rw[hb a _ eo (hna a ha)]at e1;cases e1;rw[e2,e]
 have P:vQ H H2:=λb u hp e=>by
  have hno:b∉owns Z:=λz=>by obtain⟨ws,hz,mu⟩:=E.at_own z;rw[hz]at e;cases e;exact mu.no hp
  have hnk:b∉bb k:=λz=>hno (prm.mem_iff.mpr (Vh _ z));rw[T.1 b hnk];exact hb b u (F.1 b u hp e) λz=>hno (prm.mem_iff.mpr (Vi _ z))
 obtain⟨sl1,sl2⟩:=Paired.unapp p4 E'.sl;have ndE:=E'.nd;rw[aF]at ndE;obtain⟨ne1,ne2,ne3⟩:=Vv.mp ndE
 have lamS:∀a∈owns lam,a∉bb k/\Pr a=none/\a∉owns (Z.set i (.d x)):=λa ha=>by
  obtain⟨vs,e,mu⟩:=E'.at_own (a:=a) (by rw[aF];exact Vh _ ha);have h1:a∉bb k:=λz=>by obtain⟨o,us,e1,_⟩:=T.2 _ z;rw[e1]at e;cases e;exact mu
  have h3:a∉owns (Z.set i (.d x)):=λz=>ne3 a ha a z rfl;refine⟨h1,?_,h3⟩;have hoff:=E'.off a (by rw[aF];exact Vh _ ha);unfold bE at hoff;rw[if_neg h3]at hoff
  cases ep:Pr a with
  |none=>rfl
  |some w=>rw[E1.sub a w ep]at hoff;cases hoff
 have slt:Paired (a8 X.K H2) σ (Z.set i .un):=by
  have q:Paired (a8 X.K H') σ (Z.set i .un):=by have:=(Paired.set_r (b:=L.un) i sl2 λ_ _=>by unfold a8;exact True.intro);rwa [WK]at this
  refine ud T P (Z0:=Z) v6 (λj l e=>?_) E.sl q;by_cases hj:j=i
  . subst hj;rw[VA hil]at e;cases e;exact .inl yA
  .
   have h1:=VI.mp hfl l (List.mem_of_getElem? (i:=j) e);rw[VH (VX hj)]at e
   cases l with
   |un=>exact .inl yA
   |d y=>exact .inr ⟨y,rfl,e⟩
   |own b ys=>exact .inl h1
   |bx b ls=>exact .inl h1
   |dic b ls=>exact .inl h1
 have slr:Paired (a8 X.K H2) τ lam:=Paired.impMem sl1 λl hl s q=>q.thaw T l (VI.mp hr l hl);refine⟨H2,I2,λb u e=>?_,?_,λb hbm=>?_,Paired.app slr ?_⟩
 .
  have hno:b∉owns Z:=λz=>by have:=E.off b z;rw[e]at this;cases this
  have hnk:b∉bb k:=λz=>hno (prm.mem_iff.mpr (Vh _ z));rw[T.1 b hnk];refine hb b u ?_ λz=>hno (prm.mem_iff.mpr (Vi _ z));rw[F.2.1 b hnk];exact E.sub b u e
 .
  rw[aF,Vv];refine⟨ne1,E.nd,λc hc d hd z=>?_⟩;subst z;obtain⟨h1,h2,h3⟩:=lamS c hc;rcases Vx.mp (prm.mem_iff.mp hd)with z|z
  . exact h1 z
  . exact h3 z
 .
  rw[aF]at hbm;rcases Vx.mp hbm with z|z
  . exact(lamS b z).2.1
  . exact E.off b z
 .
  obtain⟨sv,hs,q⟩:=E.slot hi;have:=Paired.set_r (b:=k) i slt λs es=>by rw[hs]at es;cases es;exact q.pres P k back
  rw[WK]at this
  have e2:Z.set i k=Z:=by
   refine List.ext_getElem? λj=>?_;by_cases hj:j=i
   . subst hj;rw[VA hil,hi]
   . rw[VH (VX hj)]
  rwa [e2]at this
def Rq(o:Option L)(i:Nat)(t:W L)(Z:Ev)(so:L->Ev->Prop):Prop:=match o with
 |some (.own _ xs)=>d9 i Z=true/\t (Z.set i (.d (.lst xs))) λr Z'=>lH r=true/\Z'=Z.set i (.d (.lst xs))/\so r Z
 |some (.bx b ls)=>d9 i Z=true/\B9 b ls λx=>t (Z.set i (.d x)) λr Z'=>lH r=true/\Z'=Z.set i (.d x)/\so r Z
 |_=>t Z so
def F7(i:Nat)(t:W L):W L:=λZ so=>Rq Z[i]? i t Z so
theorem Jz(a:Addr)(xs:List D)(i:Nat)(t:W L)(Z:Ev)(so:L->Ev->Prop):Rq (some (.own a xs)) i t Z so=(d9 i Z=true/\t (Z.set i (.d (.lst xs))) λr Z'=>lH r=true/\Z'=Z.set i (.d (.lst xs))/\so r Z):=(rfl)
theorem Mh(b:Option Addr)(ls:List L)(i:Nat)(t:W L)(Z:Ev)(so:L->Ev->Prop):Rq (some (.bx b ls)) i t Z so=(d9 i Z=true/\B9 b ls λx=>t (Z.set i (.d x)) λr Z'=>lH r=true/\Z'=Z.set i (.d x)/\so r Z):=(rfl)
theorem Oa(x:D)(i:Nat)(t:W L)(Z:Ev)(so:L->Ev->Prop):Rq (some (.d x)) i t Z so=t Z so:=(rfl)
theorem JA{X:Cx}{gV:List (Addr×Obj)}{s:Shared}{σ:St}{H Pr:Hp}{Z:Ev}{i:Nat}{k:L}{x:D}(I:Qi X gV σ H s)(E:aA X.K Pr H σ Z)(hi:Z[i]?=some k)(hx:bK k=some x):∃H1,Qi X gV σ H1 s/\aA X.K Pr H1 σ (Z.set i (.d x))/\pG H H1 (bb k)/\∀a∈bb k,∃vs,H a=some (.lst vs):=by obtain⟨sv,hs,sl⟩:=E.slot hi;obtain⟨H1,I1,E1,F⟩:=LH k I (E.outL hi hs) hx;have hil:i<Z.length:=(U1.mp hi).1;have E2:=E1.back (i:=i) (by rw[VA hil]) hs;rw[WK]at E2;exact⟨H1,I1,E2,F,sl.lsts k hx⟩
theorem JB{X:Cx}{e:Expr}(i:Nat){t:W L}(h:PL X e t):PL X e (F7 i t):=by
 intro gV s σ H Pr Z so I E hw;have go:∀(k:L)(x:D),Z[i]?=some k->bK k=some x->d9 i Z=true->(t (Z.set i (.d x)) λr Z'=>lH r=true/\Z'=Z.set i (.d x)/\so r Z)->wpAny (model X.prog X.w) X.A (eval e X.env) (EL X gV σ Pr so) X.xe s:=by intro k x hi hx hfl hw;obtain⟨H1,I1,E1,F,Sa⟩:=JA I E hi hx;refine Qk (h gV s σ _ _ _ _ I1 E1.wide hw) λu s1 ⟨v,H',r,Z',I',rv,E',hr,eρ,hp⟩=>?_;subst eρ;obtain⟨H2,I2,E2⟩:=Df (τ:=[some v]) (lam:=[r]) (v:=some v) I E hi Sa F hfl I' E1 E' rfl (by simpa using hr);exact⟨v,H2,r,Z,I2,rv,E2,hp⟩
 unfold F7 Rq at hw;split at hw
 . rename_i a xs hi;exact go _ _ hi rfl hw.1 hw.2
 . rename_i b ls hi;obtain⟨x,hx,hw'⟩:=yp hw.2;exact go _ _ hi hx hw.1 hw'
 . exact h gV s σ H Pr Z so I E hw
def Rr(o:Option L)(i:Nat)(t:W Bool)(Z:Ev)(so:Bool->Ev->Prop):Prop:=match o with
 |some (.own _ xs)=>d9 i Z=true/\t (Z.set i (.d (.lst xs))) λr Z'=>Z'=Z.set i (.d (.lst xs))/\so r Z
 |some (.bx b ls)=>d9 i Z=true/\B9 b ls λx=>t (Z.set i (.d x)) λr Z'=>Z'=Z.set i (.d x)/\so r Z
 |_=>t Z so
theorem JC(a:Addr)(xs:List D)(i:Nat)(t:W Bool)(Z:Ev)(so:Bool->Ev->Prop):Rr (some (.own a xs)) i t Z so=(d9 i Z=true/\t (Z.set i (.d (.lst xs))) λr Z'=>Z'=Z.set i (.d (.lst xs))/\so r Z):=(rfl)
theorem Mi(b:Option Addr)(ls:List L)(i:Nat)(t:W Bool)(Z:Ev)(so:Bool->Ev->Prop):Rr (some (.bx b ls)) i t Z so=(d9 i Z=true/\B9 b ls λx=>t (Z.set i (.d x)) λr Z'=>Z'=Z.set i (.d x)/\so r Z):=(rfl)
theorem Ob(x:D)(i:Nat)(t:W Bool)(Z:Ev)(so:Bool->Ev->Prop):Rr (some (.d x)) i t Z so=t Z so:=(rfl)
variable{X:Cx}
variable{X:Cx}
theorem Ae:∀{ns:List Int}{us:List Value},bT (ns.map V.int) us->IntsAre us ns
 |[],_,r=>by cases r;exact .nil
 | n::ns,_,r=>by
  cases r with
  | cons r0 rs =>
   obtain⟨t,rfl⟩:=r0;exact .cons n t (Ae rs)
theorem pJ{K:PySem.W.Frag}{H:Hp}:∀{vs:List V}{ns:List Int},bJ K H vs (ns.map D.int)->vs=ns.map V.int
 |_,[],r=>by cases r;rfl
 | _,n::ns,r=>by
  cases r with
  | cons r0 rs =>
   cases r0;rw[pJ rs];rfl
variable{X:Cx}
section
variable{X:Cx}{e a b c:Expr}{es:List Expr}{pos p p2:Pos}{ta:W L}{x y:Str}
def pK:List (QY×W L)->D->W L
 |[],_=>λ_ _=>False
 |[(o,t)],dx=>λZ so=>t Z λy Z1=>QX y λdy=>o dx dy λr=>Bn r λk=>so (.d (.bl k)) Z1
 |(o,t)::q::r,dx=>λZ so=>t Z λy Z1=>QX y λdy=>o dx dy λz=>Bn z λk=>if k=true then pK (q::r) dy Z1 so else so (.d (.bl false)) Z1
def uT(ta:W L)(ls:List (QY×W L)):W L:=λZ so=>ta Z λx Z1=>QX x λdx=>pK ls dx Z1 so
inductive qQ (X:Cx):List CmpOp->List Expr->List (QY×W L)->Prop where
 |one {op:CmpOp} {e:Expr} {o:QY} {t:W L} (ho:QZ X (compareOp op) o) (h:PL X e t):qQ X [op] [e] [(o,t)]
 |cons {op:CmpOp} {e:Expr} {o:QY} {t:W L} {ops:List CmpOp} {es:List Expr} {ls:List (QY×W L)} (ho:QZ X (compareOp op) o) (h:PL X e t) (r:qQ X ops es ls):qQ X (op::ops) (e::es) ((o,t)::ls)
theorem uU{op:CmpOp}{o:QY}{gV:List (Addr×Obj)}{s:Shared}{σ:St}{H Pr:Hp}{Z:Ev}{v:V}{u:Value}{dx:D}{R:Bool->D->Ev->Prop}{t:W L}{Q:Value->Value->Shared->Prop}(ho:QZ X (compareOp op) o)(h:PL X e t)
  (I:Qi X gV σ H s) (rv:cu v u) (E:aA X.K Pr H (some v::σ) (.d dx::Z)) (ht:t Z λy Z1=>QX y λdy=>o dx dy λr=>Bn r λk=>R k dy Z1)
  (hQ:∀u2 s3 w2 dy H3 Z1 k,Qi X gV σ H3 s3->cu w2 u2->aA X.K Pr H3 (some w2::σ) (.d dy::Z1)->R k dy Z1->Q u2 (.bool k) s3) :
  wpAny (model X.prog X.w) X.A (eval e X.env) (λb s₁=>wpAny (model X.prog X.w) X.A (compareOp op u b) (λc s₂=>Q b c s₂) X.xe s₁) X.xe s:=by
 refine Qk (h gV s σ H _ Z _ I E.tail.wide ht) λu2 s2 q=>?_;obtain⟨y,H2,dy,Z2,I2,r2,E2,q2⟩:=EL.frz (so:=λdy Z1=>o dx dy λr=>Bn r λk=>R k dy Z1) q;have E3:aA X.K Pr H2 (some y::some v::σ) (.d dy::.d dx::Z2):=aA.step (τ:=[some v]) (lam:=[.d dx]) (w:=[some y]) (μ:=[.d dy]) E rfl E2 rfl;obtain⟨_,e1,p1⟩:=E3.head_d;obtain⟨_,e2,p2⟩:=E3.tail.head_d;cases e1;cases e2;have E4:aA X.K Pr H2 σ Z2:=E3.tail.tail;have E5:aA X.K Pr H2 (some y::σ) (.d dy::Z2):=E4.cons_d p1;have E5w:=E5;refine Qk (ho gV s2 σ H2 (bE H2 Z2) Z2 v y u u2 dx dy _ I2 rv r2 E4.wide p2 p1 q2) λw s3 ⟨z,H3,r,I3,rz,E6,pp⟩=>?_;obtain⟨k,rfl,pp⟩:=uE pp;obtain⟨_,e3,p3⟩:=E6.head_d;cases e3;cases p3;cases rz;have P3:vQ H2 H3:=uD E4 E6.sub;have E7:aA X.K Pr H3 σ Z2:=E4.narrow E6.tail;exact hQ u2 s3 y dy H3 Z2 k I3 r2 (E7.cons_d (p1.pres P3)) pp
theorem F8{ops:List CmpOp}{es:List Expr}{ls:List (QY×W L)}(h:qQ X ops es ls):∀(gV:List (Addr×Obj))(s:Shared)(σ:St)(H Pr:Hp)(Z:Ev)(so:L->Ev->Prop)(v:V)(u:Value)(dx:D)(pos:Pos),Qi X gV σ H s->cu v u->aA X.K Pr H (some v::σ) (.d dx::Z)->pK ls dx Z so ->
  wpAny (model X.prog X.w) X.A (compareChain pos u ops (evalEach es X.env)) (EL X gV σ Pr so) X.xe s:=by
 induction h with
 | one ho h =>
  intro gV s σ H Pr Z so v u dx pos I rv E hl;refine chain_last ?_;exact uU (R:=λk _ Z1=>so (.d (.bl k)) Z1) (Q:=λ_ c s=>EL X gV σ Pr so c s) ho h I rv E hl λu2 s3 w2 dy H3 Z1 k I3 r3 E3 q=>⟨.bl k,H3,_,Z1,I3,rfl,E3.tail.cons_d (.bl k),q⟩
 | @cons op e o t ops es ls ho h r ih =>
  intro gV s σ H Pr Z so v u dx pos I rv E hl
  cases r with
  | one ho2 h2 =>
   refine chain_link (uU (R:=λk dy Z1=>if k=true then pK [_] dy Z1 so else so (.d (.bl false)) Z1) (Q:=λb c s=>wpAny (model X.prog X.w) X.A (truthy c) (λt s₃=>if t then _ else EL X gV σ Pr so c s₃) X.xe s) ho h I rv E hl λu2 s3 w2 dy H3 Z1 k I3 r3 E3 q=>?_)
   refine V9 ?_
   cases k with
   |false=>exact ite_ff ⟨.bl false,H3,_,Z1,I3,rfl,E3.tail.cons_d (.bl false),q⟩
   |true=>exact ite_tt (ih gV s3 σ H3 Pr Z1 so w2 u2 dy pos I3 r3 E3 q)
  | cons ho2 h2 r2 =>
   cases r2 with
   | one ho3 h3 =>
    refine chain_link (uU (R:=λk dy Z1=>if k=true then pK (_::_::_) dy Z1 so else so (.d (.bl false)) Z1) (Q:=λb c s=>wpAny (model X.prog X.w) X.A (truthy c) (λt s₃=>if t then _ else EL X gV σ Pr so c s₃) X.xe s) ho h I rv E hl λu2 s3 w2 dy H3 Z1 k I3 r3 E3 q=>?_)
    refine V9 ?_
    cases k with
    |false=>exact ite_ff ⟨.bl false,H3,_,Z1,I3,rfl,E3.tail.cons_d (.bl false),q⟩
    |true=>exact ite_tt (ih gV s3 σ H3 Pr Z1 so w2 u2 dy pos I3 r3 E3 q)
   | cons ho3 h3 r3 =>
    refine chain_link (uU (R:=λk dy Z1=>if k=true then pK (_::_::_) dy Z1 so else so (.d (.bl false)) Z1) (Q:=λb c s=>wpAny (model X.prog X.w) X.A (truthy c) (λt s₃=>if t then _ else EL X gV σ Pr so c s₃) X.xe s) ho h I rv E hl λu2 s3 w2 dy H3 Z1 k I3 r3 E3 q=>?_)
    refine V9 ?_
    cases k with
    |false=>exact ite_ff ⟨.bl false,H3,_,Z1,I3,rfl,E3.tail.cons_d (.bl false),q⟩
    |true=>exact ite_tt (ih gV s3 σ H3 Pr Z1 so w2 u2 dy pos I3 r3 E3 q)
theorem wQ{op op':CmpOp}{ops:List CmpOp}{r1 r2:Expr}{rs:List Expr}{ls:List (QY×W L)}(ha:PL X a ta)(h:qQ X (op::op'::ops) (r1::r2::rs) ls)(hm:lastMarks (op::op'::ops) (r1::r2::rs)=false:=by with_unfolding_all rfl):PL X (.Compare a (op::op'::ops) (r1::r2::rs) pos) (uT ta ls):=by intro gV s σ H Pr Z so I E ht;refine Compare_chain (Qk (ha gV s σ H Pr Z _ I E ht) λu s1 q=>?_) hm;obtain⟨v,H1,dx,Z1,I1,rv,E1,q1⟩:=EL.frz (so:=λdx Z1=>pK ls dx Z1 so) q;exact F8 h gV s1 σ H1 Pr Z1 so v u dx pos I1 rv E1 q1
theorem qR{prog:Program}{w:World}{A:Around}{ks:List Bool}{us:List Value}(h:us=ks.map Value.bool):TruthOf prog w A (λi v=>us.toArray[i]?=some v) (λi=>ks.getD i true):=λi v s Q E hv hQ=>by
 subst h;rw[List.getElem?_toArray,Vf]at hv
 cases q:ks[i]? with
 |none=>rw[q]at hv;cases hv
 | some k =>
  rw[q]at hv;cases hv;refine V9 ?_;have:ks.getD i true=k:=by rw[U0,q];rfl
  have hQ':Q (ks.getD i true) s:=hQ;rw[this]at hQ';exact hQ'
theorem Dg(ks:List Bool):(List.range ks.length).all (λi=>ks.getD i true)=ks.all id:=by
 apply WG.mpr;simp only[VI,Vl,id];constructor
 . intro h x hx;obtain⟨i,hi,e⟩:=VF hx;have:=h i hi;rw[U0,tu hi]at this;simpa[e]using this
 . intro h i hi;rw[U0,tu hi];exact h _ (U3 hi)
theorem Dh(ks:List Bool):(List.range ks.length).any (λi=>ks.getD i true)=ks.any id:=by
 apply WG.mpr;simp only[List.any_eq_true,Vl,id];constructor
 . rintro⟨i,hi,e⟩;rw[U0,tu hi]at e;exact⟨_,U3 hi,e⟩
 . rintro⟨x,hx,e⟩;obtain⟨i,hi,e2⟩:=VF hx;refine⟨i,hi,?_⟩;rw[U0,tu hi];simpa[e2]using e
theorem oE:∀{ks:List Bool}{us:List Value},bT (ks.map V.bl) us->us=ks.map Value.bool
 |[],_,.nil=>rfl
 | k::ks,_,.cons r t=>by have e:=oE t;subst e;cases r;rfl
theorem wR(hc:X.calm=true):jP X (.builtin "all") (λxs H Q=>∃(p:Addr)(ks:List Bool),xs=[.ref p]/\Qn X.K H p (ks.map V.bl)/\Q (.bl (ks.all id)) H):=by
 intro gV s σ H xs us Q I r ⟨p,ks,e,hq,q⟩;subst e;obtain⟨u,rfl,r1⟩:=sY r;cases r1;obtain⟨its,rv,pl,hz⟩:=I.list hq;have e:=oE rv;refine call_all_walk (wpAny_pyIter_list pl.isList ?_);have hne:p≠s.heap.objs.size:=λz=>by obtain⟨o,n,eo,_⟩:=pl;have:=U6 eo;rw[z]at this;exact absurd this (Wq _)
 refine⟨s.heap.objs.size,_,_,_,_,_,(λi=>ks.getD i true),rfl,Walks.list (A:=X.A.in1) (I.ok.hd hc) _ p hne its.toArray,⟨⟨_,Vn _ rfl,rfl,rfl⟩,pl.isList.at λo eo=>UY _ eo⟩,qR e,λh' tk hk=>?_⟩;have hl:its.toArray.size=ks.length:=by rw[e];simp
 rw[hl,Dg];refine⟨.bl _,H,I.kept (h':=h') (t':=tk) λb o eb=>hk b o (λhm=>?_) (UY _ eb),rfl,q⟩;have e2:b=s.heap.objs.size:=by simpa using hm
 have:=U6 eb;rw[e2]at this;exact absurd this (Wq _)
theorem wU(hc:X.calm=true):jP X (.builtin "any") (λxs H Q=>∃(p:Addr)(ks:List Bool),xs=[.ref p]/\Qn X.K H p (ks.map V.bl)/\Q (.bl (ks.any id)) H):=by
 intro gV s σ H xs us Q I r ⟨p,ks,e,hq,q⟩;subst e;obtain⟨u,rfl,r1⟩:=sY r;cases r1;obtain⟨its,rv,pl,hz⟩:=I.list hq;have e:=oE rv;refine call_any_walk (wpAny_pyIter_list pl.isList ?_);have hne:p≠s.heap.objs.size:=λz=>by obtain⟨o,n,eo,_⟩:=pl;have:=U6 eo;rw[z]at this;exact absurd this (Wq _)
 refine⟨s.heap.objs.size,_,_,_,_,_,(λi=>ks.getD i true),rfl,Walks.list (A:=X.A.in1) (I.ok.hd hc) _ p hne its.toArray,⟨⟨_,Vn _ rfl,rfl,rfl⟩,pl.isList.at λo eo=>UY _ eo⟩,qR e,λh' tk hk=>?_⟩;have hl:its.toArray.size=ks.length:=by rw[e];simp
 rw[hl,Dh];refine⟨.bl _,H,I.kept (h':=h') (t':=tk) λb o eb=>hk b o (λhm=>?_) (UY _ eb),rfl,q⟩;have e2:b=s.heap.objs.size:=by simpa using hm
 have:=U6 eb;rw[e2]at this;exact absurd this (Wq _)
theorem iY{K:PySem.W.Frag}{H:Hp}:∀{vs:List V}{ks:List Bool},bJ K H vs (ks.map D.bl)->vs=ks.map V.bl
 |[],[],_=>rfl
 | _::_,k::ks,.cons r t=>by cases r;rw[iY t];rfl
 |[],_::_,r=>nomatch r
 |_::_,[],r=>nomatch r
def Mj:Rb:=λds k=>∃ks:List Bool,ds=[.lst (ks.map D.bl)]/\k (.d (.bl (ks.all id)))
def Ml:Rb:=λds k=>∃ks:List Bool,ds=[.lst (ks.map D.bl)]/\k (.d (.bl (ks.any id)))
theorem Mm(hc:X.calm=true):gi X (.builtin "all") Mj:=gi.of (wR hc) λσ H Pr Z vs ds so E ps ⟨ks,e,h⟩=>by
 subst e;obtain⟨v,rfl,r⟩:=oA ps
 cases r with
 | lst hz rs =>
  have e:=iY rs;subst e;exact⟨_,ks,rfl,hz.l,_,E.cons_d (.bl _),h⟩
theorem Mn(hc:X.calm=true):gi X (.builtin "any") Ml:=gi.of (wU hc) λσ H Pr Z vs ds so E ps ⟨ks,e,h⟩=>by
 subst e;obtain⟨v,rfl,r⟩:=oA ps
 cases r with
 | lst hz rs =>
  have e:=iY rs;subst e;exact⟨_,ks,rfl,hz.l,_,E.cons_d (.bl _),h⟩
end
end L2
set_option exponentiation.threshold 2000
namespace L2
open PySem PySem.Spec PyProof.Rows
section
variable{X:Cx}{e a b c:Expr}{pos p:Pos}{ta tb:W L}{x y:Str}
def p8(j:Int):Prop:=-1000000<=j/\j<1000000
theorem BA{lo hi c:Int}(h1:p8 lo)(h2:p8 hi)(h3:0<c)(h4:c<1000):0<=Builtin.Range.rangeSize lo hi c/\Builtin.Range.rangeSize lo hi c<=2000000:=by
 unfold Builtin.Range.rangeSize;rw[if_pos h3];unfold p8 at h1 h2;split
 . have h5:0<=(hi-lo-1) / c:=Int.ediv_nonneg xL xL;have h6:(hi-lo-1) / c<=hi-lo-1:=Int.ediv_le_self _ xL;omega
 . omega
theorem BB{lo hi c:Int}(h1:p8 lo)(h2:p8 hi)(h3:0<c)(h4:c<1000):Builtin.Range.small lo hi c=true:=by have hz:=BA h1 h2 h3 h4;unfold p8 at h1 h2;unfold Builtin.Range.small;rw[if_pos h3];generalize Builtin.Range.rangeSize lo hi c=z at hz;simp only[Builtin.Range.rangeFitsLong,U7,Bool.or_eq_true,U5,WE];omega
mutual
noncomputable def dY:D->Bool
 |.int i=>decide (i.natAbs<2^1900)
 |.tup xs=>fj xs
 |.lst xs=>fj xs
 |_=>true
noncomputable def fj:List D->Bool
 |[]=>true
 |x::xs=>dY x && fj xs
end
theorem JD:(2:Nat)^1900<10^600:=by decide +kernel
theorem Di{i:Int}(h:i.natAbs<2^1900):(PyData.shown (.int i)).length<=601:=by have e:=PySem.int_text_length_le10 (k:=600) x_ (Nat.lt_trans h JD);show(Str.ofString (toString i)).length<=601;rw[PySem.ofString_length];exact e
mutual
theorem ny:∀d:D,dY d=true->(Q9 d).intsShort 601=true/\(Q9 d).showable=true
 |.non,_=>⟨rfl,rfl⟩
 |.bl _,_=>⟨rfl,rfl⟩
 |.str _,_=>⟨rfl,rfl⟩
 |.dct _,_=>⟨rfl,rfl⟩
 |.exc _ _ _,_=>⟨rfl,rfl⟩
 |.fn _ _,_=>⟨rfl,rfl⟩
 | .int i,h=>by
  have h':i.natAbs<2^1900:=by simpa only[dY,U5]using h
  refine⟨by simp only[Q9,PyData.intsShort,U5];exact Di h',?_⟩
  simp only[Q9,PyData.showable,U5]
  by_cases h0:i.natAbs=0
  .
   rw[h0];decide
  .
   exact(Nat.log2_lt h0).mpr (U2 h' (Vg x_ x_))
 | .tup xs,h=>by
  obtain⟨h1,h2⟩:=qS xs (by simpa only[dY]using h)
  exact⟨by simpa only[Q9,PyData.intsShort]using h1,by simpa only[Q9,PyData.showable]using h2⟩
 | .lst xs,h=>by
  obtain⟨h1,h2⟩:=qS xs (by simpa only[dY]using h)
  exact⟨by simpa only[Q9,PyData.intsShort]using h1,by simpa only[Q9,PyData.showable]using h2⟩
theorem qS:∀ds:List D,fj ds=true->PyData.intsShortAll 601 (ff ds)=true/\PyData.showableAll (ff ds)=true
 |[],_=>⟨rfl,rfl⟩
 | d::ds,h=>by
  simp only[fj,U7]at h
  obtain⟨h1,h2⟩:=ny d h.1
  obtain⟨h3,h4⟩:=qS ds h.2
  exact⟨by simp only[ff,PyData.intsShortAll,h1,h3,Bool.and_self],by simp only[ff,PyData.showableAll,h2,h4,Bool.and_self]⟩
end
noncomputable def Mo(d:D):Str:=(Q9 d).shown
structure Af (d:D):Prop where
 ok:Rm 40 d=true
 sh:dY d=true
 wt:(Q9 d).weight<=20000
theorem Af.len{d:D}(h:Af d):(Q9 d).shown.length<=sizeLine:=by
 have h1:=PyData.shown_le 601 x_ (Q9 d) (PyData.leavesShort_of_canLay0 601 _ (oC 40 d h.ok).1 (ny d h.sh).1);have h2:=h.wt;have e:sizeLine=16777216:=by decide
 rw[e];omega
noncomputable def Oc:D->Bool
 |.tup _=>true
 |.lst _=>true
 |_=>false
def Dj:Rb:=λds k=>∃d,ds=[d]/\Oc d=true/\Af d/\k (.d (.str (Mo d)))
theorem Dk{k:Nat}(hr:gI k X.A):gi X (.builtin "repr") Dj:=by
 intro gV s σ H Pr Z vs us ds so I r E ps ⟨d,e,hq,ho,h⟩;subst e;obtain⟨v,rfl,rd⟩:=oA ps;obtain⟨u,rfl,ru⟩:=sY r;obtain⟨as,rr⟩:=kY I d v u ru rd (oC 40 d ho.ok).1;have hdep:=(oC 40 d ho.ok).2
 have hex:∃a,u=.ref a:=by
  cases rd with
  |tup h1 h2=>cases ru;exact⟨_,rfl⟩
  |lst h1 h2=>cases ru;exact⟨_,rfl⟩
  |_=>cases hq
 obtain⟨a,rfl⟩:=hex;refine repr_of_reads' rr (ny d ho.sh).2 (PyData.noDict_hsm (PyData.hasDict_of_canLay _ (oC 40 d ho.ok).1)) hr.gd (by have:=hr.units;omega) (λ_ _ e=>e) (λh' t tk hk=>?_) ho.len;exact⟨.str _,H,_,I.kept (h':=h') (t':=tk) hk,⟨t,rfl⟩,E.cons_d (.str _),h⟩
def Mp(ta tb:W L):W L:=λZ so=>ta Z λr Z1=>match r with
 |.own _ xs=>tb Z1 λr2 Z2=>m7 r2 λj=>(0<=j/\j<=100000)/\xs.length*j.toNat<=sizeLine/\∀p,so (.own p (List.replicate j.toNat xs).flatten) Z2
 |_=>False
theorem bJ.rep{K:PySem.W.Frag}{H:Hp}{vs:List V}{ds:List D}(r:bJ K H vs ds):∀k:Nat,bJ K H (List.replicate k vs).flatten (List.replicate k ds).flatten
 |0=>.nil
 | k+1=>by rw[VG,VG,WA,WA];exact r.append (bJ.rep r k)
theorem Dl(ha:PL X a ta)(hb:PL X b tb):PL X (.BinOp a .Mult b pos) (Mp ta tb):=by
 intro gV s σ H Pr Z so I E h;refine wpAny_BinOp (Qk (ha gV s σ H Pr Z _ I E h) λu s1 ⟨v,H1,r,Z1,I1,r1,E1,q1⟩=>?_);dsimp only at q1;split at q1
 rotate_left
 . exact q1.elim
 rename_i l xs;refine Qk (hb gV s1 σ H1 _ Z1 _ I1 E1.tail.wide q1) λu2 s2 ⟨y,H2,r2,Z2,I2,ry,E2,q2⟩=>?_;obtain⟨j,rfl,⟨h1,h2⟩,hz,q2⟩:=dG q2;have E3:aA X.K Pr H2 (some y::some v::σ) (.d (.int j)::.own l xs::Z2):=aA.step (τ:=[some v]) (lam:=[.own l xs]) (w:=[some y]) (μ:=[.d (.int j)]) E1 rfl E2 rfl;obtain⟨_,e1,p1⟩:=E3.head_d;cases e1;cases p1;obtain⟨hs,vs,hl,rs⟩:=E3.ownAt (i:=1) rfl;have ev:v=.ref l:=by simpa using hs
 subst ev;have E4:aA X.K Pr H2 σ Z2:=E3.tail.tail;refine Qk (LD gV s2 σ H2 _ _ u u2 (λz H'=>∃p,H2 p=none/\z=.ref p/\H'=Qa H2 p (.lst (List.replicate j.toNat vs).flatten)) I2 r1 ry ⟨l,j,vs,rfl,rfl,hl,xL,xL,by rw[rs.length];exact hz,λp hp=>⟨p,hp,rfl,rfl⟩⟩) λw s3 ⟨z,H3,I3,rz,p,hp,e1,e2⟩=>?_;subst e1 e2;exact⟨.ref p,_,_,Z2,I3,rz,E4.cons_own hp (rs.rep _),q2 p⟩
def Ga:QY:=λx y k=>match x,y with
 |.str a,.str b=>k (.d (.bl (decide (a=b))))
 |_,_=>False
theorem Mq:QZ X (compareOp .Eq) Ga:=QZ.of NU λσ H Pr Z x y dx dy so E px py h=>by
 unfold Ga at h;split at h
 .
  cases px;cases py;rename_i a b;refine⟨rfl,_,E.cons_d (.bl _),?_⟩;have e:decide (V.str a=V.str b)=decide (a=b):=by simp
  rw[e];exact h
 . exact h.elim
def Rt(f:Fl)(o:Option L)(j:Nat)(Z1:Ev)(so:Fl->Ev->Prop):Prop:=match f with
 | .nx=>(match o with
  |some (.own _ xs)=>so .nx (Z1.set j (.d (.lst xs)))
  |_=>so .nx Z1)
 |f=>so f Z1
theorem JE(a:Addr)(xs:List D)(j:Nat)(Z1:Ev)(so:Fl->Ev->Prop):Rt .nx (some (.own a xs)) j Z1 so=so .nx (Z1.set j (.d (.lst xs))):=(rfl)
theorem Od(x:D)(j:Nat)(Z1:Ev)(so:Fl->Ev->Prop):Rt .nx (some (.d x)) j Z1 so=so .nx Z1:=(rfl)
end
theorem aA.closeT{K:PySem.W.Frag}{Pr H:Hp}{σ:St}{Z:Ev}{a:Addr}{vs:List V}{ls:List L}(hl:vs.length=ls.length)(h:Qo K H a vs)(E:aA K Pr H (vs.map some++σ) (ls++Z)):aA K Pr H (some (.ref a)::σ) (.bx none ls::Z):=by
 obtain⟨s1,s2⟩:=Paired.unapp (by simp[hl]) E.sl;have ow:owns (.bx none ls::Z)=owns (ls++Z):=by rw[aK,aF];simp only[bb,Option.toList,Wk,eV]
 refine⟨E.sub,by rw[ow];exact E.nd,λb hb=>E.off b (by rw[<- ow];exact hb),.cons ?_ s2⟩;unfold a8;exact⟨a,vs,rfl,h,dD.mpr s1⟩
structure FX (K:PySem.W.Frag) (mg:Str->Option Value) (g:Str) (st:Stmt) (a:Addr) (fd:FuncData) (P:List Str):Prop where
 f:QS K g g st a fd
 b:oj K fd P []
 m:mg g=some (.ref a)
noncomputable abbrev Ru(g:Str)(st:Stmt)(md:Value)(c:Nat):FuncData:=PySem.W.fnOf g g (jR st) (de st) (aq st) .none .none .none md none (.ref c) .none
theorem FX.mk'{K:PySem.W.Frag}{mg:Str->Option Value}{h:Heap}(X:K.In h)(G:h.Ns mainGlobals mg){g:Str}{st:Stmt}{a:Addr}{c:Nat}{md:Value}{P:List Str}(e1:PySem.W.nsIn K mainGlobals g=some (some (.ref a)))
  (e2:K.lookup a=some ⟨.type "function",none,.func (Ru g st md c),#[]⟩) (e3:PySem.W.codeIn K (.ref c) g=true) (e4:PySem.W.keepIn K (.ref a)=true)
  (e5:∀(kV doc pm:Value)(an:Option Addr)(cdv ct:Value)(us:List Value),us.length=P.length->bindArgs (PySem.W.fnOf g g (jR st) (de st) (aq st) .none kV doc pm an cdv ct) ⟨us,[]⟩=pure (P.zip us)):FX K mg g st a (Ru g st md c) P :=
 ⟨t6 e2 e3 e4,(t6 e2 e3 e4).binds e5,PySem.W.mg_of X G e1⟩
section
variable{X:Cx}{k k' n:Nat}{f:Addr}{fd:FuncData}{ps:List Str}{fs:FS}{g:Str}{st:Stmt}{e:Expr}{es:List Expr}{bs:List (Option Nat)}{t:W (List L)}{p pos:Pos}
theorem aD(F:FnOk X.prog X.w X.K X.mg X.base CX0 k f fd ps (spF X.K n fs))(T:FX X.K X.mg g st f fd ps)(hr:gI k' X.A)(ha:QV X (e::es) bs t)(hk:k<=k':=by decide)(hg:Gl X g:=by rfl)(hn:bs.length=n:=by rfl) (hdb:(g == ("__debug__" : Str))=false:=by decide) (he:starEach (e::es) X.env=(false,eval e X.env)::starEach es X.env:=by rfl) (hpl:(backTo pos (starEach es X.env)).any (·.1)=false:=by rfl) :
  PL X (.Call (.Name g p) (e::es) [] pos) (aB fs t):=Jb F (hr.mono hk) hg T.m T.f.kp T.b IQ ha hn hdb he hpl
theorem iB(F:FnOk X.prog X.w X.K X.mg X.base CX0 k f fd ps (spF X.K n fs))(T:FX X.K X.mg g st f fd ps)(hr:gI k' X.A)(j i:Nat)(ha:QV X (e::es) bs t)(hk:k<=k':=by decide)(hg:Gl X g:=by rfl)(hj:bs[j]?=some (some i):=by rfl)(hn:bs.length=n:=by rfl) (hdb:(g == ("__debug__" : Str))=false:=by decide) (he:starEach (e::es) X.env=(false,eval e X.env)::starEach es X.env:=by rfl) (hpl:(backTo pos (starEach es X.env)).any (·.1)=false:=by rfl) :
  PL X (.Call (.Name g p) (e::es) [] pos) (fF fs j i t):=FM F (hr.mono hk) hg T.m T.f.kp T.b IQ j i ha hj hn hdb he hpl
end
section
variable{X:Cx}
theorem Gb:Qv X (binaryOp .Add) (λx y H Q=>∃l b xs zs,x=.ref l/\y=.ref b/\Qo X.K H l xs/\Qo X.K H b zs/\xs≠[]/\zs≠[]/\xs.length+zs.length<=sizeLine/\∀p,H p=none->Q (.ref p) (Qa H p (.tup (xs++zs)))):=by
 intro gV s σ H x y v u Q I rx ry h;obtain⟨l,b,xs,zs,rfl,rfl,hH,hB,n1,n2,hz,q⟩:=h;cases rx;cases ry;obtain⟨its,r,⟨o,e,c,n,f⟩,z⟩:=I.tuple hH;obtain⟨its2,r2,⟨o2,e2,c2,m,f2⟩,z2⟩:=I.tuple hB;obtain⟨cl,dd,dt,sl⟩:=o;obtain⟨cl2,dd2,dt2,sl2⟩:=o2;simp only at c f c2 f2;subst c f c2 f2;have hl:=r.length;have hl2:=r2.length;have k1:its≠[]:=λe=>n1 (WB.mp (by rw[hl,e];rfl));have k2:its2≠[]:=λe=>n2 (WB.mp (by rw[hl2,e];rfl));refine concat_meets ⟨_,e,rfl⟩ ⟨_,e2,rfl⟩ noFill_tuple_add seq_tuple_add PySem.F.slot_tuple_add PySem.F.entry_tuple_add (PySem.F.args_tuple_add_2 _ _) (tuple_addW2 l b its.toArray its2.toArray n m dd dd2 sl sl2 (by simpa using k1) (by simpa using k2) (by rw[Vd,Vd];omega)) ⟨e,e2,?_⟩;have ea:its.toArray++its2.toArray=(its++its2).toArray:=by simp
 rw[ea];exact⟨.ref _,Qa H s.heap.objs.size (.tup (xs++zs)),I.laid (o:=.tup (xs++zs)) (λ_ _ q=>UY _ q) (Vb _) ⟨by rw[VL];omega,its++its2,r.append r2,⟨_,Vn _ rfl,rfl,_,rfl⟩⟩,rfl,q _ I.fresh⟩
def Ag:QY:=λx y k=>match x,y with
 |.tup xs,.tup ys=>xs≠[]/\ys≠[]/\xs.length+ys.length<=sizeLine/\k (.d (.tup (xs++ys)))
 |_,_=>False
theorem JF:QZ X (binaryOp .Add) Ag:=(QZ.of Gb (op:=λx y k=>∃xs ys,x=.tup xs/\y=.tup ys/\xs≠[]/\ys≠[]/\xs.length+ys.length<=sizeLine/\k (.d (.tup (xs++ys)))) (λσ H Pr Z x y dx dy so E px py ⟨xs,ys,e1,e2,m1,m2,z,h⟩=>by
  subst e1 e2
  cases px with
  | tup h1 r1 =>
   cases py with
   | tup h2 r2 =>
    refine⟨_,_,_,_,rfl,rfl,h1,h2,λe=>m1 ?_,λe=>m2 ?_,by rw[r1.length,r2.length];exact z,λp hp=>⟨_,E.cons_tup hp (r1.append r2),h⟩⟩
    . exact WB.mp (by rw[<- r1.length,e];rfl)
    .
     exact WB.mp (by rw[<- r2.length,e];rfl))).imp λx y k h=>by
 unfold Ag at h;split at h
 . exact⟨_,_,rfl,rfl,h⟩
 . exact h.elim
end
mutual
noncomputable def Ah:D->Nat
 |.tup xs=>yB xs+1
 |.lst xs=>yB xs+1
 |_=>0
noncomputable def yB:List D->Nat
 |[]=>0
 |x::xs=>max (Ah x) (yB xs)
end
theorem Ai{n:Nat}:∀{xs:List D},(∀x∈xs,Ah x<=n)->yB xs<=n
 |[],_=>Wn _
 | y::ys,h=>by simp only[yB];have:=h y UZ;have:=Ai (xs:=ys) λx hx=>h x (UW _ hx);omega
end L2
namespace L2
open PySem PySem.Spec PyProof.Rows PySem.Builtin.Str
inductive Sk where
 |l|t
noncomputable abbrev Zi:=Sk×Addr×Addr
noncomputable def Zi.ofs(js:List Zi):List Addr:=js.map (·.2.1)
def Mr(z O:Addr)(js:List Zi)(h h':Heap):Prop:=∀c o,c∉z::O::Zi.ofs js->h.get? c=some o->h'.get? c=some o
noncomputable def Sk.nm:Sk->String
 |.l=>"list_iterator"
 |.t=>"tuple_iterator"
section
variable{z O:Addr}{js:List Zi}
theorem Mr.mono{h h':Heap}(k:Mr z O js h h'){c:Addr}{o:Obj}(hc:c∉z::O::Zi.ofs js)(e:h.get? c=some o):h'.get? c=some o:=k c o hc e
end
end L2
namespace L2
open PySem PySem.Spec PyProof.Rows
end L2
namespace L2
open PySem PySem.Spec PyProof.Rows PySem.W
noncomputable def JG(K:Frag)(C fI:Addr):Bool:=(match K.lookup C with
 | some ⟨.type "type",_,.cls cd,sl⟩=>(match cd.mro,sl.toList with
  |.ref C'::bm,[_,_,_,_,some (.builtin n),_]=>C' == C && n == "ValueError.__new__" && !cd.hasDel && bm.contains (.type "ValueError") && !(bm.contains (.type "AttributeError")) && !(bm.contains (.type "NameError"))
  |_,_=>false)
 |_=>false) && findIn K (.ref C) "__init__" == some (some (.ref fI)) && typeIn K (.ref fI) == some (.type "function")
structure Rv (K:Frag) (C fI:Addr):Prop where
 ex:∃ nm q N bs bm hdct sn sub ab col dd k0 k1 k2 k3 k5,K.lookup C=some (excClassObj nm q C N bs bm hdct sn sub ab col dd k0 k1 k2 k3 k5 "ValueError.__new__")/\bm.contains (.type "ValueError")=true/\bm.contains (.type "AttributeError")=false/\bm.contains (.type "NameError")=false
 init:findIn K (.ref C) "__init__"=some (some (.ref fI))
 fn:typeIn K (.ref fI)=some (.type "function")
theorem Ms{K:Frag}{C fI:Addr}(h:JG K C fI=true):Rv K C fI:=by
 unfold JG at h;simp only[U7,WE]at h;obtain⟨⟨h,h1⟩,h2⟩:=h;refine⟨?_,h1,h2⟩;split at h
 .
  rename_i dd cd sl ho;split at h
  . rename_i C' bm k0 k1 k2 k3 n k5 hm hs;simp only[U7,WE,Wr]at h;obtain⟨⟨⟨⟨⟨rfl,rfl⟩,hdel⟩,e1⟩,e2⟩,e3⟩:=h;obtain⟨nm,bs,mro,ns,qn,hd,sn,sub,ab,col,Rw⟩:=cd;dsimp only at hm hdel;subst hm hdel;obtain⟨l⟩:=sl;simp only at hs;subst hs;exact⟨nm,qn,ns,bs,bm,hd,sn,sub,ab,col,dd,k0,k1,k2,k3,k5,ho,e1,e2,e3⟩
  . cases h
 . cases h
section
variable{prog:Program}{w:World}{A:Around}{E:Value->Shared->Prop}{h:Heap}{g:Array GenState}{d:Drawn}{t:Nat}{os:OsState}
variable{nm q:Str}{C N:Addr}{bs bm:List Value}{hdct:Bool}{sn:List Str}{sub:List Value}{ab:Bool}{col:Option Bool}{dd:Option Addr}{k0 k1 k2 k3 k5:Option Value}
theorem BC{M:Model}{rest:List Value}{Q:Unit->Shared->Prop} (hC:h.get? C=some (excClassObj nm q C N bs bm hdct sn sub ab col dd k0 k1 k2 k3 k5 "ValueError.__new__")) (hv:bm.contains (.type "ValueError")=true)
  (hq:Q () ⟨h,g,d,t,os⟩):wpAny M A (checkBuiltinCall "ValueError.__new__" ⟨.ref C::rest,[]⟩) Q E ⟨h,g,d,t,os⟩:=by
 have FB:=F.excBase_ValueError;have hb:(Value.ref C::bm).contains (.type "ValueError")=true:=by rw[Wv,hv,Bool.or_true]
 have hst:=FB.noStar;simp only[checkBuiltinCall,FB.newKind,FB.newSplit,FB.newRow]
 repeat (first|refine VS hC ?_|(refine wpAny_isSubtype_exc hC ?_;rw[hb])|refine wpAny_staticBase_exc hC ?_|refine wpAny_madeBy_exc hC ?_|simp only[bne_self_eq_false,Wl,WX] | wp_step)
 exact hq
theorem Gc{rest:List Value}{R:Result->Shared->Prop} (hC:h.get? C=some (excClassObj nm q C N bs bm hdct sn sub ab col dd k0 k1 k2 k3 k5 "ValueError.__new__")) (hv:bm.contains (.type "ValueError")=true) (ha:bm.contains (.type "AttributeError")=false) (hn:bm.contains (.type "NameError")=false)
  (hz:rest.length<=sizeLine) (hq:R (.ok (.ret (.ref (h.objs.size+1)))) ⟨(h.push {cls:=.type "tuple",data:=.seq rest.toArray}).push {cls:=.ref C,data:=.fields #[.ref h.objs.size,.none,.none,.none,.bool false,.none] },g,d,t,os⟩) :
  codeAny (model prog w) A (.builtin "ValueError.__new__" ⟨.ref C::rest,[]⟩) R ⟨h,g,d,t,os⟩:=by
 have FB:=F.excBase_ValueError;have hends:=FB.ends;have c1:(Value.ref C::bm).contains (.type "ValueError")=true:=by rw[Wv,hv,Bool.or_true]
 have c2:(Value.ref C::bm).contains (.type "AttributeError")=false:=by rw[Wv,ha]; rfl
 have c3:(Value.ref C::bm).contains (.type "NameError")=false:=by rw[Wv,hn]; rfl
 refine codeAny_builtinAt FB.entry ?_;unfold Builtin.«BaseException.__new__»;refine PySem.wpAt_bind ?_;show PySem.wpAt _ _ _ (stack >>= _) _ _ _;refine PySem.wpAt_bind (PySem.wpAt_stack λp below=>PySem.wpAt_of_wpAny ?_)
 wp_walk
 refine PySem.wpAt_of_wpAny ?_;rw[FB.owner]
 repeat (first|with_reducible refine wpAny_madeHere_exc FB.canon hC ?_|with_reducible refine VS hC ?_|(with_reducible refine wpAny_isSubtype_exc hC ?_;first|rw[c1] | rw[c2] | rw[c3])|wp_step)
 show R _ _;rw[Heap.size_push];exact hq
theorem Oe{K:Frag}{fI:Addr}{rest:List Value}{Q:Value->Shared->Prop}(X:K.In h)(M:Rv K C fI)(hz:rest.length<=sizeLine)
  (hq:∀ h' e,Heap.MadeExcOf h h' e (.ref C) rest->h.objs.size<=e->wpAny (model prog w) (A.under (.builtin "type.__call__" ⟨.ref C::rest,[]⟩)) (call (.ref fI) (.ref e::rest)) (λr s'=>r=.none/\Q (.ref e) s') E ⟨h',g,d,t,os⟩) :
  wpAny (model prog w) A (call (.ref C) rest) Q E ⟨h,g,d,t,os⟩:=by
 obtain⟨nm,q,N,bs,bm,hdct,sn,sub,ab,col,dd,k0,k1,k2,k3,k5,hK,b1,b2,b3⟩:=M.ex;have hC:=X _ _ hK;have FB:=F.excBase_ValueError;have f1:=tc_lookup;have f2:=tc_bind (.ref C);have hT:(⟨h,g,d,t,os⟩:Shared).TypeIs (.ref C) "type":=⟨_,hC,rfl⟩;refine Xe (codeAny_of_tree ?_);show wpAny _ _ (callAny (.ref C) _) _ _ _
 repeat (any_goals (first|assumption|with_reducible refine VS hC ?_|wp_step))
 refine⟨rfl,?_⟩;refine codeAny_call_builtin_at (Code.quiet_builtin _ y_) entry_typeCall (wpAny_check_type_call_sub hC ?_)
 repeat (first|with_reducible refine VS hC ?_|with_reducible refine wpAny_madeBy_exc hC ?_|wp_step)
 refine codeAny_call_builtin_code (Code.quiet_builtin _ FB.quiet) (BC hC b1 ?_);refine Gc hC b1 b2 b3 hz ?_;have kp:∀ b o,h.get? b=some o->((h.push {cls:=.type "tuple",data:=.seq rest.toArray}).push {cls:=.ref C,data:=.fields #[.ref h.objs.size,.none,.none,.none,.bool false,.none] }).get? b=some o:=λb o e=>UY _ (UY _ e);have hC1:=kp _ _ hC;have X1:K.In _:=X.keeps kp;have hg:((h.push {cls:=.type "tuple",data:=.seq rest.toArray}).push {cls:=.ref C,data:=.fields #[.ref h.objs.size,.none,.none,.none,.bool false,.none] }).get? (h.objs.size+1)=some {cls:=.ref C,data:=.fields #[.ref h.objs.size,.none,.none,.none,.bool false,.none] }:=by heap_get
 have cC:(Value.ref C::bm).contains (.ref C)=true:=by simp
 show wpAny _ _ _ _ _ ⟨(h.push {cls:=.type "tuple",data:=.seq rest.toArray}).push {cls:=.ref C,data:=.fields #[.ref h.objs.size,.none,.none,.none,.bool false,.none] },g,d,t,os⟩;unfold isInstance
 repeat (first|with_reducible refine VS hg ?_|(with_reducible refine wpAny_isSubtype_exc hC1 ?_;rw[cC])|wp_step)
 have L1:=looks_findIn (M:=model prog w) X1 M.init;have L2:=bind_fn (M:=model prog w) X1 (.ref (h.objs.size+1)) M.fn;show wpAny _ _ (typeLookup (.ref C) _) _ _ _;refine L1.at (Wi (UX (L2.at ?_)));refine UX (V7 (hq _ (h.objs.size+1) ⟨kp,Heap.get?_none_of_le (Nat.le_succ _),h.objs.size,hg,Heap.get?_none_of_le (Vb _),UY _ (Heap.get?_push_at rfl rfl)⟩ (Nat.le_succ _)) (λr s' hr=>?_) λ_ _ x=>x);obtain⟨rfl,hQ⟩:=hr
 wp_walk
 exact hQ
end
section
variable{prog:Program}{w:World}{A:Around}{E:Value->Shared->Prop}{s:Shared}{K:Frag}{c:Str}{C L:Addr}{cd:ClassData}{env:Env}
structure Rx (h:Heap) (e:Addr) (cls:Value) (dx T:Option Addr):Prop where
 ex:∃vs sl,h.get? e=some ⟨cls,dx,.fields vs,sl⟩/\1<vs.size/\(match T with
  |none=>vs[1]?=some .none
  |some t=>vs[1]?=some (.ref t)/\t≠e/\∃ot ts,h.get? t=some ot/\ot.data=.fields ts/\ts[3]?=some .none)
theorem Mt{x:Sem Value}{Q:Flow->Shared->Prop}(S:sU K c C L cd)(hh:A.handled=none)
  (h:wpAny (model prog w) A x (λv s1=>∃e dx,v=.ref e/\K.In s1.heap/\Rx s1.heap e (.ref C) dx none/\E (.ref e) s1) E s):wpAny (model prog w) A (raiseStmt env (some x) none) Q E s:=by
 unfold raiseStmt;refine UX (V7 h (λv s1 h1=>?_) λ_ _ z=>z);obtain⟨e,dx,rfl,X,⟨vs,sl,he,hz,h1⟩,hE⟩:=h1;obtain⟨hp,g,d,tk,os⟩:=s1;have h1:vs[1]?=some .none:=h1;have he:hp.get? e=some ⟨.ref C,dx,.fields vs,sl⟩:=he;obtain⟨oc,odc,slc,hK⟩:=qK S.cls;have hC:hp.get? C=some ⟨oc,odc,.cls cd,slc⟩:=X _ _ hK;have hoc:oc=.type "type":=by have z:(K.lookup C).map (·.cls)=some (.type "type"):=S.ty;rw[hK]at z;exact Vq z
 subst hoc;have Lb:=S.isT (M:=model prog w) X "BaseException";have eb:(["ValueError","Exception","BaseException","object"]:List String).contains "BaseException"=true:=by decide
 rw[eb]at Lb
 repeat (first|with_reducible refine VS he ?_|with_reducible refine VS hC ?_|with_reducible refine Lb.at ?_|with_reducible refine W1 he rfl h1 ?_|wp_step)
 exact wpAny_raiseNew_none hh hE
theorem Mu{base:Heap}{outer:List Env}{F e:Addr}{cls:Value}{dx T:Option Addr}{Q:Unit->Shared->Prop}
  (hfr:A.frames=some (env::outer)) (hl:s.heap.FunFrames base (env::outer)) (hf:env.frame=some F) (fl:Rx s.heap e cls dx T)
  (hq:∀h' T',Rx h' e cls dx (some T')->s.heap.objs.size<=T'->(∀b o,b≠e->some b≠T->b∉Qf (env::outer)->s.heap.get? b=some o->h'.get? b=some o) ->
   (∀b o,b≠e->some b≠T->s.heap.get? b=some o->∃sl,h'.get? b=some {o with slots:=sl})->Q () {s with heap:=h' }) :
  wpAny (model prog w) A (noteFrame (.ref e) env) (λ_ s2=>wpAny (model prog w) A (setFlight (.ref e) none) Q E s2) E s:=by
 obtain⟨vs,sl,he,hz,hT⟩:=fl;have nof:∀b o vs',s.heap.get? b=some o->o.data=.fields vs'->b∉Qf (env::outer):=λb o vs' hb hd hm=>by obtain⟨_,o',ho',hn'⟩:=hl.mem hm;rw[hb]at ho';cases ho';exact hn' _ hd
 have entry:∀(s1:Shared)(vs1:Array Value)(head:Value)(hn:Bool),s1.heap.get? e=some ⟨cls,dx,.fields vs1,sl⟩->1<vs1.size->s1.heap.FunFrames base (env::outer) ->
   (∀b o,b≠e->some b≠T->s.heap.get? b=some o->s1.heap.get? b=some o)->s1.heap.objs.size=s.heap.objs.size->s1={s with heap:=s1.heap} ->
   wpAny (model prog w) A (do let a <- frameOf env;let pl <- entryPlaceOf F hn;let b <- EntryCells.newEntry head a .none (rawInt F) .none pl;setField (.ref e) 1 b) (λ_ s2=>wpAny (model prog w) A (setFlight (.ref e) none) Q E s2) E s1:=by
  intro s1 vs1 head hn he1 hz1 hl1 kp sz es;have nof1:∀b o vs',s1.heap.get? b=some o->o.data=.fields vs'->b∉Qf (env::outer):=λb o vs' hb hd hm=>by obtain⟨_,o',ho',hn'⟩:=hl1.mem hm;rw[hb]at ho';cases ho';exact hn' _ hd
  refine UX (wpAny_frameOf_fun hfr hl1 hf λh1 hs1=>?_);refine UX (wpAny_entryPlaceOf λpl hpl=>?_);unfold EntryCells.newEntry newFields;refine UX (WD ?_ (hpl.sizeOk5 _ _ _ _ _))
  generalize hob:({cls:=.type "traceback",dict:=none,data:=.fields ([head,Value.ref F,.none,rawInt F,.none]++(if pl.isEmpty then List.replicate 6 Value.none else pl)).toArray}:Obj)=ob
  have hod:∃ts,ob.data=.fields ts/\3<ts.size:=by subst hob;exact⟨_,rfl,by simp only[Vd,VL,V5,List.length_nil];omega⟩
  obtain⟨ts,hod,hts⟩:=hod;have he2:h1.get? e=some ⟨cls,dx,.fields vs1,sl⟩:=(hs1.2.1 e (nof1 _ _ _ he1 rfl)).trans he1;have he3:=UY (h:=h1) ob he2;have ne:h1.objs.size≠e:=Nat.ne_of_gt (U6 he2);refine wpAny_setField he3 rfl hz1 ?_;have he4:=Wg (Obj.mapFields (·.setIfInBounds 1 (Value.ref h1.objs.size))) he3 rfl;have hT4:=(VN (h1.push ob) (Obj.mapFields (·.setIfInBounds 1 (Value.ref h1.objs.size))) (VX ne)).trans (Vn h1 (by obtain⟨_,_,dt,_⟩:=ob;cases hod;rfl));unfold setFlight;refine UX (W1 he4 rfl (x:=.ref h1.objs.size) (by simp[hz1]) ?_);rw[if_pos (show(Value.ref h1.objs.size != Value.none)=true from by simp)];refine wpAny_setField hT4 hod hts ?_;rw[es];have keep:∀b o,b≠e->h1.get? b=some o->(((h1.push ob).update e (Obj.mapFields (·.setIfInBounds 1 (Value.ref h1.objs.size)))).update h1.objs.size (Obj.mapFields (·.setIfInBounds 3 ((none:Option Addr).elim Value.none λf=>rawInt f)))).get? b=some o:=λb o hb e1=>by rw[VN _ _ (Nat.ne_of_gt (U6 e1)),VN _ _ (VX hb)];exact UY _ e1
  refine hq _ h1.objs.size ⟨vs1.setIfInBounds 1 (.ref h1.objs.size),sl,?_,by simpa using hz1,by simp[hz1],ne,_,_,Wg _ hT4 (Obj.isFreed_of_fields (Obj.data_mapFields hod _)),Obj.data_mapFields hod _,by simp[hts]⟩ ?_ (λb o hb hbT hbf e1=>?_) λb o hb hbT e1=>?_
  . rw[VN _ _ ne];exact he4
  . rw[hs1.1,sz];exact Vb _
  . exact keep b o hb ((hs1.2.1 b hbf).trans (kp b o hb hbT e1))
  . obtain⟨sl',e2⟩:=hs1.2.2 b o (kp b o hb hbT e1);exact⟨sl',keep b _ hb e2⟩
 unfold noteFrame;simp only[hf]
 cases T with
 | none =>
  refine UX (W1 he rfl hT ?_);rw[if_neg (by decide)];exact entry s vs .none _ he hz hl (λ_ _ _ _ e1=>e1) rfl rfl
 | some t =>
  obtain⟨h1,hte,ot,ts,ht,hdt,h3⟩:=hT;refine UX (W1 he rfl h1 ?_);rw[if_pos (show(Value.ref t != Value.none)=true from by simp)];refine UX (W1 ht hdt h3 ?_);rw[if_neg (show ¬((Value.none == rawInt F)=true)from by simp[rawInt])];refine UX (wpAny_setField ht hdt (Array.getElem?_eq_some_iff.mp h3).1 ?_);have oth:∀b,b≠t->(s.heap.update t (Obj.mapFields (·.setIfInBounds 3 Value.none))).get? b=s.heap.get? b:=λb hb=>VN _ _ (VX hb);refine entry _ vs (.ref t) _ ((oth e (VX hte)).trans he) hz (hl.of_keeps λb o hb hnf=>⟨o,(oth b λq=>?_).trans hb,rfl⟩) (λb o hb hbT e1=>(oth b λq=>hbT (by rw[q])).trans e1) v6 rfl;rw[q,ht]at hb;cases hb;exact hnf ts hdt
theorem Of{e T:Addr}{cls:Value}{dx:Option Addr}{Q:Unit->Shared->Prop}(fl:Rx s.heap e cls dx (some T))
  (hq:∀h',Rx h' e cls dx (some T)->(∀b o,b≠T->s.heap.get? b=some o->h'.get? b=some o)->Q () {s with heap:=h' }):wpAny (model prog w) A (setFlight (.ref e) none) Q E s:=by
 obtain⟨vs,sl,he,hz,h1,hte,ot,ts,ht,hdt,h3⟩:=fl;have hts:=(Array.getElem?_eq_some_iff.mp h3).1;unfold setFlight;refine UX (W1 he rfl h1 ?_);rw[if_pos (show(Value.ref T != Value.none)=true from by simp)];refine wpAny_setField ht hdt hts (hq _ ⟨vs,sl,?_,hz,h1,hte,_,_,Wg _ ht (Obj.isFreed_of_fields (Obj.data_mapFields hdt _)),Obj.data_mapFields hdt _,by simp[hts]⟩ λb o hb e1=>?_)
 . rw[VN _ _ hte];exact he
 . rw[VN _ _ (VX hb)];exact e1
end
noncomputable def Rw(H:Hp)(e:Addr):Hp:=λb=>if b=e then none else H b
theorem dZ{H:Hp}{e b:Addr}(h:b≠e):Rw H e b=H b:=by unfold Rw;rw[if_neg h]
theorem nB{H:Hp}{e:Addr}:Rw H e e=none:=by unfold Rw;rw[if_pos rfl]
theorem qq{H:Hp}{e b:Addr}(h:H b=none):Rw H e b=none:=by unfold Rw;split;rfl;exact h
section
variable{X:Cx}{gV:List (Addr×Obj)}{σ:St}{H:Hp}{s:Shared}
theorem Qi.forget{e:Addr}{φ:Heap->Prop}(I:Qi X gV σ H s)(h:H e=some (.ext φ)):Qi X gV σ (Rw H e) s:=by
 have ne:∀b o,H b=some o->(∀ψ,o≠.ext ψ)->b≠e:=λb o q n z=>by subst z;rw[h]at q;cases q;exact n _ rfl
 refine⟨I.ok,I.os,I.bare,⟨I.base.keep,I.base.slot,λb o e1 n hx=>qq (I.base.free b o e1 n hx),I.base.there,λb xs q=>?_,λb o u q=>?_,λb ps q=>?_⟩,I.loc,I.cell,qq I.free,λx c q=>(I.freeC x c q).imp qq fun⟨hf,o,z⟩=>⟨hf,o,by rw[dZ (ne c _ z λ_ q=>nomatch q)];exact z⟩,λp hp=>?_,λb u q=>?_,I.len⟩
 . have z:=I.base.tups b xs q;rw[dZ (ne b _ z λ_ q=>nomatch q)];exact z
 . have z:=I.base.frzs b o u q;rw[dZ (ne b _ z λ_ q=>nomatch q)];exact z
 . have z:=I.base.tbls b ps q;rw[dZ (ne b _ z λ_ q=>nomatch q)];exact z
 . obtain⟨a1,a2,a3⟩:=I.pin p hp;exact⟨a1,qq a2,a3⟩
 .
  have hb:b≠e:=λz=>by subst z;rw[nB]at q;cases q
  rw[dZ hb]at q;exact(I.hok b u q).stay (λc v _ z=>z) (λc z=>by rw[dZ (ne c _ z λ_ q=>nomatch q)];exact z) (λc xs z=>by rw[dZ (ne c _ z λ_ q=>nomatch q)];exact z) λc ob _ _ z=>by rw[dZ (ne c _ z λ_ q=>nomatch q)];exact z
theorem Qi.track{e:Addr}{o:HO}(I:Qi X gV σ H s)(hn:H e=none)(h0:X.s₀.heap.objs.size<=e)(hL:e≠X.env.locals)(hc:∀x c,X.env.cells.lookup x=some c->c≠e)(hp:∀p∈X.pn++gV,p.1≠e)
  (new:d6 X.prog X.w (Qa H e o) s.heap e o):Qi X gV σ (Qa H e o) s:=by
 have ne:∀b u,H b=some u->b≠e:=λb u q z=>by subst z;rw[hn]at q;cases q
 refine⟨I.ok,I.os,I.bare,⟨I.base.keep,I.base.slot,λb u e1 n hx=>?_,I.base.there,λb xs q=>?_,λb u z q=>?_,λb ps q=>?_⟩,I.loc,I.cell,?_,λx c q=>?_,λp hq=>?_,λb u q=>?_,I.len⟩
 . rw[ax (λz=>by subst z;exact absurd (U6 e1) (Nat.not_lt.mpr h0))];exact I.base.free b u e1 n hx
 . have z:=I.base.tups b xs q;rw[ax (ne b _ z)];exact z
 . have z:=I.base.frzs b _ _ q;rw[ax (ne b _ z)];exact z
 . have z:=I.base.tbls b ps q;rw[ax (ne b _ z)];exact z
 . rw[ax (VX hL)];exact I.free
 . rw[ax (hc x c q)];exact I.freeC x c q
 . obtain⟨a1,a2,a3⟩:=I.pin p hq;exact⟨a1,by rw[ax (hp p hq)];exact a2,a3⟩
 .
  by_cases hb:b=e
  . subst hb;rw[aW]at q;cases q;exact new
  . rw[ax hb]at q;exact(I.hok b u q).stay (λc v _ z=>z) (λc z=>by rw[ax (ne c _ z)];exact z) (λc xs z=>by rw[ax (ne c _ z)];exact z) λc ob _ _ z=>by rw[ax (ne c _ z)];exact z
end
def Ry(o:HO):Prop:=NG o/\Fy o
open Classical in
noncomputable def vS(H:Hp):Hp:=λb=>match H b with
 |some o=>if Ry o then some o else none
 |none=>none
theorem j7{H:Hp}{b:Addr}(h:H b=none):vS H b=none:=by unfold vS;rw[h]
theorem bY{H:Hp}{b:Addr}{o:HO}(h:H b=some o)(v:Ry o):vS H b=some o:=by unfold vS;rw[h];exact if_pos v
theorem JH{H:Hp}{b:Addr}{o:HO}(h:vS H b=some o):H b=some o/\Ry o:=by
 unfold vS at h;split at h
 .
  rename_i u e;split at h
  . rename_i v;cases h;exact⟨e,v⟩
  . cases h
 . cases h
theorem JI{H:Hp}{b:Addr}{o:HO}(h:H b=some o)(v:¬Ry o):vS H b=none:=by unfold vS;rw[h];exact if_neg v
theorem d6.stayN{P:Program}{w:World}{H H':Hp}{h h':Heap}{a:Addr}:∀{o:HO},Fy o->d6 P w H h a o->(∀u,h.get? a=some u->h'.get? a=some u)->(∀b xs,H b=some (.tup xs)->H' b=some (.tup xs))->(∀b o q,pD o q->H b=some (.frz o (.own b))->H' b=some (.frz o (.own b)))->d6 P w H' h' a o
 |.lst xs,_,x,k,_,_=>by obtain⟨z,its,n,r,e⟩:=x;exact⟨z,its,n,r,k _ e⟩
 |.tup xs,_,x,k,_,_=>by obtain⟨z,its,r,ob,e,c⟩:=x;exact⟨z,its,r,ob,k _ e,c⟩
 |.dK kvs,_,x,k,_,_=>by obtain⟨z,y,vs,r,ob,es,ep,e,c⟩:=x;exact⟨z,y,vs,r,ob,es,ep,k _ e,c⟩
 | .dT kvs,_,x,k,ht,_=>by obtain⟨z,y,xs,r,ob,es,ep,e,c⟩:=x;exact⟨z,y,xs,Paired.mapP r λp q z=>⟨z.1,ht _ _ z.2.1,z.2.2⟩,ob,es,ep,k _ e,c⟩
 |.set S n,_,x,k,_,_=>by obtain⟨ob,es,ep,t,e,c⟩:=x;exact⟨ob,es,ep,t,k _ e,c⟩
 |.ins C dx fs,n,_,_,_,_=>n.elim
 |.own y,_,x,k,_,_=>by obtain⟨ob,e⟩:=x;exact⟨ob,k _ e⟩
 |.xd fs,_,x,k,_,_=>by obtain⟨mA,⟨od,es,ep,e,c⟩,r⟩:=x;exact⟨mA,⟨od,es,ep,k _ e,c⟩,r⟩
 |.rng lo hi,_,x,k,_,_=>by obtain⟨t,u,v,e⟩:=x;exact⟨t,u,v,k _ e⟩
 |.frz ob u,n,x,k,ht,hf=>by obtain⟨e,q⟩:=x;exact⟨k _ e,d6.stayN (o:=u) n q k ht hf⟩
 | .tbl t,_,x,k,_,hf=>by
  obtain⟨ps,e,tr,m⟩:=x
  exact⟨ps,k _ e,tr,λpos cv z=>let ⟨c',oc,a1,a2,a3⟩:=m pos cv z;⟨c',oc,a1,hf _ _ _ a3 a2,a3⟩⟩
 | .met f y,_,x,k,_,_=>by have e:h.get? a=some (PySem.W.methodObj (.ref f) (.ref y)):=x;exact(k _ e:h'.get? a=some (PySem.W.methodObj (.ref f) (.ref y)))
 |.ext φ,_,x,k,_,_=>by obtain⟨p,⟨o,e⟩,st⟩:=x;exact⟨st _ _ p k,⟨o,k _ e⟩,st⟩
theorem yC(xs:List V):Ry (.tup xs):=⟨True.intro,True.intro⟩
theorem Dm(q:Str):Ry (.tbl q):=⟨True.intro,True.intro⟩
theorem qr(o:Obj)(y:Addr):Ry (.frz o (.own y)):=⟨True.intro,True.intro⟩
section
variable{X:Cx}{gV:List (Addr×Obj)}{σ:St}{H H':Hp}{s s':Shared}
theorem Qi.hide(I:Qi X gV σ H s):Be X.prog X.w X.K X.mg X.base X.A X.stack s (vS H):=by have e0:=I.env0;refine⟨e0.frames,e0.mod,λb o e=>⟨(e0.bs b o e).1,j7 (e0.bs b o e).2⟩,e0.bsz,e0.funs,λb hb=>j7 (e0.frf b hb),λb o e=>?_,e0.bare,λx hx c P e=>bY (e0.tbs x hx c P e) (Dm _)⟩;obtain⟨e1,v⟩:=JH e;exact d6.stayN v.2 (e0.hok b o e1) (λ_ z=>z) (λc xs z=>bY z (yC xs)) λc ob _ _ z=>bY z (qr ob c)
open Classical in
noncomputable def Rz(H H':Hp):Hp:=λb=>match H' b with
 |some o=>some o
 |none=>H b
theorem fP{b:Addr}{o:HO}(h:H' b=some o):Rz H H' b=some o:=by unfold Rz;rw[h]
theorem qt{b:Addr}(h:H' b=none):Rz H H' b=H b:=by unfold Rz;rw[h]
theorem Qi.unhide(I:Qi X gV σ H s)(ho:s'.os=s.os)(hg:AllBare s'.gens)(u:Un (Qf X.stack) [] (vS H) H' s.heap s'.heap)(hok:Qb X.prog X.w H' s'.heap) :
  Qi X gV σ (Rz H H') s'/\(∀b o,H b=some o->Rz H H' b=some o)/\(∀b o,H' b=some o->vS H b=none->H b=none):=by
 have gone:∀b o,H b=some o->¬Ry o->vS H b=none/\H' b=none:=λb o e v=>by
  have z:=JI e v
  obtain⟨ob,hb⟩:∃ob,s.heap.get? b=some ob:=by
   cases q:s.heap.get? b with
   |some ob=>exact⟨ob,rfl⟩
   | none =>
    exfalso
    cases o with
    |lst xs=>obtain⟨_,_,_,_,e⟩:=I.hok b _ e;rw[q]at e;cases e
    |tup xs=>exact v (yC xs)
    |dK kvs=>obtain⟨_,_,_,_,o,_,_,e,_⟩:=I.hok b _ e;rw[q]at e;cases e
    |dT kvs=>obtain⟨_,_,_,_,o,_,_,e,_⟩:=I.hok b _ e;rw[q]at e;cases e
    |set S n=>obtain⟨o,_,_,_,e,_⟩:=I.hok b _ e;rw[q]at e;cases e
    |ins C dx fs=>obtain⟨_,_,_,e,_⟩:=I.hok b _ e;rw[q]at e;cases e
    |own y=>obtain⟨_,e⟩:=I.hok b _ e;rw[q]at e;cases e
    |xd fs=>obtain⟨_,⟨_,_,_,e,_⟩,_⟩:=I.hok b _ e;rw[q]at e;cases e
    |rng lo hi=>obtain⟨_,_,_,e⟩:=I.hok b _ e;rw[q]at e;cases e
    |frz ob u=>obtain⟨e,_⟩:=I.hok b _ e;rw[q]at e;cases e
    |tbl t=>exact v (Dm t)
    |met f y=>have e:=(show s.heap.get? b=some _ from I.hok b _ e);rw[q]at e;cases e
    |ext φ=>obtain⟨_,⟨_,e⟩,_⟩:=I.hok b _ e;rw[q]at e;cases e
  exact⟨z,u.free b ob hb z v6⟩
 have ext:∀b o,H b=some o->Rz H H' b=some o:=λb o e=>by
  by_cases v:Ry o
  .
   have z:=bY e v
   cases o with
   |tup xs=>exact fP (u.tups b xs z)
   |frz ob w=>exact fP (u.frzs b ob w z)
   |tbl t=>exact fP (u.tbls b t z)
   |_=>exact v.1.elim
  . rw[qt (gone b o e v).2];exact e
 have back:∀b o,H' b=some o->vS H b=none->H b=none:=λb o e z=>by
  cases q:H b with
  |none=>rfl
  | some o' =>
   by_cases v:Ry o'
   . rw[bY q v]at z;cases z
   . rw[(gone b o' q v).2]at e;cases e
 have hok2:Qb X.prog X.w (Rz H H') s'.heap:=λb o e=>by
  unfold Rz at e;split at e
  . rename_i o' q;cases e;exact(hok b _ q).stay (λc w _ z=>z) (λc z=>fP z) (λc xs z=>fP z) λc ob _ _ z=>fP z
  .
   rename_i q
   have nv:¬Ry o:=λv=>by
    have z:=bY e v
    cases o with
    |tup xs=>rw[u.tups b xs z]at q;cases q
    |frz ob w=>rw[u.frzs b ob w z]at q;cases q
    |tbl t=>rw[u.tbls b t z]at q;cases q
    |_=>exact v.1.elim
   have keepT:∀c o',H c=some o'->¬Ry o'->∀w,s.heap.get? c=some w->s'.heap.get? c=some w:=λc o' e' v' w hw=>by refine u.keep c w hw (gone c o' e' v').1 (λhm=>?_) v6;have:=I.stkFree c hm;rw[e']at this;cases this
   refine(I.hok b o e).stay (λc w hc z=>?_) (λc z=>ext c _ z) (λc xs z=>ext c _ z) λc ob _ _ z=>ext c _ z;rcases hc with rfl|hc
   . exact keepT c o e nv w z
   . exact keepT c _ hc (λv=>v.1) w z
 refine⟨I.call' (ch:=[]) ho ⟨λb o e n hf hx=>u.keep b o e (j7 n) hf hx,λb o e n hf hx=>u.slot b o e (j7 n) hf hx,λb o e n hx=>?_,u.there,λb xs e=>ext b _ e,λb o w e=>ext b _ e,λb ps e=>ext b _ e⟩ hok2 hg (λb z=>absurd z v6),ext,back⟩;rw[qt (u.free b o e (j7 n) hx)];exact n
end
section
variable{K:Frag}{Pr H H':Hp}{σ:St}{Z:Ev}
theorem aA.exten(E:aA K Pr H σ Z)(h:∀b o,H b=some o->H' b=some o):aA K Pr H' σ Z :=
 ⟨λb o e=>h b o (E.sub b o e),E.nd,E.off,Paired.impMem E.sl λl hl s q=>q.pres (λb u _ e=>h b u e) l λa e=>by
  obtain⟨vs,e,_⟩:=E.at_own (iO.mpr ⟨l,hl,e⟩)
  rw[h _ _ e,e]⟩
end
mutual
theorem QU.hid{K:Frag}{H:Hp}:∀{v:V}{d:D},QU K H v d->QU K (vS H) v d
 |_,_,.non=>.non
 |_,_,.bl b=>.bl b
 |_,_,.int i=>.int i
 |_,_,.str x=>.str x
 | _,_,.tup h r=>.tup (by
   rcases h with(h|⟨o,h⟩)|h
   .
    exact .inl (.inl (bY h (yC _)))
   .
    exact .inl (.inr ⟨o,bY h ⟨True.intro,True.intro⟩⟩)
   .
    exact .inr h) (bJ.hid r)
 | _,_,.lst h r=>.lst (by
   rcases h with⟨o,h⟩|h
   .
    exact .inl ⟨o,bY h ⟨True.intro,True.intro⟩⟩
   .
    exact .inr h) (bJ.hid r)
 |_,_,.dct h=>.dct (bY h ⟨True.intro,True.intro⟩)
 | _,_,.exc h hv hc hn hs hq hf r=>.exc (bY h ⟨True.intro,hv⟩) hv hc hn hs hq (by
   rcases hf with hf|⟨d,od,e,h,l⟩
   .
    exact .inl hf
   .
    exact .inr ⟨d,od,e,bY h ⟨True.intro,True.intro⟩,l⟩) (bJ.hid r)
 |_,_,.fn hl hf hq hc hz hd hv hm r=>.fn hl (bY hf (qr _ _)) (bY hq (qr _ _)) hc (bY hz (qr _ _)) hd hv hm (QU.hid r)
theorem bJ.hid{K:Frag}{H:Hp}:∀{vs:List V}{ds:List D},bJ K H vs ds->bJ K (vS H) vs ds
 |_,_,.nil=>.nil
 |_,_,.cons h t=>.cons (QU.hid h) (bJ.hid t)
end
theorem Og:typeOf (.type "ValueError")=pure (.type "type"):=kitMeta_of y_
theorem Oh:Manifest.isStub "ValueError"=false:=by decide +kernel
theorem Oi:handedIn (.builtin "ValueError.__init__")=true:=by decide +kernel
theorem Dn(K:Frag):findCls K (.type "ValueError") (.type "type") "__init__"=some (.val (.builtin "ValueError.__init__")):=by kernel_rfl
theorem Rx.at{h h':Heap}{e:Addr}{cls:Value}{dx:Option Addr}(f:Rx h e cls dx none)(k:∀o,h.get? e=some o->h'.get? e=some o):Rx h' e cls dx none:=by obtain⟨vs,sl,he,hz,h1⟩:=f;exact⟨vs,sl,k _ he,hz,h1⟩
noncomputable def XO(e:Addr)(cls:Value)(dx:Option Addr):HO:=.ext λh=>Rx h e cls dx none
noncomputable def XD(d:Addr)(fs:List (Str×V)):HO:=.ext λh=>∃mA,h.Ns1 d mA/\(∀f,Hy (fs.lookup f) (mA f))/\PySem.Within mA (fs.map (·.1))
theorem XO.ok{P:Program}{w:World}{H:Hp}{h:Heap}{e:Addr}{cls:Value}{dx:Option Addr}(f:Rx h e cls dx none):d6 P w H h e (XO e cls dx):=by obtain⟨vs,sl,he,hz,h1⟩:=f;exact⟨⟨vs,sl,he,hz,h1⟩,⟨_,he⟩,λh1 h2 p k=>p.at k⟩
theorem XD.ok{P:Program}{w:World}{H:Hp}{h:Heap}{d:Addr}{fs:List (Str×V)}{mA:Str->Option Value}(n:h.Ns1 d mA)(r:∀f,Hy (fs.lookup f) (mA f))(wi:PySem.Within mA (fs.map (·.1))):d6 P w H h d (XD d fs) :=
 ⟨⟨mA,n,r,wi⟩,let ⟨o,_,_,e,_⟩:=n;⟨o,e⟩,λh1 h2 ⟨mA,n,r⟩ k=>⟨mA,n.at k,r⟩⟩
theorem Mv{H:Hp}{a:Addr}{o:HO}(h:H a=some o):Qa H a o=H:=by
 funext b;unfold Qa;split
 . rename_i e;rw[e,h]
 . rfl
section
variable{X:Cx}{gV:List (Addr×Obj)}{σ:St}{H:Hp}{s:Shared}
theorem Qi.xo{e:Addr}{cls:Value}{dx:Option Addr}(I:Qi X gV σ H s)(h:H e=some (XO e cls dx)):Rx s.heap e cls dx none:=(I.hok e _ h).1
theorem Qi.xd{d:Addr}{fs:List (Str×V)}(I:Qi X gV σ H s)(h:H d=some (XD d fs)):∃mA,s.heap.Ns1 d mA/\(∀f,Hy (fs.lookup f) (mA f))/\PySem.Within mA (fs.map (·.1)):=(I.hok d _ h).1
theorem Rx.inst{h:Heap}{e C:Addr}{dx T:Option Addr}(f:Rx h e (.ref C) dx T)(hd:∀d,dx=some d->∃o,h.get? d=some o):∃vs sl od,InstAt h e ⟨.ref C,dx,.fields vs,sl⟩ C od/\1<vs.size:=by
 obtain⟨vs,sl,he,hz,_⟩:=f
 cases dx with
 |none=>exact⟨vs,sl,none,⟨he,rfl,rfl,trivial⟩,hz⟩
 | some d =>
  obtain⟨o,ho⟩:=hd d rfl;exact⟨vs,sl,some o,⟨he,rfl,rfl,ho⟩,hz⟩
end
section
variable{X:Cx}{a b:Expr}{p1 p2 pos:Pos}{t:TA}
def Aj(K:Frag)(t:TA):TE:=λσ H Q=>t σ H λvs H1=>∃e tx c C L cd,vs=[.ref e,tx]/\H1 e=some (XO e (.ref C) none)/\sU K c C L cd/\Q .non H1
theorem Gd{pl:Sem Bool} (hg:Gl X "ValueError") (hm:X.mg "ValueError"=none) (ha:PA X [a,b] t) (hs:starEach [a,b] X.env=(false,eval a X.env)::starEach [b] X.env:=by rfl) (hpl:(backTo pos (starEach [b] X.env)).any (·.1)=false:=by rfl)
  (ht:eval (.Call (.Attribute (.Name "ValueError" p1) "__init__" p2) [a,b] [] pos) X.env=(do
   let ov <- eval (.Name "ValueError" p1) X.env
   standAt p2.atName
   let (f,first) <- holding [ov] (getMethod ov "__init__" pl)
   callWith pos f first (backTo pos (starEach [a,b] X.env)) (backToKw pos (keywordEach [] X.env))):=by rfl) :
  PE X (.Call (.Attribute (.Name "ValueError" p1) "__init__" p2) [a,b] [] pos) (Aj X.K t):=by
 intro gV s σ H Q I h;refine methodCall_KW (jw I hg hm (show bootBuiltins "ValueError"=some (.type "ValueError") by decide +kernel) ?_) ht;obtain⟨m,F⟩:=I.fr;have k4:=Dn X.K;refine @method_type _ _ _ _ _ X.K _ _ _ _ _ _ _ _ F I.ok.mod.kin Og Oh k4 Oi ?_;have I1:=I.tok (s.toks+1);have hA:=ha pos gV _ σ H _ I1 h;rw[hs]at hA ⊢;refine Calls.callWith_builtin (by show(false ||(backTo pos (starEach [b] X.env)).any (·.1))=false;rw[hpl]<;>rfl) (Calls.evalArgs_plain (Qk hA λus s2 ⟨vs,H2,I2,r,e,tx,c,C,L,cd,ev,he,S,q⟩=>?_));subst ev;obtain⟨u1,u2,rfl,r1,r2⟩:=Fo r;cases r1;obtain⟨vs,sl,od,Ia,hz⟩:=(I2.xo he).inst (λd z=>nomatch z);refine N2 S I2.kIn Ia rfl xL λt'=>⟨.non,H2,?_,rfl,q⟩;have hx1:=UY (h:=s2.heap) {cls:=.type "tuple",data:=.seq #[u2] } Ia.at_;have z:=I2.write (x:=e) (e:=e) (o:=XO e (.ref C) none) (h':=(s2.heap.push {cls:=.type "tuple",data:=.seq #[u2] }).update e (Obj.mapFields (·.setIfInBounds 0 (.ref s2.heap.objs.size)))) (t':=t') (by rw[he]; exact True.intro) (.inl rfl) (λb u hb e1=>(VN _ _ (VX hb)).trans (UY _ e1)) ⟨_,Wg _ hx1 rfl⟩ (XO.ok ?_)
 . rw[Mv he]at z;exact z
 . obtain⟨vs',sl',he',hz',h1'⟩:=I2.xo he;have e2:=Ia.at_.symm.trans he';cases e2;refine⟨vs.setIfInBounds 0 (.ref s2.heap.objs.size),sl,Wg _ hx1 rfl,by simpa using hz',?_⟩;show(vs.setIfInBounds 0 _)[1]?=some .none;rw[Array.getElem?_setIfInBounds_ne x_];exact h1'
noncomputable def NK(K:Frag):Sp:=λvs H Q _=>∃e tx c C L cd,vs=[.ref e,tx]/\H e=some (XO e (.ref C) none)/\sU K c C L cd/\Q .non H
structure Do (K:Frag) (mg:Str->Option Value) (L fL:Addr) (fd:FuncData) (st:Stmt):Prop where
 m:mg "LoadError"=some (.ref L)
 rd:readsIn K L (.type "type")=true
 sg:specialIn K (.ref L) "__getattribute__"=some (some (.builtin "type.__getattribute__"))
 fc:findCls K (.ref L) (.type "type") "__init__"=some (.val (.ref fL))
 f:QS K "__init__" "LoadError.__init__" st fL fd
 b:oj K fd ["self","text"] []
theorem Ge{pl:Sem Bool}{k L fL:Addr}{fd:FuncData}{st:Stmt}(T:Do X.K X.mg L fL fd st) (F:FnOk X.prog X.w X.K X.mg X.base CX0 k fL fd ["self","text"] (NK X.K)) (hr:gI k X.A) (hg:Gl X "LoadError") (ha:PA X [a,b] t)
  (hs:starEach [a,b] X.env=(false,eval a X.env)::starEach [b] X.env:=by rfl) (hpl:(backTo pos (starEach [b] X.env)).any (·.1)=false:=by rfl)
  (ht:eval (.Call (.Attribute (.Name "LoadError" p1) "__init__" p2) [a,b] [] pos) X.env=(do
   let ov <- eval (.Name "LoadError" p1) X.env
   standAt p2.atName
   let (f,first) <- holding [ov] (getMethod ov "__init__" pl)
   callWith pos f first (backTo pos (starEach [a,b] X.env)) (backToKw pos (keywordEach [] X.env))):=by rfl) :
  PE X (.Call (.Attribute (.Name "LoadError" p1) "__init__" p2) [a,b] [] pos) (Aj X.K t):=by
 intro gV s σ H Q I h;refine methodCall_KW (jO I hg T.m ?_) ht;refine method_cls I.kIn T.sg (cls_read I.kIn T.rd T.fc (U9 ?_));have k3:handedIn (.ref fL)=true:=rfl;show wpAny _ _ (handedOut (.ref fL)) _ _ _;rw[handedOut_of k3];refine U9 ?_;have I1:=I.tok (s.toks+1);refine callWith_K (h₀:=X.base) I.ok.mod.kin T.f.kp (Qk (ha pos gV _ σ H _ I1 h) λus s1 ⟨vs,H1,I2,r,q⟩=>⟨I2.kIn,?_⟩) hs hpl;refine Cw F hr T.b .nil IQ I2 r ?_;rw[VR];exact q
def Mw(K:Frag)(ta tv:TE)(f:Str):TS:=λD σ H=>tv σ H λy H1=>ta σ H1 λx H2=>∃e c C L cd,x=.ref e/\sU K c C L cd/\findIn K (.ref C) f=some none /\
 ((H2 e=some (XO e (.ref C) none)/\∀d,H2 d=none->d≠e->D.nx σ (Qa (Qa H2 d (XD d [(f,y)])) e (XO e (.ref C) (some d)))) ∨
  ∃d fs,H2 e=some (XO e (.ref C) (some d))/\H2 d=some (XD d fs)/\fs.lookup f=none/\fs.length<=900/\D.nx σ (Qa H2 d (XD d (fs++[(f,y)]))))
theorem ue{α:Type}{f g:Str}{y:α}:∀{fs:List (Str×α)},fs.lookup f=none->(fs++[(f,y)]).lookup g=if g=f then some y else fs.lookup g
 | [],_=>by
  by_cases h:g=f
  . subst h;simp
  . have:(g == f)=false:=VP.mpr h;simp[List.lookup,this,h]
 | (k,v)::fs,h=>by
  have h':(f == k)=false/\fs.lookup f=none:=by
   cases e:(f == k)with
   |true=>simp[List.lookup,e]at h
   |false=>exact⟨rfl,by simpa[List.lookup,e]using h⟩
  have ih:=ue (g:=g) (y:=y) h'.2
  cases e:(g == k)with
  | true =>
   have:g≠f:=λz=>by subst z;rw[h'.1]at e;cases e
   simp[List.lookup,e,this]
  | false =>
   simp only[W8,List.lookup,e];exact ih
theorem JJ{o value:Expr}{f:Str}{pos':Pos}{ta tv:TE}(ha:PE X o ta)(hv:PE X value tv)(hs:swapsWith value (some (.Attribute o f pos')) pos.line X.env=pure false:=by rfl):PS X (.Assign [.Attribute o f pos'] value pos) (Mw X.K ta tv f):=by
 intro gV s σ H D I h;refine plainObj_wpAny_Assign_Attribute (Qk (hv gV s σ H _ I h) λu s1 ⟨y,H1,I1,ry,q⟩=>Qk (ha gV s1 σ H1 _ I1 q) λov s2 ⟨x,H2,I2,rx,e,c,C,L,cd,ex,S,hf,q2⟩=>?_) hs;subst ex;obtain rfl:ov=Value.ref e:=rx;rcases q2 with⟨he,q2⟩|⟨d,fs,he,hd,hl,hz,q2⟩
 .
  obtain⟨vs,sl,od,Ia,hz⟩:=(I2.xo he).inst (λd z=>nomatch z);have dn:H2 s2.heap.objs.size=none:=I2.hok.fresh (Vb _);have dne:s2.heap.objs.size≠e:=Nat.ne_of_gt (U6 Ia.at_);refine FE S I2.kIn Ia rfl hf λh' tk e1 n1 k1=>⟨σ,_,?_,q2 s2.heap.objs.size dn dne⟩
  have hd1:d6 X.prog X.w (Qa (Qa H2 s2.heap.objs.size (XD s2.heap.objs.size [(f,y)])) e (XO e (.ref C) (some s2.heap.objs.size))) h' s2.heap.objs.size (XD s2.heap.objs.size [(f,y)]):=by
   refine XD.ok n1 (λg=>?_) λg hg=>?_
   .
    by_cases z:g=f
    . subst z;simp[Hy,ry]
    . have:(g == f)=false:=VP.mpr z;simp[List.lookup,this,z,Hy]
   .
    by_cases z:g=f
    . simp[z]
    . simp[z]at hg
  obtain⟨vs0,sl0,he0,hz0,h10⟩:=I2.xo he;have e2:=Ia.at_.symm.trans he0;cases e2;have ho1:d6 X.prog X.w (Qa (Qa H2 s2.heap.objs.size (XD s2.heap.objs.size [(f,y)])) e (XO e (.ref C) (some s2.heap.objs.size))) h' e (XO e (.ref C) (some s2.heap.objs.size)):=XO.ok ⟨vs,sl,e1,hz0,h10⟩;have tr:∀b o,H2 b=some o->b≠e->Qa (Qa H2 s2.heap.objs.size (XD s2.heap.objs.size [(f,y)])) e (XO e (.ref C) (some s2.heap.objs.size)) b=some o:=λb o q hb=>by rw[ax hb,ax (bf q dn)];exact q
  have nx:∀b o,H2 b=some o->(∀ψ,o≠.ext ψ)->b≠e:=λb o q n z=>by subst z;rw[he]at q;cases q;exact n _ rfl
  refine I2.un ⟨λb o hb n _ _=>k1 b o (λz=>by subst z;rw[he]at n;cases n) hb,λb o hb n _ _=>⟨o.slots,k1 b o (λz=>by subst z;rw[he]at n;cases n) hb⟩,λb o hb n _=>?_,λb o hb _=>?_,λb xs q=>tr b _ q (nx b _ q λ_ z=>nomatch z),λb o' u' q=>tr b _ q (nx b _ q λ_ z=>nomatch z),λb ps q=>tr b _ q (nx b _ q λ_ z=>nomatch z)⟩ λb o q=>?_
  . rw[ax (λz=>by subst z;rw[he]at n;cases n),ax (Vp (U6 hb))];exact n
  .
   by_cases z:b=e
   . subst z;exact⟨_,e1⟩
   . exact⟨o,k1 b o z hb⟩
  .
   by_cases hb:b=e
   . subst hb;rw[aW]at q;cases q;exact ho1
   .
    by_cases hb2:b=s2.heap.objs.size
    . subst hb2;rw[ax hb,aW]at q;cases q;exact hd1
    .
     rw[ax hb,ax hb2]at q;refine(I2.hok b o q).stay (λc v hc z=>k1 c v ?_ z) (λc z=>tr c _ z (nx c _ z λ_ z=>nomatch z)) (λc xs z=>tr c _ z (nx c _ z λ_ z=>nomatch z)) λc ob _ _ z=>tr c _ z (nx c _ z λ_ z=>nomatch z);rcases hc with rfl|hc
     . exact hb
     . exact nx c _ hc λ_ z=>nomatch z
 .
  obtain⟨mA,nA,rA,wA⟩:=I2.xd hd;obtain⟨od,_,_,hod,_⟩:=id nA;obtain⟨vs,sl,od',Ia,hz'⟩:=(I2.xo he).inst (λd' z=>by cases z;exact⟨od,hod⟩);refine FF S I2.kIn Ia rfl nA wA (by rw[U4];omega) hf λh' tk n1 sb=>⟨σ,_,?_,q2⟩
  refine I2.write (x:=d) (e:=d) (by rw[hd];exact True.intro) (.inl rfl) (λb u hb e1=>(sb.2 b hb).trans e1) (let ⟨o,_,_,e1,_⟩:=n1;⟨o,e1⟩) (XD.ok n1 (λg=>?_) λg hg=>?_)
  .
   rw[ue hl];by_cases z:g=f
   . subst z;simp[Hy,ry]
   . rw[if_neg z,if_neg z];exact rA g
  .
   by_cases z:g=f
   . subst z;simp
   . rw[if_neg z]at hg;have:=wA g hg;simp at this ⊢;exact .inl this
end
noncomputable def Mx(K:Frag)(ns:List Str):Sp:=λvs H Q _=>∃e vals c C L cd,vs=.ref e::vals/\H e=some (XO e (.ref C) none)/\sU K c C L cd/\(∀f∈ns,findIn K (.ref C) f=some none)/\vals.length=ns.length /\
 ∀d,H d=none->d≠e->Q .non (Qa (Qa H d (XD d (ns.zip vals))) e (XO e (.ref C) (some d)))
def RA(K:Frag):TS:=Iv (Aj K (Cv (Iq 0) (Cv (Iq 1) NY)))
def RC(K:Frag)(x:V)(f:Str):TS:=OT (Iv (Aj K (Cv (Iq 0) (Cv (tC x) NY)))) (Mw K (Iq 0) (Iq 1) f)
theorem JK{K:Frag}{vs:List V}{H:Hp}{Q:VK}{E:XK}{a b:Str}(h:NK K vs H Q E):RA K {nx:=λ_ H'=>Q .non H',rt:=Q} (om [a,b] vs) H:=by obtain⟨e,tx,c,C,L,cd,rfl,he,S,q⟩:=h;exact⟨_,rfl,_,rfl,e,tx,c,C,L,cd,rfl,he,S,q⟩
theorem JL{K:Frag}{vs:List V}{H:Hp}{Q:VK}{E:XK}{a b f:Str}{x:V}(h:Mx K [f] vs H Q E):RC K x f {nx:=λ_ H'=>Q .non H',rt:=Q} (om [a,b] vs) H:=by
 obtain⟨e,vals,c,C,L,cd,rfl,he,S,hf,hl,q⟩:=h
 match vals,hl with
 |[v],_=>exact⟨_,rfl,e,x,c,C,L,cd,rfl,he,S,_,rfl,_,rfl,e,c,C,L,cd,rfl,S,hf f v6,.inl ⟨he,λd hd hde=>q d hd hde⟩⟩
structure Xc where
 c:Str
 ns:List Str
 ds:List D
def Fe(K:Frag)(H:Hp)(cls:Value)(dx:Option Addr)(x:Xc):Prop:=∃C vs,cls=.ref C/\jS K x.c C=true/\(∀f∈x.ns,findIn K (.ref C) f=some none)/\XF H dx x.ns vs/\bJ K H vs x.ds
theorem Fe.ext{K:Frag}{H H':Hp}{cls:Value}{dx:Option Addr}{x:Xc}(f:Fe K H cls dx x)(h:∀b o,H b=some o->H' b=some o):Fe K H' cls dx x:=by obtain⟨C,vs,e,s,fq,a,r⟩:=f;exact⟨C,vs,e,s,fq,a.pres λb o _ q=>h b o q,r.pres λb o _ q=>h b o q⟩
noncomputable def RD(P:Program)(w:World):QC:=λouter H s E e s'=>∃a cls dx T H',e=.ref a/\s'.os=s.os/\AllBare s'.gens/\Un (Qf outer) [] H H' s.heap s'.heap/\Qb P w H' s'.heap/\Rx s'.heap a cls dx (some T)/\H' a=none/\H' T=none /\
 s.heap.objs.size<=a/\s.heap.objs.size<=T/\E cls dx H'
section
variable{X:Cx}{gV:List (Addr×Obj)}{σ:St}{H:Hp}{s:Shared}
theorem Qb.there{P:Program}{w:World}{H:Hp}{h:Heap}(x:Qb P w H h){b:Addr}{o:HO}(e:H b=some o):∃u,h.get? b=some u:=by
 have lt:=x.lt e
 cases o with
 |lst xs=>obtain⟨_,_,_,_,e⟩:=x b _ e;exact⟨_,e⟩
 |tup xs=>obtain⟨_,_,_,o,e,_⟩:=x b _ e;exact⟨_,e⟩
 |dK kvs=>obtain⟨_,_,_,_,o,_,_,e,_⟩:=x b _ e;exact⟨_,e⟩
 |dT kvs=>obtain⟨_,_,_,_,o,_,_,e,_⟩:=x b _ e;exact⟨_,e⟩
 |set S n=>obtain⟨o,_,_,_,e,_⟩:=x b _ e;exact⟨_,e⟩
 |ins C dx fs=>obtain⟨_,_,_,e,_⟩:=x b _ e;exact⟨_,e⟩
 |own y=>obtain⟨_,e⟩:=x b _ e;exact⟨_,e⟩
 |xd fs=>obtain⟨_,⟨_,_,_,e,_⟩,_⟩:=x b _ e;exact⟨_,e⟩
 |rng lo hi=>obtain⟨_,_,_,e⟩:=x b _ e;exact⟨_,e⟩
 |frz ob u=>obtain⟨e,_⟩:=x b _ e;exact⟨_,e⟩
 |tbl t=>obtain⟨_,e,_⟩:=x b _ e;exact⟨_,e⟩
 |met f y=>exact⟨_,(show h.get? b=some _ from x b _ e)⟩
 |ext φ=>obtain⟨_,⟨_,e⟩,_⟩:=x b _ e;exact⟨_,e⟩
structure RE (X:Cx) (gV:List (Addr×Obj)) (b:Addr):Prop where
 s0:X.s₀.heap.objs.size<=b
 loc:b≠X.env.locals
 cel:∀x c,X.env.cells.lookup x=some c->c≠b
 pin:∀p∈X.pn++gV,p.1≠b
theorem Qi.newer(I:Qi X gV σ H s){b:Addr}(h:s.heap.objs.size<=b):RE X gV b:=by
 refine⟨U8 I.sz h,λz=>?_,λx c e z=>?_,λp hp z=>?_⟩
 . have:=I.lt;rw[<- z]at this;exact absurd this (Nat.not_lt.mpr h)
 . obtain⟨v,o,ho,_⟩:=I.cell x c e;have:=U6 ho;rw[z]at this;exact absurd this (Nat.not_lt.mpr h)
 . have:=U6 (I.pin p hp).1;rw[z]at this;exact absurd this (Nat.not_lt.mpr h)
structure Ak (X:Cx) (gV:List (Addr×Obj)) (H:Hp) (s:Shared) (a:Addr) (cls:Value) (dx T:Option Addr):Prop where
 fly:Rx s.heap a cls dx T
 na:H a=none
 nt:∀t,T=some t->H t=none
 wa:RE X gV a
 wt:∀t,T=some t->RE X gV t
def RF(X:Cx)(xp:Xc->Prop):Prop:=∀(gV:List (Addr×Obj))(σ:St)(H:Hp)(s:Shared)(a:Addr)(cls:Value)(dx T:Option Addr)(x:Xc),Qi X gV σ H s->Ak X gV H s a cls dx T->Fe X.K H cls dx x->xp x->X.xe (.ref a) s
end
theorem Dp{P:Program}{w:World}{K:Frag}{mg:Str->Option Value}{base:Heap}{N:List Str}{qual:Str}{scope:Scope}{f:Addr}{cd:Value}{A:Around}{outer:List Env}{s:Shared}{H:Hp}{E:XK}{xp:Xc->Prop}
  (h:∀cls dx H' x,Fe K H' cls dx x->xp x->E cls dx H'):RF (Fd (RD P w) P w K mg base N qual scope f cd A outer s H E) xp:=by
 intro gV σ H1 s1 a cls dx T x I R F q;show wpAny (model P w) _ (leaving _ (.ref a)) _ _ s1;unfold leaving;have hl:=I.stack;refine UX (Mu (F:=s.heap.objs.size) I.ok.frames hl rfl R.fly λh' T' fl hT k1 k2=>?_);have neL:∀b o,s.heap.get? b=some o->b≠s.heap.objs.size:=λb o e=>Vp (U6 e);have neA:∀b o,s.heap.get? b=some o->b≠a:=λb o e=>Vp (U2 (U6 e) R.wa.s0);have neT:∀b o,s.heap.get? b=some o->some b≠T:=λb o e z=>absurd (U6 e) (Nat.not_lt.mpr (R.wt b z.symm).s0);have tra:∀b o,H1 b=some o->b≠a/\some b≠T/\b∉Qf (envOfC qual scope s.heap.objs.size f cd::outer):=λb o e=>by refine⟨λz=>(by subst z;rw[R.na]at e;cases e),λz=>(by rw[R.nt b z.symm]at e;cases e),λz=>?_⟩;have:=I.stkFree b z;rw[e]at this;cases this
 refine⟨a,cls,dx,T',H1,rfl,I.os,I.bare,⟨λb o e n hf hx=>?_,λb o e n hf hx=>?_,λb o e n hx=>I.base.free b o e n hx,λb o e hx=>?_,I.base.tups,I.base.frzs,I.base.tbls⟩,λb o e=>?_,fl,R.na,?_,R.wa.s0,U8 I.sz hT,h cls dx H1 x F q⟩
 .
  refine k1 b o (neA b o e) (neT b o e) (λhm=>?_) (I.base.keep b o e n hf hx);rcases Vc.mp (show b∈s.heap.objs.size::Qf outer from hm)with z|z
  . exact neL b o e z
  . exact hf z
 . obtain⟨sl,e1⟩:=I.base.slot b o e n hf hx;obtain⟨sl',e2⟩:=k2 b _ (neA b o e) (neT b o e) e1;exact⟨sl',e2⟩
 . obtain⟨o',e1⟩:=I.base.there b o e hx;obtain⟨sl',e2⟩:=k2 b _ (neA b o e) (neT b o e) e1;exact⟨_,e2⟩
 .
  refine(I.hok b o e).stay (λc v hc z=>?_) (λ_ z=>z) (λ_ _ z=>z) λ_ _ _ _ z=>z
  have ht:∃o',H1 c=some o':=by
   rcases hc with rfl|hc
   . exact⟨o,e⟩
   . exact⟨_,hc⟩
  obtain⟨o',ho'⟩:=ht;obtain⟨t1,t2,t3⟩:=tra c o' ho';exact k1 c v t1 t2 t3 z
 . exact I.hok.fresh hT
abbrev RG:=List D->(L->Prop)->(Xc->Prop)->Prop
noncomputable def RH(K:Frag)(n:Nat)(fs:RG):Sp:=λvs H Q E=>vs.length=n/\∃ds so xp,bJ K H vs ds/\fs ds so xp/\(∀v H' r,aA K H H' [some v] [r]->so r->Q v H')/\∀cls dx H' x,Fe K H' cls dx x->xp x->E cls dx H'
def qT(fs:RG)(xp:Xc->Prop)(t:W (List L)):W L:=λZ so=>t Z λls Z1=>FL ls λds=>fs ds (λr=>so r Z1) xp
theorem aA.ds{K:Frag}{H:Hp}:∀{vs:List V}{ds:List D},bJ K H vs ds->Paired (a8 K H) (vs.map some) (ds.map .d)
 |_,_,.nil=>.nil
 |_,_,.cons h t=>.cons ⟨_,rfl,h⟩ (aA.ds t)
section
variable{X:Cx}{k n:Nat}{f:Addr}{fd:FuncData}{ps:List Str}{fs:RG}{x:Str}{p pos:Pos}{e:Expr}{es:List Expr}{bs:List (Option Nat)}{t:W (List L)}{xp:Xc->Prop}
theorem Mz{gV:List (Addr×Obj)}{σ:St}{H Pr:Hp}{s:Shared}{Z:Ev}{us:List Value}{vs:List V}{ds:List D}{so:L->Ev->Prop}{Ex:Value->Shared->Prop}(F:FnOk X.prog X.w X.K X.mg X.base (RD X.prog X.w) k f fd ps (RH X.K n fs))(hr:gI k X.A)(hb:oj X.K fd ps [])(hl:vs.length=n)
  (I:Qi X gV σ H s) (E:aA X.K Pr H σ Z) (r:bT vs us) (rs:bJ X.K H vs ds) (h:fs ds (λr=>so r Z) xp)
  (hx:∀(s':Shared)(H':Hp)(a:Addr)(cls:Value)(dx T:Option Addr)(y:Xc),Qi X gV σ H' s'->aA X.K Pr H' σ Z->Ak X gV H' s' a cls dx T->Fe X.K H' cls dx y->xp y->Ex (.ref a) s') :
  wpAny (model X.prog X.w) X.A (call (.ref f) us) (EL X gV σ Pr so) Ex s:=by
 have hsp:RH X.K n fs vs (vS H) (λv H'=>∃r,aA X.K (vS H) H' [some v] [r]/\so r Z) (λcls dx H'=>∃y,Fe X.K H' cls dx y/\xp y) :=
  ⟨hl,ds,_,xp,rs.hid,h,λv H' r E1 p=>⟨r,E1,p⟩,λcls dx H' y q1 q2=>⟨y,q1,q2⟩⟩
 have hl':us.length=ps.length:=by rw[<- r.length];exact F.len _ _ _ _ hsp
 have bt:=hb s us I.kIn (by rw[VR];exact hl');rw[VR]at bt;refine Xe (codeAny_mono (F.run X.A X.stack s (vS H) ⟨us,[]⟩ us vs _ _ hr I.hide bt r hsp) λres s' hq=>?_)
 cases res with
 | error e =>
  obtain⟨a,cls,dx,T,H',rfl,os,bare,un,hok,fl,na,nt,za,zt,y,q1,q2⟩:=hq;obtain⟨I2,ext,back⟩:=I.unhide os bare un hok;refine hx s' _ a cls dx (some T) y I2 (E.exten ext) ⟨fl,?_,λt et=>?_,I.newer za,λt et=>by cases et;exact I.newer zt⟩ (q1.ext λb o q=>fP q) q2
  . rw[qt na];exact I.hok.fresh za
  . cases et;rw[qt nt];exact I.hok.fresh zt
 | ok fl =>
  cases fl with
  | ret u =>
   obtain⟨v,H',os,bare,un,hok,rv,r,E2,p⟩:=hq;obtain⟨I2,ext,back⟩:=I.unhide os bare un hok;have E3:=E.exten ext
   have fr:∀a∈bb r,H a=none/\∃vs,H' a=some vs/\IS vs:=λa ha=>by
    have ha':a∈owns [r]:=by rw[aK];exact Vh _ ha
    obtain⟨vs',e1,m1⟩:=E2.at_own ha';exact⟨back a _ e1 (E2.off a ha'),vs',e1,m1⟩
   refine⟨v,_,r,Z,I2,rv,⟨E3.sub,?_,λa ha=>?_,.cons ?_ E3.sl⟩,p⟩
   . rw[aK];have n1:=E2.nd;rw[aK]at n1;refine Vv.mpr ⟨(Vv.mp n1).1,E3.nd,λa ha b hb z=>?_⟩;subst z;obtain⟨vs',e1,_⟩:=E.at_own hb;rw[(fr a ha).1]at e1;cases e1
   .
    rw[aK]at ha;rcases Vx.mp ha with z|z
    .
     cases q:Pr a with
     |none=>rfl
     |some o=>have:=E.sub a o q;rw[(fr a z).1]at this;cases this
    . exact E3.off a z
   .
    have sl:=E2.sl
    cases sl with
    | cons q t =>
     exact q.pres (λb o _ e=>fP e) r λa ha=>by obtain⟨_,vs',e1,_⟩:=fr a ha;rw[fP e1,e1]
  |next=>exact False.elim hq
  |brk=>exact False.elim hq
  |cont=>exact False.elim hq
theorem Gf(F:FnOk X.prog X.w X.K X.mg X.base (RD X.prog X.w) k f fd ps (RH X.K n fs))(hr:gI k X.A)(hg:Gl X x)(hm:X.mg x=some (.ref f))(hk:PySem.W.keepIn X.K (.ref f)=true)(hb:oj X.K fd ps [])(hx:RF X xp)
  (ha:QV X (e::es) bs t) (hn:bs.length=n) (hdb:(x == ("__debug__" : Str))=false:=by decide) (he:starEach (e::es) X.env=(false,eval e X.env)::starEach es X.env:=by rfl) (hpl:(backTo pos (starEach es X.env)).any (·.1)=false:=by rfl) :
  PL X (.Call (.Name x p) (e::es) [] pos) (qT fs xp t):=by
 intro gV s σ H Pr Z so I E0 h;refine V2 (jO I hg hm ?_ hdb);refine PySem.W.callWith_K (h₀:=X.base) I.ok.mod.kin hk (Qk (ha pos gV s σ H Pr Z _ I E0 h) λus s1 ⟨vs,H1,ls,Z1,I1,r,hl,hbl,E1,hv,q⟩=>⟨I1.kIn,?_⟩) he hpl;obtain⟨ds,rfl,q1⟩:=jV q;have p4:vs.length=ds.length:=by simpa using hl
 exact Mz (so:=so) F hr hb (hbl.trans hn) I1 (E1.drop (by simp[p4])) r (jW p4 E1) q1 λs' H' a cls dx T y I2 _ R q1 q2=>hx gV σ H' s' a cls dx T y I2 R q1 q2
noncomputable def BD(ns:List Str)(ds:List D):List D:=if ns=[]then[]else ds
def wV(c:Str)(ns:List Str)(xp:Xc->Prop)(t:W (List L)):W Fl:=λZ _=>t Z λls _=>FL ls λds=>(ns=[]∨ds.length=ns.length)/\ds.length<=8/\xp ⟨c,ns,BD ns ds⟩
structure XT (K:Frag) (mg:Str->Option Value) (c:Str) (C fI:Addr) (fd:FuncData) (ps:List Str) (ns:List Str):Prop where
 m:mg c=some (.ref C)
 s:jS K c C=true
 mkx:Rv K C fI
 b:oj K fd ps []
 kp:PySem.W.keepIn K (.ref C)=true
 fn:∀f∈ns,findIn K (.ref C) f=some none
def Dq(K:Frag)(sp:Sp)(C:Addr)(ns:List Str)(vs:List V):Prop:=∀(e:Addr)(H:Hp)(Q:VK),H e=some (XO e (.ref C) none) ->
 (∀H2 dx,(∀b,b≠e->∀o,H b=some o->H2 b=some o)->H2 e=some (XO e (.ref C) dx)->((ns=[]/\dx=none)∨∃d,dx=some d/\d≠e/\H2 d=some (XD d (ns.zip vs))/\H d=none/\ns.length=vs.length)->Q .non H2)->sp (.ref e::vs) H Q E0
theorem JM{K:Frag}{c:Str}{C:Addr}{ns:List Str}{vs:List V}(h:jS K c C=true)(hf:∀f∈ns,findIn K (.ref C) f=some none)(hl:vs.length=ns.length):Dq K (Mx K ns) C ns vs:=λe H Q he q=>by
 obtain⟨L,cd,S⟩:=jT h;refine⟨e,vs,c,C,L,cd,rfl,he,S,hf,hl,λd hd hde=>q _ (some d) (λb hb o z=>?_) aW (.inr ⟨d,rfl,hde,?_,hd,hl.symm⟩)⟩
 . rw[ax hb,ax (bf z hd)];exact z
 . rw[ax hde,aW]
theorem Dr{c:Str}{C fI:Addr}{ns:List Str}{sp:Sp}{gV:List (Addr×Obj)}{σ:St}{H:Hp}{s:Shared}{us:List Value}{vs:List V}{Q:Value->Shared->Prop}(T:XT X.K X.mg c C fI fd ps ns)(F:FnOk X.prog X.w X.K X.mg X.base CX0 k fI fd ps sp)(hi:Dq X.K sp C ns vs)(hr:gI (k+1) X.A)(hz:us.length<=sizeLine)
  (I:Qi X gV σ H s) (r:bT vs us)
  (hq:∀(s':Shared)(H':Hp)(e:Addr)(dx:Option Addr),Qi X gV σ H' s'->(∀b o,H b=some o->H' b=some o)->H' e=none->s.heap.objs.size<=e->Rx s'.heap e (.ref C) dx none->((ns=[]/\dx=none)∨∃d od,dx=some d/\H' d=some (.frz od (.xd (ns.zip vs)))/\ns.length=vs.length)->Q (.ref e) s') :
  wpAny (model X.prog X.w) X.A (call (.ref C) us) Q X.xe s:=by
 obtain⟨hh,g,d0,tk,os⟩:=s;refine Oe I.kIn T.mkx hz λh' e hm hsz=>?_;obtain⟨tt,he,_,_⟩:=hm.there;have hn:H e=none:=I.hok.fresh hsz;have I1:Qi X gV σ (Qa H e (XO e (.ref C) none)) ⟨h',g,d0,tk,os⟩:=I.laid (t':=tk) hm.keeps hsz (XO.ok ⟨_,_,he,v6,rfl⟩);have hsp:=hi e (Qa H e (XO e (.ref C) none)) (λv H2=>v=.non/\∃dx,(∀b,b≠e->∀o,Qa H e (XO e (.ref C) none) b=some o->H2 b=some o)/\H2 e=some (XO e (.ref C) dx)/\((ns=[]/\dx=none)∨∃d,dx=some d/\d≠e/\H2 d=some (XD d (ns.zip vs))/\Qa H e (XO e (.ref C) none) d=none/\ns.length=vs.length)) aW λH2 dx a b c=>⟨rfl,dx,a,b,c⟩;have r2:bT (V.ref e::vs) (Value.ref e::us):=.cons rfl r;have hl:(Value.ref e::us).length=ps.length:=by rw[<- r2.length];exact F.len _ _ _ _ hsp
 have bt:=T.b _ (Value.ref e::us) I1.kIn (by rw[VR];exact hl);rw[VR]at bt;refine Xe (codeAny_mono (F.run _ X.stack _ _ ⟨Value.ref e::us,[]⟩ (Value.ref e::us) _ _ E0 (hr.make C us []) (I1.env0.make C us []) bt r2 hsp) λres s' hq'=>?_)
 cases res with
 |error x=>exact hq'.elim
 | ok fl =>
  cases fl with
  | ret u =>
   obtain⟨v,H2,I2,rv,ev,dx,kp,e2,alt⟩:=I1.after hq';subst ev;refine⟨rv,?_⟩;have fl:=I2.xo e2;have I3:=I2.forget e2
   have up:∀b o,H b=some o->Rw H2 e b=some o:=λb o q=>by
    have hb:b≠e:=λz=>by subst z;rw[hn]at q;cases q
    rw[dZ hb];exact kp b hb o (by rw[ax hb];exact q)
   rcases alt with⟨z1,z2⟩|⟨d,z1,z2,z3,z4,z5⟩
   . exact hq s' _ e dx I3 up nB hsz fl (.inl ⟨z1,z2⟩)
   .
    have hd:Rw H2 e d=some (XD d (ns.zip vs)):=by rw[dZ z2];exact z3
    obtain⟨mA,nA,rA,_⟩:=I2.xd z3;obtain⟨od,es,ep,hod,r1⟩:=id nA;have I4:=I3.reword (w:=.frz od (.xd (ns.zip vs))) hd (λq=>q) (λ_ q=>nomatch q) ⟨hod,mA,nA,rA⟩ (λ_ _ _ q=>nomatch q);have dn:H d=none:=by rw[ax z2]at z4;exact z4
    refine hq s' _ e dx I4 (λb o q=>?_) (by rw[ax (VX z2)];exact nB) hsz fl (.inr ⟨d,od,z1,aW,z5⟩);rw[ax (bf q dn)];exact up b o q
  |next=>exact False.elim hq'
  |brk=>exact False.elim hq'
  |cont=>exact False.elim hq'
theorem Gg{c:Str}{C fI:Addr}{ns:List Str}{sp:Sp}{cpos:Pos}(T:XT X.K X.mg c C fI fd ps ns)(F:FnOk X.prog X.w X.K X.mg X.base CX0 k fI fd ps sp)(hi:∀vs:List V,vs.length=n->Dq X.K sp C ns vs)(hr:gI (k+1) X.A)(hg:Gl X c)(hx:RF X xp)(ha:QV X (e::es) bs t)(hn:bs.length=n)
  (hdb:(c == ("__debug__" : Str))=false:=by decide) (he:starEach (e::es) X.env=(false,eval e X.env)::starEach es X.env:=by rfl) (hpl:(backTo cpos (starEach es X.env)).any (·.1)=false:=by rfl) :
  PM X (.Raise (some (.Call (.Name c p) (e::es) [] cpos)) none pos) (wV c ns xp t):=by
 intro gV s σ H Pr Z so I E0 h;obtain⟨LL,cd,S⟩:=jT T.s;rw[arm_exec_Raise];refine UX (W2 ?_);refine Mt S hr.hd (UX (V7 (V2 (jO I hg T.m ?_ hdb)) (λv s3 h3=>UX (W2 (U9 h3))) λ_ _ z=>z));refine PySem.W.callWith_K (h₀:=X.base) I.ok.mod.kin T.kp (Qk (ha cpos gV s σ H Pr Z _ I E0 h) λus s1 ⟨vs,H1,ls,Z1,I1,r,hl,hbl,E1,hv,q⟩=>⟨I1.kIn,?_⟩) he hpl;obtain⟨ds,rfl,q0,q1,q⟩:=jV q;have p4:vs.length=ds.length:=by simpa using hl
 have rs:=jW p4 E1;refine Dr T F (hi vs (hbl.trans hn)) hr (by show us.length<=sizeLine;rw[<- r.length,p4];exact U8 q1 x_) I1 r λs' H' e dx I2 up na hsz fl alt=>⟨e,dx,rfl,I2.kIn,fl,?_⟩;refine hx gV σ H' s' e _ dx none ⟨c,ns,BD ns ds⟩ I2 ⟨fl,na,(λ_ z=>nomatch z),I1.newer hsz,(λ_ z=>nomatch z)⟩ ?_ q;rcases alt with⟨z1,z2⟩|⟨d,od,z1,z2,z3⟩
 . exact⟨C,[],rfl,T.s,T.fn,.inl ⟨z1,rfl,z2⟩,by unfold BD;rw[if_pos z1];exact .nil⟩
 .
  by_cases zn:ns=[]
  .
   subst zn;have e0:vs=[]:=by cases vs with|nil=>rfl|cons _ _=>simp at z3
   subst e0;exact⟨C,[],rfl,T.s,T.fn,.inr ⟨d,od,z1,z2,z3⟩,by unfold BD;rw[if_pos rfl];exact .nil⟩
  . exact⟨C,vs,rfl,T.s,T.fn,.inr ⟨d,od,z1,z2,z3⟩,by unfold BD;rw[if_neg zn];exact rs.pres λb o _ q=>up b o q⟩
end
def RI(so:L->Prop):Fl->Ev->Prop:=λf _=>match f with
 |.rt r=>so r
 |.nx=>so (.d .non)
 |_=>False
theorem MA{P:Program}{w:World}{K:Frag}{mg:Str->Option Value}{base:Heap}{x qual:Str}{st:Stmt}{f:Addr}{fd:FuncData}{N ps:List Str}{k:Nat}{fs:RG}(F:QS K x qual st f fd)(S:az N ps (aq st))(t:(Xc->Prop)->W Fl)
  (hbody:∀(cdv:Value)(A:Around)(outer:List Env)(s:Shared)(H:Hp)(E:XK)(xp:Xc->Prop),gI k (A.deeper (envOfC qual (aq st) s.heap.objs.size f cdv))->(∀cls dx H' y,Fe K H' cls dx y->xp y->E cls dx H') ->
   QW (Fd (RD P w) P w K mg base N qual (aq st) f cdv A outer s H E) (de st) (t xp))
  (h:∀ds so xp,ds.length=ps.length->fs ds so xp->t xp (ds.map .d++List.replicate (N.length-ps.length) .un) (RI so)):FnOk P w K mg base (RD P w) (k+1) f fd ps (RH K ps.length fs):=by
 obtain⟨oc,od,kV,doc,pm,an,cdv,ct,osl,rfl,lk,hcd⟩:=F.ex;refine IH lk hcd S (λvs H Q E q=>q.1) λA outer s H vs Q E hr q=>?_;obtain⟨hl,ds,so,xp,rs,hf,q1,q2⟩:=q;have E0:aA K H H (vs.map some) (ds.map .d):=⟨λ_ _ e=>e,by rw[CL];exact List.nodup_nil,λa ha=>(by rw[CL]at ha;simp at ha),aA.ds rs⟩;refine⟨_,(hbody cdv A outer s H E xp hr q2).pss,H,ds.map .d++List.replicate (N.length-ps.length) .un,RI so,?_,h ds so xp (by rw[<- rs.length];exact hl) hf,λσ' H' Z' E' p=>?_,λ_ _ _ _ p=>p.elim,λ_ _ _ _ p=>p.elim,λv τ H' r Z' E' p=>?_⟩
 . unfold om;rw[hl];exact E0.uns _
 . exact q1 .non H' (.d .non) ((⟨E'.sub,List.nodup_nil,λa ha=>(by simp[owns]at ha),.nil⟩:aA K H H' [] []).cons_d .non) p
 . exact q1 v H' r (aA.left (τ:=[some v]) (lam:=[r]) E' rfl) p
noncomputable def RJ(c y:Str):Bool:=c == y ||c == ("LoadError" : Str)
structure XH (K:Frag) (mg:Str->Option Value) (c:Str) (C:Addr):Prop where
 m:mg c=some (.ref C)
 ns:nsIn K mainGlobals c=some (some (.ref C))
 cls:∃cd,clsIn K C=some cd/\cd.name=c
 ty:typeIn K (.ref C)=some (.type "type")
 base:mroIn K C (.type "BaseException")=some true
section
variable{K:Frag}{mg:Str->Option Value}{c y:Str}{C D:Addr}
theorem XH.sub(T:XH K mg c C)(hs:jS K y D=true):mroIn K D (.ref C)=some (RJ c y):=by
 obtain⟨L,cd,S⟩:=jT hs;obtain⟨cdC,hC,hn⟩:=T.cls;obtain⟨kL,hL,hnL⟩:=S.lname;rw[S.mroIn,FC]
 congr 1
 unfold RJ
 have e1:(C == D)=(c == y):=by
  by_cases h:c=y
  . subst h;have z:=T.ns.symm.trans S.own;cases z;simp
  . rw[VP.mpr h,VP];intro z;subst z;rw[S.cls]at hC;cases hC;exact h (hn.symm.trans S.name)
 have e2:(C == L)=(c == ("LoadError" : Str)):=by
  by_cases h:c=("LoadError" : Str)
  . subst h;have z:=T.ns.symm.trans S.load;cases z;simp
  . rw[VP.mpr h,VP];intro z;subst z;rw[hL]at hC;cases hC;exact h (hn.symm.trans hnL)
 rw[e1,e2]
theorem MB{M:Model}{A:Around}{E:Value->Shared->Prop}{s:Shared}{a:Addr}{ox:Obj}{Q:Bool->Shared->Prop}(T:XH K mg c C)(hs:jS K y D=true)(hA:RJ c y=true)(X:K.In s.heap)(he:s.heap.get? a=some ox)(hc:ox.cls=.ref D)(hq:Q true s) :
  wpAny M A (excMatches (.ref a) (.ref C)) Q E s:=by
 obtain⟨hp,g,d,tk,os⟩:=s;have he:hp.get? a=some ox:=he;obtain⟨cd,hcd,_⟩:=T.cls;obtain⟨oc,odc,slc,hK⟩:=qK hcd;have hC:hp.get? C=some ⟨oc,odc,.cls cd,slc⟩:=X _ _ hK;have L1:Looks M hp (typeOf (.ref C)) (.type "type"):=looks_typeIn X T.ty;have L2:Looks M hp (isSubtype (.ref C) (.type "BaseException")) true:=looks_mroIn X T.base;have L3:Looks M hp (isSubtype (.ref D) (.ref C)) true:=looks_mroIn X (by rw[T.sub hs,hA]);have f:=tc_notTuple;have L4:Looks M hp (isInstance (.ref C) (.type "tuple")) false:=L1.andThen (Looks.of_pure f);have L5:Looks M hp (typeOf (.ref a)) (.ref D):=hc ▸ (Looks.ld he).andThen .now;unfold excMatches;refine UX (L4.at ?_);dsimp only;rw[if_neg (by decide)]
 repeat (first|with_reducible refine L2.at ?_|with_reducible refine L3.at ?_|with_reducible refine L5.at ?_|with_reducible refine VS hC ?_|wp_step)
 exact hq
end
noncomputable abbrev Cx.tr(X:Cx)(gV:List (Addr×Obj))(E:Value->Shared->Prop):Cx:={X with pn:=X.pn++gV,xe:=E}
noncomputable abbrev Cx.han(X:Cx)(a:Addr):Cx:={X with A:=X.A.mark (some (.ref a)),calm:=false,xe:=λ_ _=>False}
section
variable{X:Cx}{gV pins0:List (Addr×Obj)}{σ:St}{H:Hp}{s:Shared}{E:Value->Shared->Prop}{a:Addr}
theorem Cx.Ok.tr(ok:X.Ok):(X.tr gV E).Ok:=⟨ok.mod,ok.kind,ok.glob,ok.blt,ok.above,ok.inj,ok.has,ok.cab,ok.hd,ok.frames,ok.stk,ok.exf,ok.bs,ok.bsz,ok.noex,ok.exfs,ok.funs,ok.frf,ok.tbs⟩
theorem Cx.Ok.untr(ok:(X.tr gV E).Ok):X.Ok:=⟨ok.mod,ok.kind,ok.glob,ok.blt,ok.above,ok.inj,ok.has,ok.cab,ok.hd,ok.frames,ok.stk,ok.exf,ok.bs,ok.bsz,ok.noex,ok.exfs,ok.funs,ok.frf,ok.tbs⟩
theorem Qi.tr(I:Qi X gV σ H s):Qi (X.tr gV E) [] σ H s:=⟨I.ok.tr,I.os,I.bare,I.base,I.loc,I.cell,I.free,I.freeC,λp hp=>I.pin p (by simpa using hp),I.hok,I.len⟩
theorem Qi.untr(I:Qi (X.tr pins0 E) gV σ H s):Qi X pins0 σ H s:=⟨I.ok.untr,I.os,I.bare,I.base,I.loc,I.cell,I.free,I.freeC,λp hp=>I.pin p (Vh _ hp),I.hok,I.len⟩
theorem Qi.han(I:Qi X gV σ H s)(a:Addr):Qi (X.han a) gV σ H s :=
 ⟨⟨I.ok.mod,I.ok.kind,I.ok.glob,I.ok.blt,I.ok.above,I.ok.inj,I.ok.has,I.ok.cab,(λz=>nomatch z),I.ok.frames,I.ok.stk,I.ok.exf,I.ok.bs,I.ok.bsz,I.ok.noex,I.ok.exfs,I.ok.funs,I.ok.frf,I.ok.tbs⟩,I.os,I.bare,I.base,I.loc,I.cell,I.free,I.freeC,I.pin,I.hok,I.len⟩
theorem Qi.unhan(I:Qi (X.han a) gV σ H s)(ok:X.Ok):Qi X gV σ H s:=⟨ok,I.os,I.bare,I.base,I.loc,I.cell,I.free,I.freeC,I.pin,I.hok,I.len⟩
theorem SM.unhan{Pr:Hp}{so:Fl->Ev->Prop}{f:Flow}{s':Shared}(ok:X.Ok)(h:SM (X.han a) gV Pr so f s'):SM X gV Pr so f s':=by
 cases f with
 |next=>obtain⟨σ',H',Z',I,r⟩:=h;exact⟨σ',H',Z',I.unhan ok,r⟩
 |brk=>obtain⟨σ',H',Z',I,r⟩:=h;exact⟨σ',H',Z',I.unhan ok,r⟩
 |cont=>obtain⟨σ',H',Z',I,r⟩:=h;exact⟨σ',H',Z',I.unhan ok,r⟩
 |ret u=>obtain⟨v,σ',H',r',Z',τ,I,r⟩:=h;exact⟨v,σ',H',r',Z',τ,I.unhan ok,r⟩
theorem SM.untr{Pr:Hp}{so:Fl->Ev->Prop}{f:Flow}{s':Shared}(h:SM (X.tr pins0 E) gV Pr so f s'):SM X pins0 Pr so f s':=by
 cases f with
 |next=>obtain⟨σ',H',Z',I,r⟩:=h;exact⟨σ',H',Z',I.untr,r⟩
 |brk=>obtain⟨σ',H',Z',I,r⟩:=h;exact⟨σ',H',Z',I.untr,r⟩
 |cont=>obtain⟨σ',H',Z',I,r⟩:=h;exact⟨σ',H',Z',I.untr,r⟩
 |ret u=>obtain⟨v,σ',H',r',Z',τ,I,r⟩:=h;exact⟨v,σ',H',r',Z',τ,I.untr,r⟩
end
def RK(X:Cx)(gV:List (Addr×Obj))(Pr:Hp)(xp:Xc->Ev->Prop):Value->Shared->Prop:=λe s'=>∃σ' H' Z' a cls dx T x,e=.ref a/\Qi X gV σ' H' s'/\aA X.K Pr H' σ' Z'/\Ak X gV H' s' a cls dx T/\Fe X.K H' cls dx x/\xp x Z'
noncomputable abbrev Cx.tb(X:Cx)(gV:List (Addr×Obj))(Pr:Hp)(xp:Xc->Ev->Prop):Cx:=X.tr gV (RK X gV Pr xp)
def Le(P Q:Hp):Prop:=∀b o,P b=some o->Q b=some o
theorem aA.le{K:Frag}{P Q H:Hp}{σ:St}{Z:Ev}(E:aA K Q H σ Z)(h:Le P Q):aA K P H σ Z:=⟨λb o e=>E.sub b o (h b o e),E.nd,λa ha=>(by
  have z:=E.off a ha
  cases q:P a with
  |none=>rfl
  |some o=>rw[h a o q]at z;cases z),E.sl⟩
def RL(X:Cx)(pins0:List (Addr×Obj))(Pr0:Hp)(xp:Xc->Ev->Prop)(e:Expr)(t:W L):Prop :=
 ∀(gV:List (Addr×Obj))(s:Shared)(σ:St)(H Pr:Hp)(Z:Ev)(so:L->Ev->Prop),Le Pr0 Pr->Qi (X.tb pins0 Pr0 xp) gV σ H s->aA X.K Pr H σ Z->t Z so->wpAny (model X.prog X.w) X.A (eval e X.env) (EL (X.tb pins0 Pr0 xp) gV σ Pr so) (RK X pins0 Pr0 xp) s
def RM(X:Cx)(pins0:List (Addr×Obj))(Pr0:Hp)(xp:Xc->Ev->Prop)(st:Stmt)(t:W Fl):Prop :=
 ∀(gV:List (Addr×Obj))(s:Shared)(σ:St)(H Pr:Hp)(Z:Ev)(so:Fl->Ev->Prop),Le Pr0 Pr->Qi (X.tb pins0 Pr0 xp) gV σ H s->aA X.K Pr H σ Z->t Z so->wpAny (model X.prog X.w) X.A (exec st X.env) (SM (X.tb pins0 Pr0 xp) gV Pr so) (RK X pins0 Pr0 xp) s
def OZ(X:Cx)(pins0:List (Addr×Obj))(Pr0:Hp)(xp:Xc->Ev->Prop)(sts:List Stmt)(t:W Fl):Prop :=
 ∀(gV:List (Addr×Obj))(s:Shared)(σ:St)(H Pr:Hp)(Z:Ev)(so:Fl->Ev->Prop),Le Pr0 Pr->Qi (X.tb pins0 Pr0 xp) gV σ H s->aA X.K Pr H σ Z->t Z so->wpAny (model X.prog X.w) X.A (execs sts X.env) (SM (X.tb pins0 Pr0 xp) gV Pr so) (RK X pins0 Pr0 xp) s
def wW(fs:RG)(xp:Xc->Ev->Prop)(t:W (List L)):W L:=λZ so=>t Z λls Z1=>FL ls λds=>fs ds (λr=>so r Z1) (λy=>xp y Z1)
section
variable{X:Cx}{pins0:List (Addr×Obj)}{Pr0:Hp}{xp:Xc->Ev->Prop}{k n:Nat}{f:Addr}{fd:FuncData}{ps:List Str}{fs:RG}{x:Str}{p pos:Pos}{e:Expr}{es:List Expr}{bs:List (Option Nat)}{t:W (List L)}{te:W L}{tm:W Fl}{st:Stmt}
theorem Gh(F:FnOk X.prog X.w X.K X.mg X.base (RD X.prog X.w) k f fd ps (RH X.K n fs))(hr:gI k X.A)(hg:Gl X x)(hm:X.mg x=some (.ref f))(hk:PySem.W.keepIn X.K (.ref f)=true)(hb:oj X.K fd ps [])
  (ha:QV (X.tb pins0 Pr0 xp) (e::es) bs t) (hn:bs.length=n) (hdb:(x == ("__debug__" : Str))=false:=by decide) (he:starEach (e::es) X.env=(false,eval e X.env)::starEach es X.env:=by rfl) (hpl:(backTo pos (starEach es X.env)).any (·.1)=false:=by rfl) :
  RL X pins0 Pr0 xp (.Call (.Name x p) (e::es) [] pos) (wW fs xp t):=by
 intro gV s σ H Pr Z so le I E0 h;refine V2 (jO (X:=X.tb pins0 Pr0 xp) I hg hm ?_ hdb);refine PySem.W.callWith_K (h₀:=X.base) I.ok.mod.kin hk (Qk (ha pos gV s σ H Pr Z _ I E0 h) λus s1 ⟨vs,H1,ls,Z1,I1,r,hl,hbl,E1,hv,q⟩=>⟨I1.kIn,?_⟩) he hpl;obtain⟨ds,rfl,q1⟩:=jV q;have p4:vs.length=ds.length:=by simpa using hl
 refine Mz (X:=X.tb pins0 Pr0 xp) (so:=so) F hr hb (hbl.trans hn) I1 (E1.drop (by simp[p4])) r (jW p4 E1) q1 λs' H' a cls dx T y I2 E2 R z1 z2=>?_;exact⟨σ,H',Z1,a,cls,dx,T,y,rfl,I2.untr,E2.le le,⟨R.fly,R.na,R.nt,⟨R.wa.s0,R.wa.loc,R.wa.cel,λp hp=>R.wa.pin p (Vh _ hp)⟩,λt et=>⟨(R.wt t et).s0,(R.wt t et).loc,(R.wt t et).cel,λp hp=>(R.wt t et).pin p (Vh _ hp)⟩⟩,z1,z2⟩
theorem JN(h:RL X pins0 Pr0 xp e te):RL X pins0 Pr0 xp e (bG te):=λgV s σ H Pr Z so le I E ht =>
 Qk (h gV s σ H Pr Z _ le I E ht) λu s1 q=>by obtain⟨v,H',x,Z',I',rv,E',p⟩:=EL.frz (X:=X.tb pins0 Pr0 xp) (so:=λx Z=>so (.d x) Z) q;exact⟨v,H',.d x,Z',I',rv,E',p⟩
theorem JO{i:Nat}{x:Str}{pos':Pos}(hN:X.N.Nodup)(hi:X.N[i]?=some x)(hx:Qh X.env.scope x)(he:RL X pins0 Pr0 xp e te)(hs:swapsWith e (some (.Name x pos')) pos.line X.env=pure false:=by rfl)(hf:X.fn x=true∨X.env.scope.names.lookup x=some .local:=by first|exact .inl rfl|exact .inr rfl|assumption) :
  RM X pins0 Pr0 xp (.Assign [.Name x pos'] e pos) (bL i te):=by
 intro gV s σ H Pr Z so le I E h;refine wpAny_Assign_Name (Qk (he gV s σ H Pr Z _ le I E h) λv s1 ⟨y,H1,r,Z1,I1,r1,E1,q1⟩=>?_) hs;exact mT (X:=X.tb pins0 Pr0 xp) I1 hN hi hx r1 (λs2 I2=>⟨_,H1,_,I2,E1.store (by rw[I1.len];exact(U1.mp hi).1),q1⟩) hf
theorem Gi(h1:RM X pins0 Pr0 xp st tm):OZ X pins0 Pr0 xp [st] tm:=by
 intro gV s σ H Pr Z so le I E h;refine wpAny_execs_cons (Qk (h1 gV s σ H Pr Z so le I E h) λf s1 q=>?_)
 cases f with
 |next=>exact WV q
 |brk=>exact q
 |cont=>exact q
 |ret u=>exact q
end
def NL(tb:(Xc->Ev->Prop)->W Fl)(c:Str)(ts:W Fl):W Fl:=λZ so=>tb (λx Z1=>RJ c x.c=true/\ts Z1 so) Z so
section
variable{X:Cx}{gV:List (Addr×Obj)}{σ:St}{H:Hp}{s:Shared}
theorem Qi.landed{Pr:Hp}{Z:Ev}{a:Addr}{cls:Value}{dx T:Option Addr}{h1:Heap}(I:Qi X gV σ H s)(R:Ak X gV H s a cls dx T)(hstk:X.stack=X.env::X.outer)
  (k1:∀b o,b≠a->some b≠T->b∉Qf (X.env::X.outer)->s.heap.get? b=some o->h1.get? b=some o) (k2:∀b o,b≠a->some b≠T->s.heap.get? b=some o->∃sl,h1.get? b=some {o with slots:=sl}):Qi X gV σ H {s with heap:=h1}:=by
 have nch:∀b,b∉a::T.toList->b≠a/\some b≠T:=λb hb=>⟨λz=>hb (by simp[z]),λz=>hb (by simp[<- z])⟩;have tra:∀b o,H b=some o->b≠a/\some b≠T/\b∉Qf (X.env::X.outer):=λb o e=>by refine⟨λz=>(by subst z;rw[R.na]at e;cases e),λz=>(by rw[R.nt b z.symm]at e;cases e),λz=>?_⟩;have:=I.stkFree b (by rw[hstk];exact z);rw[e]at this;cases this
 refine I.call (g':=s.gens) (t':=s.toks) (d':=s.drawn) (ch:=a::T.toList) ⟨λb o e n hf hx=>?_,λb o e n hf hx=>?_,λb o e n hx=>n,λb o e hx=>?_,λ_ _ e=>e,λ_ _ _ e=>e,λ_ _ e=>e⟩ (λb o e=>?_) I.bare λb hb=>?_
 . exact k1 b o (nch b hx).1 (nch b hx).2 (by rw[<- hstk];exact hf) e
 . exact k2 b o (nch b hx).1 (nch b hx).2 e
 . obtain⟨sl,q⟩:=k2 b o (nch b hx).1 (nch b hx).2 e;exact⟨_,q⟩
 .
  refine(I.hok b o e).stay (λc v hc z=>?_) (λ_ z=>z) (λ_ _ z=>z) λ_ _ _ _ z=>z
  have ht:∃o',H c=some o':=by
   rcases hc with rfl|hc
   . exact⟨o,e⟩
   . exact⟨_,hc⟩
  obtain⟨o',ho'⟩:=ht;obtain⟨t1,t2,t3⟩:=tra c o' ho';exact k1 c v t1 t2 t3 z
 .
  have w:RE X gV b:=by
   rcases Vc.mp hb with rfl|hb
   . exact R.wa
   . exact R.wt b (by cases T with|none=>simp at hb|some t=>simp at hb;rw[hb])
  exact⟨.inr w.s0,w.loc,w.cel,w.pin⟩
end
section
variable{X:Cx}{body suite:List Stmt}{b0:Stmt}{c:Str}{C:Addr}{p hp pos:Pos}{tb:(Xc->Ev->Prop)->W Fl}{ts:W Fl}
theorem JP(hstk:X.stack=X.env::X.outer)(hf:X.env.frame=some X.env.locals)(TC:XH X.K X.mg c C)(hg:Gl X c)(hb:∀ gV Pr xp,OZ X gV Pr xp body (tb xp))(hs:∀ a,QW (X.han a) (b0::suite) ts) (hdb:(c == ("__debug__" : Str))=false:=by decide) :
  PM X (.Try body [.ExceptHandler (some (.Name c p)) none (b0::suite) hp] [] [] pos) (NL tb c ts):=by
 intro gV s σ H Pr Z so I E h;refine wpAny_Try_except (V7 (hb gV Pr (λx Z1=>RJ c x.c=true/\ts Z1 so) [] s σ H Pr Z so (λ_ _ z=>z) I.tr E h) (λf s1 q=>?_) λe s1 q=>?_)
 .
  have q':=SM.untr q
  cases f with
  |next=>exact WV q'
  |brk=>exact q'
  |cont=>exact q'
  |ret u=>exact q'
 . obtain⟨σ',H',Z',a,cls,dx,T,x,rfl,I1,E1,R,F,hA,hts⟩:=q;refine Mu (hstk ▸ I1.ok.frames) (hstk ▸ I1.stack) hf R.fly λh1 T1 fl hT1 k1 k2=>?_;have I2:=I1.landed (Pr:=Pr) (Z:=Z') R hstk k1 k2;have w1:=I1.newer hT1;obtain⟨D0,vs,rfl,hstd,hfq,hxf,rs⟩:=F;refine wpAny_handleBy_cons (codeAny_handlers_test (jO (I2.han a) hg TC.m ?_ hdb)) (by intro q;cases q);obtain⟨vv,sl,he,_⟩:=id fl;refine MB TC hstd hA I2.kIn he rfl ?_;refine codeAny_handlers_suite (Of fl λh2 fl2 k3=>?_);have I3:=I2.turned (it:=T1) (t':=s1.toks) (λb o hb e=>k3 b o hb e) (I1.hok.fresh hT1) w1.loc (.inr w1.s0) w1.cel w1.pin;exact V7 (hs a gV _ σ' H' Pr Z' so (I3.han a) E1 hts) (λf s4 q=>SM.unhan I.ok q) λ_ _ z=>z.elim
end
theorem Al{X:Cx}:RF X (λ_=>False):=λ_ _ _ _ _ _ _ _ _ _ _ _ h=>h.elim
section
variable{X:Cx}{k k' n:Nat}{f:Addr}{fd:FuncData}{ps:List Str}{fs:RG}{g:Str}{st:Stmt}{e:Expr}{es:List Expr}{bs:List (Option Nat)}{t:W (List L)}{p pos cpos:Pos}{xp:Xc->Prop}{c:Str}{C fI:Addr}{ns:List Str}
theorem Am(F:FnOk X.prog X.w X.K X.mg X.base (RD X.prog X.w) k f fd ps (RH X.K n fs))(T:FX X.K X.mg g st f fd ps)(hr:gI k' X.A)(hx:RF X xp)(ha:QV X (e::es) bs t)(hk:k<=k':=by decide)(hg:Gl X g:=by rfl)(hn:bs.length=n:=by rfl) (hdb:(g == ("__debug__" : Str))=false:=by decide) (he:starEach (e::es) X.env=(false,eval e X.env)::starEach es X.env:=by rfl) (hpl:(backTo pos (starEach es X.env)).any (·.1)=false:=by rfl) :
  PL X (.Call (.Name g p) (e::es) [] pos) (qT fs xp t):=Gf F (hr.mono hk) hg T.m T.f.kp T.b hx ha hn hdb he hpl
theorem MC{pins0:List (Addr×Obj)}{Pr0:Hp}{xt:Xc->Ev->Prop}(F:FnOk X.prog X.w X.K X.mg X.base (RD X.prog X.w) k f fd ps (RH X.K n fs))(T:FX X.K X.mg g st f fd ps)(hr:gI k' X.A)(ha:QV (X.tb pins0 Pr0 xt) (e::es) bs t)(hk:k<=k':=by decide)(hg:Gl X g:=by rfl)(hn:bs.length=n:=by rfl) (hdb:(g == ("__debug__" : Str))=false:=by decide) (he:starEach (e::es) X.env=(false,eval e X.env)::starEach es X.env:=by rfl) (hpl:(backTo pos (starEach es X.env)).any (·.1)=false:=by rfl) :
  RL X pins0 Pr0 xt (.Call (.Name g p) (e::es) [] pos) (wW fs xt t):=Gh F (hr.mono hk) hg T.m T.f.kp T.b ha hn hdb he hpl
theorem wX(T:XT X.K X.mg c C fI fd ps ns)(F:FnOk X.prog X.w X.K X.mg X.base CX0 2 fI fd ps (Mx X.K ns))(hr:gI k' X.A)(hx:RF X xp)(ha:QV X (e::es) bs t)(hk:3<=k':=by decide)(hg:Gl X c:=by rfl)(hn:bs.length=ns.length:=by rfl)
  (hdb:(c == ("__debug__" : Str))=false:=by decide) (he:starEach (e::es) X.env=(false,eval e X.env)::starEach es X.env:=by rfl) (hpl:(backTo cpos (starEach es X.env)).any (·.1)=false:=by rfl) :
  PM X (.Raise (some (.Call (.Name c p) (e::es) [] cpos)) none pos) (wV c ns xp t) :=
 Gg T F (λvs hv=>JM T.s T.fn hv) (hr.mono hk) hg hx ha hn hdb he hpl
noncomputable abbrev RN(g q:Str)(st:Stmt)(md:Value)(c:Nat):FuncData:=PySem.W.fnOf g q (jR st) (de st) (aq st) .none .none .none md none (.ref c) .none
theorem Do.mk'{K:Frag}{mg:Str->Option Value}{h:Heap}(X:K.In h)(G:h.Ns mainGlobals mg){L fL:Addr}{st:Stmt}{md:Value}{c:Nat} (e1:nsIn K mainGlobals "LoadError"=some (some (.ref L))) (e2:readsIn K L (.type "type")=true) (e3:specialIn K (.ref L) "__getattribute__"=some (some (.builtin "type.__getattribute__")))
  (e4:findCls K (.ref L) (.type "type") "__init__"=some (.val (.ref fL))) (e5:K.lookup fL=some ⟨.type "function",none,.func (RN "__init__" "LoadError.__init__" st md c),#[]⟩) (e6:codeIn K (.ref c) "LoadError.__init__"=true) (e7:keepIn K (.ref fL)=true)
  (e8:∀(kV doc pm:Value)(an:Option Addr)(cdv ct:Value)(us:List Value),us.length=2->bindArgs (PySem.W.fnOf "__init__" "LoadError.__init__" (jR st) (de st) (aq st) .none kV doc pm an cdv ct) ⟨us,[]⟩=pure ((["self","text"]:List Str).zip us)):Do K mg L fL (RN "__init__" "LoadError.__init__" st md c) st :=
 ⟨mg_of X G e1,e2,e3,e4,t6 e5 e6 e7,(t6 e5 e6 e7).binds e8⟩
theorem XT.mk'{K:Frag}{mg:Str->Option Value}{h:Heap}(X:K.In h)(G:h.Ns mainGlobals mg){c:Str}{C fI:Addr}{fd:FuncData}{ps ns:List Str}(e1:nsIn K mainGlobals c=some (some (.ref C)))(e2:jS K c C=true)(e3:JG K C fI=true)(b:oj K fd ps [])(e4:keepIn K (.ref C)=true)(e5:(ns.all λf=>findIn K (.ref C) f == some none)=true):XT K mg c C fI fd ps ns :=
 ⟨mg_of X G e1,e2,Ms e3,b,e4,λf hf=>WE.mp (VI.mp e5 f hf)⟩
theorem XH.mk'{K:Frag}{mg:Str->Option Value}{h:Heap}(X:K.In h)(G:h.Ns mainGlobals mg){c:Str}{C:Addr}(e1:nsIn K mainGlobals c=some (some (.ref C)))(e2:((clsIn K C).any λcd=>cd.name == c)=true) (e3:typeIn K (.ref C)=some (.type "type")) (e4:mroIn K C (.type "BaseException")=some true):XH K mg c C :=
 ⟨mg_of X G e1,e1,(let ⟨cd,h1,h2⟩:=any_some e2;⟨cd,h1,WE.mp h2⟩),e3,e4⟩
theorem Gj{K:Frag}:∀vs H Q E,NK K vs H Q E->vs.length=2:=λ_ _ _ _ ⟨_,_,_,_,_,_,e,_⟩=>by rw[e];rfl
theorem Gk{K:Frag}{ns:List Str}:∀vs H Q E,Mx K ns vs H Q E->vs.length=ns.length+1:=λ_ _ _ _ ⟨_,_,_,_,_,_,e,_,_,_,l,_⟩=>by rw[e,V5,l]
end
theorem An:∀{ns:List Int}{us:List Value},ns.length=us.length->(∀(j:Nat) v,us[j]?=some v->∃t,v=.int (ns.getD j 0) t)->bT (ns.map V.int) us
 |[],[],_,_=>.nil
 | n::ns,u::us,hl,h=>by obtain⟨t,e⟩:=h 0 u rfl;exact .cons ⟨t,e⟩ (An (by simpa using hl) λj v hv=>h (j+1) v (by simpa using hv))
 |[],_::_,hl,_=>by simp at hl
 |_::_,[],hl,_=>by simp at hl
noncomputable def HR(lo:Int)(n:Nat):List Int:=(List.range n).map λ(i:Nat)=>lo+(i:Int)
theorem Gm(lo:Int)(n:Nat):sV lo n=(HR lo n).map D.int:=by unfold sV HR;rw[VM];rfl
section
variable{X:Cx}{a b:Expr}{p p0 pos pos0:Pos}{t u:W L}
theorem Gn{gV:List (Addr×Obj)}{s:Shared}{σ:St}{H Pr:Hp}{Z:Ev}{so:L->Ev->Prop}{lo hi:Int}{t1 t2 t3:Tok}{tk:Nat}(hc:X.calm=true)(I:Qi X gV σ H s)(E:aA X.K Pr H σ Z)(h1:p8 lo)(h2:p8 hi)
  (q:∀a,so (.own a (sV lo (hi-lo).toNat)) Z) :
  wpAny (model X.prog X.w) X.A (call (.type "list") [.ref s.heap.objs.size]) (λu s1=>∃ v H1 r Z',Qi X gV σ H1 s1/\cu v u/\aA X.K Pr H1 (some v::σ) (r::Z')/\so r Z') X.xe {s with heap:=s.heap.push {cls:=.type "range",data:=.fields #[.int lo t1,.int hi t2,.int 1 t3] },toks:=tk}:=by
 have hsz:Builtin.Range.rangeSize lo hi 1=(((hi-lo).toNat:Nat):Int):=by rw[rangeSize_one];split<;>omega
 have hn:(hi-lo).toNat<=2^24:=by unfold p8 at h1 h2;omega
 refine call_list_range (I.ok.hd hc) (IsRange.new s.heap lo hi 1 t1 t2 t3) (BB h1 h2 x_ x_) hsz hn λh' tk' acc c hk hS hacc=>?_;have sz:s.heap.objs.size<=(s.heap.push {cls:=.type "range",data:=.fields #[.int lo t1,.int hi t2,.int 1 t3] }).objs.size:=by show _<=(s.heap.objs.push _).size;rw[Array.size_push];exact Nat.le_succ _
 have hv:bT ((HR lo (hi-lo).toNat).map V.int) acc.toList:=by
  refine An (by simp[HR,hacc.1]) λj v hv=>?_;obtain⟨t,rfl⟩:=hacc.2 j v (by simpa using hv);have hj:j<(hi-lo).toNat:=by have:=(Array.getElem?_eq_some_iff.mp (show acc[j]?=some _ by simpa using hv)).1;rw[hacc.1]at this;exact this
  refine⟨t,?_⟩;rw[U0];simp[HR,hj]
 have hL:((HR lo (hi-lo).toNat).map V.int).length<=sizeLine:=by rw[WZ];simp[HR];omega
 have I2:=I.laid (t':=tk') (o:=.lst ((HR lo (hi-lo).toNat).map V.int)) (λb o e=>hk b o (UY _ e)) sz ⟨hL,acc.toList,c,hv,by simpa using hS⟩;exact⟨.ref _,_,_,Z,I2,rfl,E.cons_own (I.hok.fresh sz) (by rw[Gm];exact nq _),q _⟩
def Ds(t:W L):W L:=λZ so=>t Z λr Z1=>m7 r λj=>p8 j/\∀a,so (.own a (sV 0 j.toNat)) Z1
theorem yD (hgl:Gl X "list") (hml:X.mg "list"=none) (hg:Gl X "range") (hm:X.mg "range"=none) (hc:X.calm=true) (ha:PL X a t) (hs:starEach [a] X.env=[(false,eval a X.env)]:=by rfl)
  (hs0:starEach [.Call (.Name "range" p) [a] [] pos] X.env=[(false,eval (.Call (.Name "range" p) [a] [] pos) X.env)]:=by rfl):PL X (.Call (.Name "list" p0) [.Call (.Name "range" p) [a] [] pos] [] pos0) (Ds t):=by
 intro gV s σ H Pr Z so I E h;refine V2 (jw I hgl hml (show bootBuiltins "list"=some (.type "list") by decide +kernel) (VV ?_ (by rw[hs0]; rfl) rfl));rw[hs0];show wpAny _ _ (spliced ((false,eval (.Call (.Name "range" p) [a] [] pos) X.env)::[])) _ _ s;refine Calls.spliced_cons (Call_ (jw I hg hm boot_range (VV (Qk (c9 ha.pe lD hs pos gV s σ H (λvs H1=>∃Z1,∃j:Int,vs=[V.int j]/\p8 j/\aA X.K Pr H1 σ Z1/\∀a,so (.own a (sV 0 j.toNat)) Z1) I ⟨Pr,Z,_,E,h,λv H' r Z' E' p=>?_⟩) λus s1 ⟨vs,H1,I1,r1,q1⟩=>?_) hs rfl)))
 . obtain⟨j,rfl,hj,p⟩:=dG p;obtain⟨_,e1,p1⟩:=E'.head_d;cases e1;cases p1;exact⟨Z',j,rfl,hj,E'.tail,p⟩
 . obtain⟨Z1,j,e,hj,E1,q⟩:=q1;subst e;obtain⟨u,rfl,ru⟩:=r1.one;obtain⟨t',rfl⟩:=ru;refine call_range_1 (Calls.spliced_nil (Gn hc I1 E1 ⟨x_,x_⟩ hj (by simpa using q)))
end
end L2
namespace L2
open PySem PySem.Spec PyProof.Rows
section
variable{κ:Type}[DecidableEq κ]
theorem KV.any{kvs:List (κ×V)}{vs:List (κ×Value)}(r:KV kvs vs)(k:κ):(kvs.any λkv=>decide (kv.1=k))=vs.any λkv=>decide (kv.1=k):=by
 unfold KV at r
 induction r with
 |nil=>rfl
 |cons h t ih=>rw[WL,WL,ih,h.1]
theorem KV.length{kvs:List (κ×V)}{vs:List (κ×Value)}(r:KV kvs vs):kvs.length=vs.length:=Paired.length r
end
theorem MD{P:Program}{w:World}{k:P9}{u:Value}(r:cu (kV k) u):(oh P w).is k u=true:=by
 cases k with
 |inl i=>obtain⟨t,e⟩:=(show ∃t,u=Value.int i t from r);subst e;exact yf P w i t
 |inr x=>obtain⟨t,e⟩:=(show ∃t,u=Value.str x t from r);subst e;exact yg P w x t
abbrev DR(K:PySem.W.Frag)(H:Hp):List (P9×V)->List (P9×D)->Prop:=Paired λ(p:P9×V) (q:P9×D)=>p.1=q.1/\QU K H p.2 q.2
theorem DR.any{K:PySem.W.Frag}{H:Hp}{k:P9}:∀{vs:List (P9×V)}{kvs:List (P9×D)},DR K H vs kvs->(vs.any λp=>decide (p.1=k))=kvs.any λp=>decide (p.1=k)
 |_,_,.nil=>rfl
 |p::vs,q::kvs,.cons h t=>by rw[WL,WL,DR.any t,h.1]
section
variable{X:Cx}{pos:Pos}
noncomputable def flatC:D->Bool
 |.int _=>true
 |.str _=>true
 |.bl _=>true
 |.non=>true
 |_=>false
theorem QU.flatC{K:PySem.W.Frag}{H H':Hp}{v:V}{d:D}(h:L2.flatC d=true)(r:QU K H v d):QU K H' v d:=by
 cases r with
 |int i=>exact .int i
 |str i=>exact .str i
 |bl i=>exact .bl i
 |non=>exact .non
 |_=>cases h
inductive RO (X:Cx):List (Option Expr)->List Expr->List (P9×D)->Prop where
 |nil:RO X [] [] []
 |int {k v:Expr} {ks:List (Option Expr)} {vs:List Expr} {i:Int} {d:D} {kvs:List (P9×D)} (hk:PL X k (wC (.int i))) (hv:PL X v (wC d)) (hf:flatC d=true) (t:RO X ks vs kvs):RO X (some k::ks) (v::vs) ((.inl i,d)::kvs)
 |str {k v:Expr} {ks:List (Option Expr)} {vs:List Expr} {y:Str} {d:D} {kvs:List (P9×D)} (hk:PL X k (wC (.str y))) (hv:PL X v (wC d)) (hf:flatC d=true) (t:RO X ks vs kvs):RO X (some k::ks) (v::vs) ((.inr y,d)::kvs)
theorem RO.run{pos:Pos}{gV:List (Addr×Obj)}{σ:St}{Pr:Hp}{Z:Ev}:∀{ks:List (Option Expr)}{vs:List Expr}{kvs:List (P9×D)},RO X ks vs kvs->∀{H:Hp}{s:Shared}{Q:List (Value×Value)->Shared->Prop},Qi X gV σ H s->aA X.K Pr H σ Z ->
  (∀(H':Hp)(s':Shared)(us:List (Value×Value))(ps:List (P9×V))(qs:List (P9×Value)),Qi X gV σ H' s'->aA X.K Pr H' σ Z->Carries (oh X.prog X.w) us qs->KV ps qs->DR X.K H' ps kvs->Q us s') ->
  wpAny (model X.prog X.w) X.A (evalPairs (pairTrees ks vs X.env pos)) Q X.xe s
 |_,_,_,.nil,H,s,Q,I,E,h=>pairTrees_nil_walk (h H s [] [] [] I E True.intro .nil .nil)
 | _,_,_,.int (d:=d) hk hv hf t,H,s,Q,I,E,h=>by refine pairTrees_cons_walk (Qk (hk gV s σ H Pr Z (λr Z'=>r=.d _/\Z'=Z) I E ⟨rfl,rfl⟩) λu s1 ⟨v,H1,r,Z',I1,rv,E1,e1,e2⟩=>?_);subst e1 e2;refine Qk (hv gV s1 σ H1 Pr _ (λr Z'=>r=.d d/\Z'=_) I1 E1.tail ⟨rfl,rfl⟩) λu2 s2 ⟨v2,H2,r2,Z2,I2,rv2,E2,e1,e2⟩=>?_;subst e1 e2;obtain⟨_,z1,p1⟩:=E1.head_d;cases z1;cases p1;obtain⟨_,z2,p2⟩:=E2.head_d;cases z2;exact RO.run t I2 E2.tail λH' s' us ps qs I3 E3 hc hk3 hd=>h H' s' ((u,u2)::us) ((.inl _,v2)::ps) ((.inl _,u2)::qs) I3 E3 ⟨MD rv,rfl,hc⟩ (.cons ⟨rfl,rv2⟩ hk3) (.cons ⟨rfl,p2.flatC hf⟩ hd)
 | _,_,_,.str (d:=d) hk hv hf t,H,s,Q,I,E,h=>by refine pairTrees_cons_walk (Qk (hk gV s σ H Pr Z (λr Z'=>r=.d _/\Z'=Z) I E ⟨rfl,rfl⟩) λu s1 ⟨v,H1,r,Z',I1,rv,E1,e1,e2⟩=>?_);subst e1 e2;refine Qk (hv gV s1 σ H1 Pr _ (λr Z'=>r=.d d/\Z'=_) I1 E1.tail ⟨rfl,rfl⟩) λu2 s2 ⟨v2,H2,r2,Z2,I2,rv2,E2,e1,e2⟩=>?_;subst e1 e2;obtain⟨_,z1,p1⟩:=E1.head_d;cases z1;cases p1;obtain⟨_,z2,p2⟩:=E2.head_d;cases z2;exact RO.run t I2 E2.tail λH' s' us ps qs I3 E3 hc hk3 hd=>h H' s' ((u,u2)::us) ((.inr _,v2)::ps) ((.inr _,u2)::qs) I3 E3 ⟨MD rv,rfl,hc⟩ (.cons ⟨rfl,rv2⟩ hk3) (.cons ⟨rfl,p2.flatC hf⟩ hd)
theorem RO.len:∀{ks:List (Option Expr)}{vs:List Expr}{kvs:List (P9×D)},RO X ks vs kvs->ks.all (·.isSome)=true/\ks.length=vs.length/\ks.length=kvs.length
 |_,_,_,.nil=>⟨rfl,rfl,rfl⟩
 | _,_,_,.int _ _ _ t=>by obtain⟨h1,h2,h3⟩:=t.len;simp[h1,h2,<- h3]
 | _,_,_,.str _ _ _ t=>by obtain⟨h1,h2,h3⟩:=t.len;simp[h1,h2,<- h3]
end
end L2
namespace L2
open PySem PySem.Spec PyProof.Rows PySem.SeqAt
mutual
noncomputable def Ao:Nat->D->Bool
 |_,.non=>true
 |_,.bl _=>true
 |_,.int _=>true
 |_,.str _=>true
 |n+1,.tup xs=>yE n xs
 |n+1,.lst xs=>yE n xs
 |n+1,.dct m=>m == 0
 |_,_=>false
noncomputable def yE:Nat->List D->Bool
 |_,[]=>true
 |n,x::xs=>Ao n x && yE n xs
end
mutual
noncomputable def Ff:D->Nat
 |.int _=>602
 |.str x=>10*x.length+2
 |.tup xs=>BE xs+3
 |.lst xs=>BE xs+3
 |_=>6
noncomputable def BE:List D->Nat
 |[]=>0
 |x::xs=>Ff x+2+BE xs
end
mutual
theorem Dt:∀d:D,(Q9 d).leavesShort 601=true->(Q9 d).shown.length<=Ff d
 |.non,_=>by decide
 |.bl b,_=>by cases b<;>decide
 | .int i,h=>by
  have e:(PyData.shown (.int i)).length<=601:=by simpa only[Q9,PyData.leavesShort,U5]using h
  exact Nat.le_succ_of_le e
 | .str x,h=>by
  have hx:∀c∈x.cps.toList,c<16^8:=by simpa only[Q9,PyData.leavesShort,VI,U5]using h
  have e:=PySem.StrLaws.reprText_len x hx
  simp only[Q9,PyData.shown,Ff]
  omega
 | .tup xs,h=>by
  have h1:=yF xs (by simpa only[Q9,PyData.leavesShort]using h)
  have h2:=tupleText_len_le (PyData.shownAll (ff xs))
  have h3:=PyData.shownAll_length (ff xs)
  simp only[Q9,PyData.shown,Ff]
  omega
 | .lst xs,h=>by
  have h1:=yF xs (by simpa only[Q9,PyData.leavesShort]using h)
  have h2:=listText_len_le (PyData.shownAll (ff xs))
  have h3:=PyData.shownAll_length (ff xs)
  simp only[Q9,PyData.shown,Ff]
  omega
 |.dct _,_=>by simp only[Q9,Ff];decide
 |.exc _ _ _,_=>by simp only[Q9,Ff];decide
 |.fn _ _,_=>by simp only[Q9,Ff];decide
theorem yF:∀ds:List D,PyData.leavesShortAll 601 (ff ds)=true->((PyData.shownAll (ff ds)).map (·.length)).sum+2*(ff ds).length<=BE ds
 |[],_=>by simp only[ff,PyData.shownAll,List.map_nil,List.sum_nil,List.length_nil,BE];omega
 | d::ds,h=>by
  have h':(Q9 d).leavesShort 601=true/\PyData.leavesShortAll 601 (ff ds)=true:=by simpa only[ff,PyData.leavesShortAll,U7]using h
  have h1:=Dt d h'.1
  have h2:=yF ds h'.2
  simp only[ff,PyData.shownAll,Vo,List.sum_cons,V5,BE]
  omega
end
end L2
namespace L2
open PySem PySem.Spec PyProof.Rows
end L2
namespace L2
open PySem PySem.Spec PyProof.Rows PySem.W
end L2
namespace L2
open PySem PySem.Spec PyProof.Rows
section
variable{X:Cx}{e:Expr}{p apos cpos:Pos}{te:W L}{x:Str}
def Du(i:Nat)(te:W L):W L:=λZ so=>wB i Z λ_ _=>te Z λr Z1=>QX r λy=>wB i Z1 λa xs=>∃(j:Nat)(z:D),y=.int (j:Int)/\xs.length<2^60/\xs[j]?=some z/\so (.d z) (Z1.set i (.own a (xs.eraseIdx j)))
theorem bJ.eraseIdx{K:PySem.W.Frag}{H:Hp}:∀{vs:List V}{ds:List D}(j:Nat),bJ K H vs ds->bJ K H (vs.eraseIdx j) (ds.eraseIdx j)
 |_,_,_,.nil=>by simpa using bJ.nil
 |_,_,0,.cons r t=>t
 |_,_,j+1,.cons r t=>.cons r (bJ.eraseIdx j t)
theorem Gp(i:Nat)(he:PL X e te)(hN:X.N[i]?=some x:=by rfl)(hv:Qg X.env.scope x:=by first | exact Or.inl rfl | exact Or.inr (Or.inl rfl) | exact Or.inr (Or.inr rfl)) (hd:(x == ("__debug__" : Str))=false:=by decide)
  (hcd:(x == ("__classdict__" : Str))=false:=by decide) (hs1:starEach [e] X.env=[(false,eval e X.env)]:=by rfl) (hbase:attributeBase (.Name x p) "pop" X.env (eval (.Name x p) X.env)=eval (.Name x p) X.env:=by rfl)
  (hfew:((backTo cpos (starEach [e] X.env)).all (λx=>!x.1) && (backToKw cpos (keywordEach [] X.env)).all (λx=>x.1.isSome)
   && decide (([e]).length+([]:List Keyword).length+(if([]:List Keyword).isEmpty then 0 else 1)<30))=true:=by rfl)
  (hline:(apos.endLine == cpos.line)=true:=by rfl) (hplain:(backTo cpos (starEach ([]:List Expr) X.env)).any (·.1)=false:=by rfl) :
  PL X (.Call (.Attribute (.Name x p) "pop" apos) [e] [] cpos) (Du i te):=by
 refine PL.of (LA PySem.F.plainAttrs_list PySem.F.slot_list_pop PySem.F.type_list_pop Fv (gJ hN hv hd hcd) (c9 (ay he).pe lD hs1) (hbase:=hbase) (hfew:=hfew) (hline:=hline) (hs:=hs1) (hplain:=hplain)) λσ H Pr Z so E h=>?_;obtain⟨l,xs0,q0,h⟩:=hU h;obtain⟨hσ,vs0,hl0,_⟩:=E.ownAt q0
 refine⟨.ref l,hσ,.inl ⟨rfl,vs0,Qn.of hl0⟩,Pr,Z,λr Z1=>match r with
  |.d y=>wB i Z1 λa xs=>∃(j:Nat)(z:D),y=.int (j:Int)/\xs.length<2^60/\xs[j]?=some z/\so (.d z) (Z1.set i (.own a (xs.eraseIdx j)))
  |_=>False,E,h,λv H' r Z' E' pp=>?_⟩
 cases r with
 | d y =>
  obtain⟨l',xs,q,j,z,rfl,hsm,hz,pp⟩:=hU pp;obtain⟨hσ',vs,hl,r⟩:=E'.tail.ownAt q;rw[hσ]at hσ';cases hσ';obtain⟨_,e1,p1⟩:=E'.head_d;cases e1;cases p1;obtain⟨v,hv',rv⟩:=r.get hz;have hj:j<vs.length:=(U1.mp hv').1;have p4:=r.length;have E2:=E'.tail.updOwn q (r.eraseIdx j);refine⟨l,vs,(j:Int),j,v,rfl,rfl,hl,xL,xL,?_,hv',_,_,E2.cons_d (rv.pres λb u hp e=>?_),pp⟩
  .
   unfold seqIndex?;rw[if_neg (show ¬(j:Int)<0 by omega)];have:(decide (0<=(j:Int)) && decide ((j:Int)<(vs.length:Int)))=true:=by simp;omega
   simp only[this,W5,VB]
  .
   by_cases hb:b=l
   . subst hb;rw[hl]at e;cases e;exact hp.elim
   . rw[ax hb];exact e
 |_=>exact pp.elim
end
section
variable{X:Cx}{p apos cpos:Pos}{x:Str}
def JQ(i:Nat):W L:=λZ so=>wB i Z λa xs=>so (.d .non) (Z.set i (.own a xs.reverse))
theorem BF(i:Nat)(hN:X.N[i]?=some x:=by rfl)(hv:Qg X.env.scope x:=by first | exact Or.inl rfl | exact Or.inr (Or.inl rfl) | exact Or.inr (Or.inr rfl)) (hd:(x == ("__debug__" : Str))=false:=by decide)
  (hcd:(x == ("__classdict__" : Str))=false:=by decide) (hbase:attributeBase (.Name x p) "reverse" X.env (eval (.Name x p) X.env)=eval (.Name x p) X.env:=by rfl) (hline:(apos.endLine == cpos.line)=true:=by rfl) :
  PL X (.Call (.Attribute (.Name x p) "reverse" apos) [] [] cpos) (JQ i):=by
 refine PL.of (Lz PySem.F.plainAttrs_list PySem.F.slot_list_reverse PySem.F.type_list_reverse Bi (gJ hN hv hd hcd) (hbase:=hbase) (hline:=hline)) λσ H Pr Z so E h=>?_;obtain⟨l,xs0,q0,h⟩:=hU h;obtain⟨hσ,vs0,hl0,r⟩:=E.ownAt q0;exact⟨.ref l,hσ,.inl ⟨rfl,vs0,Qn.of hl0⟩,l,vs0,rfl,rfl,hl0,_,_,(E.updOwn q0 r.reverse).cons_d .non,h⟩
end
end L2
namespace L2
open PySem PySem.Spec PyProof.Rows PySem.SeqAt
mutual
noncomputable def RP:D->Bool
 |.dct n=>n == 0
 |.exc _ _ _=>false
 |.fn _ _=>false
 |.tup xs=>ME xs
 |.lst xs=>ME xs
 |.str x=>PyData.strOk x
 |_=>true
noncomputable def ME:List D->Bool
 |[]=>true
 |x::xs=>RP x && ME xs
end
mutual
theorem qU:∀d:D,RP d=true->dY d=true->(Q9 d).leavesShort 601=true
 |.non,_,_=>rfl
 |.bl _,_,_=>rfl
 |.dct _,_,_=>rfl
 |.exc _ _ _,h,_=>by simp[RP]at h
 |.fn _ _,h,_=>by simp[RP]at h
 | .int i,_,h=>by
  have:=(ny (.int i) h).1
  simpa only[Q9,PyData.leavesShort,PyData.intsShort]using this
 |.str x,h,hs=>PyData.leavesShort_of_canLay0 601 (.str x) (by simpa only[RP,PyData.canLay0]using h) (ny (.str x) hs).1
 | .tup xs,h,hs=>by
  have:=oF xs (by simpa only[RP]using h) (by simpa only[dY]using hs)
  simpa only[Q9,PyData.leavesShort]using this
 | .lst xs,h,hs=>by
  have:=oF xs (by simpa only[RP]using h) (by simpa only[dY]using hs)
  simpa only[Q9,PyData.leavesShort]using this
theorem oF:∀ds:List D,ME ds=true->fj ds=true->PyData.leavesShortAll 601 (ff ds)=true
 |[],_,_=>rfl
 | d::ds,h,hs=>by
  simp only[ME,U7]at h
  simp only[fj,U7]at hs
  simp only[ff,PyData.leavesShortAll,qU d h.1 hs.1,oF ds h.2 hs.2,Bool.and_self]
end
structure O0 (d:D):Prop where
 ok:RP d=true
 sh:dY d=true
 dp:(Q9 d).depth<=40
 sg:Ff d<=16777216
 ni:∀i,d≠.int i
theorem O0.len{d:D}(h:O0 d):(Q9 d).shown.length<=sizeLine:=by
 have e:sizeLine=16777216:=by decide
 rw[e];exact U8 (Dt d (qU d h.ok h.sh)) h.sg
end L2
namespace L2
open PySem PySem.Spec PyProof.Rows
section
def MF(o:Option L)(i k:Nat)(Z:Ev)(so:L->Ev->Prop):Prop:=match o with
 |some (.bx none ls)=>∃l,ls[k]?=some l/\so l (Z.set i (.bx none (ls.set k .un)))
 |some (.d (.tup ds))=>∃d,ds[k]?=some d/\so (.d d) Z
 |_=>False
theorem Gq(ls:List L)(i k:Nat)(Z:Ev)(so:L->Ev->Prop):MF (some (.bx none ls)) i k Z so=∃l,ls[k]?=some l/\so l (Z.set i (.bx none (ls.set k .un))):=(rfl)
theorem JR(ds:List D)(i k:Nat)(Z:Ev)(so:L->Ev->Prop):MF (some (.d (.tup ds))) i k Z so=∃d,ds[k]?=some d/\so (.d d) Z:=(rfl)
end
section
def Oj(r:L)(Z:Ev)(so:L->Ev->Prop):Prop:=match r with
 |.bx (some _) ls=>so (.bx none ls) Z
 |_=>False
theorem Gr(a:Addr)(ls:List L)(Z:Ev)(so:L->Ev->Prop):Oj (.bx (some a) ls) Z so=so (.bx none ls) Z:=(rfl)
end
end L2
namespace L2
open PySem PySem.Spec PyProof.Rows PySem.W
theorem uV{p:Pos}{a b:Int}{c cv:Value}(l:List Value)(h:TriplesOk l)(e:codeAmong p (l++[rawInt a,rawInt b,c])=some cv):codeAmong p l=some cv∨cv=c:=by
 fun_induction TriplesOk l with
 | case1 =>
  simp only[Wk,codeAmong,rawInt]at e;split at e
  . cases e;exact .inr rfl
  . cases e
 | case2 a' t b' u x rest ih =>
  simp only[W8,codeAmong]at e ⊢;split at e
  . rename_i hc;rw[if_pos hc];exact .inl e
  . rename_i hc;rw[if_neg hc];exact ih h e
 |case3 l h1 h2=>exact h.elim
theorem wY{cells:List (Str×Addr)}:∀(names:List (Str×NameKind))(acc:List (Str×Addr)),(names.filter λp=>p.2 == .free)=[]->wG cells names acc=acc
 |[],_,_=>rfl
 | (n,k)::r,acc,h=>by
  rw[Wd]at h;unfold wG;by_cases hk:(k == NameKind.free)=true
  . rw[if_pos hk]at h;cases h
  . rw[if_neg hk]at h;rw[if_neg hk];exact wY r acc h
theorem Ap{cells:List (Str×Addr)}{y:Str}{c:Addr}(hc:cells.lookup y=some c):∀(names:List (Str×NameKind))(acc:List (Str×Addr)),(names.filter λp=>p.2 == .free)=[(y,.free)]->wG cells names acc=(y,c)::acc
 |[],_,h=>by cases h
 | (n,k)::r,acc,h=>by
  rw[Wd]at h;unfold wG;by_cases hk:(k == NameKind.free)=true
  . rw[if_pos hk]at h;simp only[List.cons.injEq,Prod.mk.injEq]at h;obtain⟨⟨h1,h2⟩,h3⟩:=h;subst h1;rw[if_pos hk,hc];exact wY r _ h3
  . rw[if_neg hk]at h;rw[if_neg hk];exact Ap hc r acc h
section
variable{X:Cx}{gV:List (Addr×Obj)}{σ:St}{H:Hp}{s:Shared}
theorem Gs{x:Str}{c0 P c:Addr}{y:Str}{pr:Arguments}{bd:Expr}{sc:Scope}{pos:Pos}{Q:Value->Shared->Prop}{E:Value->Shared->Prop}{A:Around}
  (I:Qi X gV σ H s) (hx:x∈lamNames) (ht:tabIn X.K x=some (c0,P)) (hcode:X.env.code=.ref c0) (hq:X.env.qual++"<lambda>"=tZ x) (hcl:closureFor sc X.env=pure [(y,c)]) (hdef:defaultsOf pr X.env=([],[]))
  (h:∀(f c':Addr)(oq:Obj)(H':Hp)(s':Shared)(ctv pm:Value),Qi X gV σ H' s'->(∀ b o,H b=some o->H' b=some o)->s'.heap.get? f=some (kla_obj "<lambda>" (tZ x) pr bd sc [(y,c)] pm c' ctv)->H' f=none->s.heap.objs.size<=f ->
   H' c'=some (.frz oq (.own c'))->pD oq (tZ x)->Q (.ref f) s'):wpAny (model X.prog X.w) A (eval (.Lambda pr bd sc pos) X.env) Q E s:=by
 have hP:=I.tbs x hx c0 P ht;obtain⟨ps,eP,tr,among⟩:=id (I.hok P _ hP);have C:CodeHd s.heap c0 P:=(I.ok.mod.cds x hx c0 P ht).keeps I.bk;have hg:s.heap.Ns mainGlobals X.mg:=I.ok.mod.glob.keeps I.bk;obtain⟨bm,ob,b1,b2,b3,b4,b5,b6⟩:=I.ok.mod.bmn;have hbk:=I.bk bm ob b3;have hgP:mainGlobals≠P:=λz=>by obtain⟨o,es,ep,e,hd,_⟩:=hg;rw[z,eP]at e;cases e;cases hd
 have hbP:bm≠P:=λz=>by rw[z,eP]at hbk;cases hbk;cases b4
 have hbG:bm≠mainGlobals:=λz=>by obtain⟨o,es,ep,e,hd,_⟩:=hg;rw[z,e]at hbk;cases hbk;rw[hd]at b6;cases b6
 refine kla_eval hdef ?_;rw[hq]
 cases q:codeAmong pos ps.toList with
 | none =>
  refine kla_makeFunction (mg:=X.mg) hcl I.ok.glob hg hcode C eP tr q hgP ⟨bm,ob,b1,b2,hbG,hbP,hbk,b4,b5,b6⟩ λc' ctv h' tk hx' hge hlt hrec htb=>?_;obtain⟨c2,oq,vs,t,e2,hoc,hd,hv⟩:=hrec;cases e2;have hn:H c'=none:=I.hok.fresh hge;have nP:∀b,H b=none->b≠P:=λb n z=>by rw[z,hP]at n;cases n
  have old:∀ b o,b≠P->s.heap.get? b=some o->(h'.push (kla_obj "<lambda>" (tZ x) pr bd sc [(y,c)] ((X.mg "__name__").getD .none) c' ctv)).get? b=some o:=λb o nb e=>UY _ (hx' b o nb e);have up:∀b u,H b=some u->Qa H c' (.frz oq (.own c')) b=some u:=λb u e=>by rw[ax (bf e hn)];exact e
  have co:pD oq (tZ x):=⟨vs,t,hd,hv⟩
  have J:Qi X gV σ (Qa H c' (.frz oq (.own c'))) {s with heap:=h'.push (kla_obj "<lambda>" (tZ x) pr bd sc [(y,c)] ((X.mg "__name__").getD .none) c' ctv),toks:=tk}:=by
   refine I.un ⟨λb o e n _ _=>old b o (nP b n) e,λb o e n _ _=>⟨o.slots,old b o (nP b n) e⟩,λb o e n _=>?_,λb o e _=>?_,λb xs e=>up b _ e,λb o u e=>up b _ e,λb t e=>up b _ e⟩ λb u e=>?_
   . rw[ax (Vp (U2 (U6 e) hge))];exact n
   .
    by_cases z:b=P
    . subst z;exact⟨_,UY _ htb⟩
    . exact⟨o,old b o z e⟩
   .
    by_cases z:b=c'
    . subst z;rw[aW]at e;cases e;exact⟨UY _ hoc,⟨_,UY _ hoc⟩⟩
    .
     rw[ax z]at e;by_cases zP:b=P
     .
      subst zP;rw[hP]at e;cases e;refine⟨_,UY _ htb,?_,λpos' cv hc'=>?_⟩
      . rw[Array.toList_append];exact TriplesOk_snoc _ _ _ _ tr
      .
       rw[Array.toList_append]at hc';rcases uV _ tr hc' with z1|z1
       . obtain⟨c3,o3,a1,a2,a3⟩:=among pos' cv z1;exact⟨c3,o3,a1,up _ _ a2,a3⟩
       . exact⟨c',oq,z1,aW,co⟩
     .
      refine(I.hok b u e).stay (λd v hd z2=>old d v ?_ z2) (λd z2=>up d _ z2) (λd xs z2=>up d _ z2) λd od _ _ z2=>up d _ z2;rcases hd with rfl|hd
      . exact zP
      . intro z3;rw[z3,hP]at hd;cases hd
  exact h _ c' oq _ _ ctv _ J up (Vn _ rfl) (by rw[ax (Nat.ne_of_gt hlt)];exact I.hok.fresh (U8 hge (Xa hlt))) (U8 hge (Xa hlt)) aW co
 | some cv =>
  obtain⟨c',oq,rfl,hz,co⟩:=among pos cv q;refine kla_makeFunctionHit (mg:=X.mg) hcl I.ok.glob hg hcode C eP tr q ⟨bm,ob,b1,b2,hbG,hbP,hbk,b4,b5,b6⟩ λctv h' tk hk hsz=>?_;exact h _ c' oq H _ ctv _ (I.kept λb o e=>UY _ (hk b o e)) (λ_ _ e=>e) (Vn _ rfl) (I.hok.fresh hsz) hsz hz co
end
def MG(K:Frag)(H:Hp)(h:Heap)(f:Addr)(x:Str)(d:D):Prop:=∃(c c':Addr)(oc oq:Obj)(y:Str)(pr:Arguments)(bd:Expr)(sc:Scope)(pos:Pos)(pm ctv u:Value)(v:V),
 Bl K x=some (pr,bd,sc,pos)/\h.get? f=some (kla_obj "<lambda>" (tZ x) pr bd sc [(y,c)] pm c' ctv)/\h.get? c'=some oq/\pD oq (tZ x)/\h.get? c=some oc/\(H c=none∨∃ o,H c=some (.frz o (.own c)))/\oc.data=.cell (some u)/\cu v u/\(y,NameKind.free)∈sc.names/\QU K H v d
noncomputable def JS(P:Program)(w:World)(K:Frag)(mg:Str->Option Value)(base:Heap)(p y:Str)(qual:Str)(sc:Scope)(f c':Addr)(cl:List (Str×Addr))(A:Around)(outer:List Env)(s:Shared)(H:Hp):Cx where
 prog:=P
 w:=w
 K:=K
 mg:=mg
 base:=base
 A:=A.deeper (envX qual sc s.heap.objs.size f (.ref c') cl)
 N:=[p,y]
 s₀:=s
 H₀:=H
 env:=envX qual sc s.heap.objs.size f (.ref c') cl
 outer:=outer
 stack:=envX qual sc s.heap.objs.size f (.ref c') cl::outer
 ex:=[]
 calm:=true
 fn:=λ_=>false
 pn:=[]
 xe:=λ_ _=>False
structure JT (p y:Str) (pr:Arguments) (bd:Expr) (sc:Scope):Prop where
 par:sc.names.lookup p=some .local
 fre:sc.names.lookup y=some .free
 nc:∀z∈sc.names,z.2≠.cell
 one:∀z,(z,NameKind.free)∈sc.names->z=y
 co:sc.isCoroutine=false
 gen:sc.isGenerator=false
 kind:sc.kind=.function
 bind:∀(q:Str)(cl:List (Str×Addr))(pm cdv ct u:Value),bindArgs (kla_fn "<lambda>" q pr bd sc cl pm cdv ct) ⟨[u],[]⟩=pure [(p,u)]
def MH(r:L)(k:D->Prop):Prop:=match r with
 |.d z=>k z
 |_=>False
theorem JU{r:L}{k:D->Prop}(h:MH r k):∃z,r=.d z/\k z:=by
 cases r with
 |d z=>exact⟨z,rfl,h⟩
 |_=>exact h.elim
structure JV (P:Program) (w:World) (K:Frag) (mg:Str->Option Value) (base:Heap) (k:Nat) (x:Str) (fs:FS):Prop where
 run:∀(A:Around)(outer:List Env)(s:Shared)(H:Hp)(f:Addr)(u:Value)(v:V)(a d:D)(so:D->Prop),gI k A->Be P w K mg base A outer s H->cu v u->QU K H v a->MG K H s.heap f x d->fs [.d a,.d d] (λr _=>MH r so) ->
  codeAny (model P w) A (.call (.ref f) ⟨[u],[]⟩) (CR CX0 outer P w H s (λv H'=>(∀b o,H b=some o->H' b=some o)/\∃z,QU K H' v z/\so z) E0) s
theorem JW{P:Program}{w:World}{K:Frag}{mg:Str->Option Value}{base:Heap}{p y:Str}{qual:Str}{pr:Arguments}{bd:Expr}{sc:Scope}{f c c':Addr}{A:Around}{outer:List Env}{s:Shared}{H:Hp}{h1:Heap}{tk:Nat}{u u':Value}{v v':V}{oc:Obj}
  (S:JT p y pr bd sc) (hd:A.handled=none) (e0:Be P w K mg base A outer s H) (r:cu v u) (r':cu v' u') (gc:s.heap.get? c=some oc) (dc:oc.data=.cell (some u')) (hc:H c=none∨∃o,H c=some (.frz o (.own c)))
  (hns:h1.Ns s.heap.objs.size λz=>[(p,u)].reverse.lookup z) (k:∀b o,s.heap.get? b=some o->h1.get? b=some o) :
  Qi (JS P w K mg base p y qual sc f c' [(y,c)] A outer s H) [] [some v,some v'] H {s with heap:=h1,toks:=tk}:=by
 have hpy:p≠y:=λz=>by have:=S.par;rw[z,S.fre]at this;cases this
 have one:∀z d,([(y,c)]:List (Str×Addr)).lookup z=some d->z=y/\d=c:=λz d e=>by
  rw[VJ]at e
  cases q:z == y with
  |true=>rw[q]at e;cases e;exact⟨eq_of_beq q,rfl⟩
  |false=>rw[q]at e;cases e
 have at_y:([(y,c)]:List (Str×Addr)).lookup y=some c:=by rw[VJ,beq_self_eq_true]
 have noA:∀b:Addr,b∉(JS P w K mg base p y qual sc f c' [(y,c)] A outer s H).ex:=λb z=>absurd (show b∈([]:List Addr)from z) v6
 refine⟨⟨e0.mod,S.kind,rfl,rfl,Vb _,λa b d h1 h2=>?_,λz hz=>?_,λz d hf _=>absurd (show false=true from hf) x_,λ_=>hd,Around.frames_deeper e0.frames,.inr ⟨rfl,rfl⟩,λb z=>absurd z (noA b),e0.bs,e0.bsz,λb _ _=>noA b,λb z=>absurd z (noA b),e0.funs,e0.frf,e0.tbs⟩,
  rfl,e0.bare,Un.kept k,⟨_,hns,λi z v2 h1 h2 h3=>?_⟩,λz d h=>?_,e0.hok.fresh (Vb _),λz d h=>?_,λq hq=>absurd (show q∈([]:List (Addr×Obj))from hq) v6,e0.hok.kept k,rfl⟩
 . exact(one a d h1).1.trans (one b d h2).1.symm
 .
  have hz:sc.names.lookup z=some .cell∨sc.names.lookup z=some .free:=hz;rcases hz with hz|hz
  . exact absurd rfl (S.nc _ (Wf hz))
  . rw[S.one z (Wf hz)];exact⟨c,at_y⟩
 .
  match i,h1,h2 with
  | 0,h1,h2 =>
   have e1:p=z:=Vq h1;have e2:v=v2:=by simpa using h2
   subst e1 e2;exact⟨u,r,.inl ⟨S.par,v6⟩⟩
  | 1,h1,h2 =>
   have e1:y=z:=Vq h1;have e2:v'=v2:=by simpa using h2
   subst e1 e2;exact⟨u',r',.inr ⟨.inr S.fre,c,at_y,oc,k c oc gc,dc⟩⟩
  |n+2,h1,h2=>simp at h2
 . obtain⟨_,rfl⟩:=one z d h;exact⟨_,oc,k d oc gc,dc⟩
 . obtain⟨_,rfl⟩:=one z d h;exact hc.imp id λz=>⟨rfl,z⟩
theorem MI{P:Program}{w:World}{K:Frag}{mg:Str->Option Value}{base:Heap}{k:Nat}{x p y:Str}{pr:Arguments}{bd:Expr}{sc:Scope}{pos:Pos}{fs:FS}(hl:Bl K x=some (pr,bd,sc,pos))(S:JT p y pr bd sc)(t:W L)
  (hbody:∀(A:Around)(outer:List Env)(s:Shared)(H:Hp)(f c c':Addr),gI k (A.deeper (envX (tZ x) sc s.heap.objs.size f (.ref c') [(y,c)]))->PL (JS P w K mg base p y (tZ x) sc f c' [(y,c)] A outer s H) bd t)
  (h:∀a d so,fs [.d a,.d d] so->t [.d a,.d d] λr _=>so r []):JV P w K mg base (k+1) x fs:=by
 refine⟨λA outer s H f u v a d so hr e0 rv ra la hf=>?_⟩;obtain⟨c,c',oc,oq,y',pr',bd',sc',pos',pm,ctv,u',v',hl',gf,gq,hq,gc,hc,dc,rv',hm,rd⟩:=la;rw[hl]at hl';cases hl';obtain rfl:=S.one y' hm;obtain⟨vs,tq,hd1,hd2⟩:=hq;have lim:s.heap.NoLimit:=e0.mod.nolimit.keeps λb o e=>(e0.bs b o e).1;refine kla_callFunE hr.depth gf rfl S.co S.gen rfl ⟨c',oq,vs,tq,rfl,gq,hd1,hd2⟩ ?_;rw[S.bind]
 refine U9 (wpAny_newFunctionEnv S.nc (λz hz=>by
  have:z=(p,u):=by simpa using hz
  subst this;exact S.par) (λh₁ hns hsb=>⟨lim.fresh _ hsb,?_⟩) S.kind)
 have hk₁:∀b o,s.heap.get? b=some o->h₁.get? b=some o:=λb o e=>hsb.extBut b o (Vp (U6 e)) (UY _ e);show codeAny _ _ (.expr bd (envX (tZ x) sc s.heap.objs.size f (.ref c') [(y',c)])) _ _;have I:=JW (P:=P) (w:=w) (K:=K) (mg:=mg) (base:=base) (qual:=tZ x) (f:=f) (c':=c') (tk:=s.toks+[(p,u)].length) S hr.hd e0 rv rv' gc dc hc hns hk₁;have E:aA K H H [some v,some v'] [.d a,.d d]:=⟨λ_ _ e=>e,List.nodup_nil,λa ha=>absurd (show a∈([]:List Addr)from ha) v6,.cons ⟨v,rfl,ra⟩ (.cons ⟨v',rfl,rd⟩ .nil)⟩;refine kla_codeExpr (V7 (hbody A outer s H f c c' (hr.deeper _) [] _ _ H H _ (λr _=>MH r so) I E (h a d _ hf)) (λv2 s' hs=>?_) λe s' hs=>(show False from hs).elim);obtain⟨v3,H',r,Z',J,rv3,E',q⟩:=hs;obtain⟨z,rfl,hp⟩:=JU q;obtain⟨w3,e3,rz⟩:=E'.head_d;cases e3;exact⟨v3,H',J.os,J.bare,J.base,J.hok,rv3,E'.sub,z,rz,hp⟩
def NM(i:Nat)(Z:Ev)(k:D->Prop):Prop:=match Z[i]? with
 |some (.d x)=>k x
 |_=>False
theorem JX{i:Nat}{Z:Ev}{k:D->Prop}(h:NM i Z k):∃x,Z[i]?=some (.d x)/\k x:=by
 unfold NM at h;split at h
 . rename_i x q;exact⟨x,q,h⟩
 . exact h.elim
theorem Un.one{P:Program}{w:World}{fs:List Addr}{H H':Hp}{h h':Heap}{c:Addr}{oc:Obj}(hc:H c=none)(gc:h.get? c=some oc)(cc:∀q,¬pD oc q)(u:Un fs [] (Qa H c (.frz oc (.own c))) H' h h')(ok:Qb P w H' h') :
  Un fs [] H (Rw H' c) h h'/\Qb P w (Rw H' c) h':=by
 have zc:H' c=some (.frz oc (.own c)):=u.frzs c oc _ aW;have gc':h'.get? c=some oc:=(ok c _ zc).1;have nz:∀b o,H' b=some o->o≠.frz oc (.own c)->b≠c:=λb o e n z=>by subst z;rw[zc]at e;cases e;exact n rfl
 refine⟨⟨λb o e n hb hx=>?_,λb o e n hb hx=>?_,λb o e n hx=>?_,λb o e hx=>u.there b o e hx,λb xs e=>?_,λb o v e=>?_,λb t e=>?_⟩,λb o e=>?_⟩
 .
  by_cases z:b=c
  . subst z;rw[gc]at e;cases e;exact gc'
  . exact u.keep b o e (by rw[ax z];exact n) hb hx
 .
  by_cases z:b=c
  . subst z;rw[gc]at e;cases e;exact⟨oc.slots,gc'⟩
  . exact u.slot b o e (by rw[ax z];exact n) hb hx
 .
  by_cases z:b=c
  . subst z;exact nB
  . rw[dZ z];exact u.free b o e (by rw[ax z];exact n) hx
 . have z:=bf e hc;rw[dZ z];exact u.tups b xs (by rw[ax z];exact e)
 . have z:=bf e hc;rw[dZ z];exact u.frzs b o v (by rw[ax z];exact e)
 . have z:=bf e hc;rw[dZ z];exact u.tbls b t (by rw[ax z];exact e)
 .
  have hb:b≠c:=λz=>by subst z;rw[nB]at e;cases e
  rw[dZ hb]at e;refine(ok b o e).stay (λ_ _ _ z=>z) (λd z=>?_) (λd xs z=>?_) λd od q co z=>?_
  . rw[dZ (nz d _ z λy=>nomatch y)];exact z
  . rw[dZ (nz d _ z λy=>nomatch y)];exact z
  . rw[dZ (nz d _ z λy=>by cases y;exact cc q co)];exact z
structure MJ (X:Cx) (x y:Str) (i:Nat) (pr:Arguments) (bd:Expr) (sc:Scope) (pos:Pos):Prop where
 mem:x∈lamNames
 tab:∃c0 P,tabIn X.K x=some (c0,P)/\X.env.code=.ref c0
 lam:Bl X.K x=some (pr,bd,sc,pos)
 qual:X.env.qual++"<lambda>"=tZ x
 deft:defaultsOf pr X.env=([],[])
 fre:(sc.names.filter λp=>p.2 == .free)=[(y,.free)]
 at_i:X.N[i]?=some y
 cel:X.env.scope.names.lookup y=some .cell
 fn:X.fn y=true
structure MK (K:Frag) (x:Str) (fd:FuncData) (st:Stmt):Prop where
 tab:∃c0 P,tabIn K x=some (c0,P)/\fd.code=.ref c0
 lam:Bl K x=CH (de st)
theorem MK.mk'{K:Frag}{x:Str}{fd:FuncData}{st:Stmt}{c0:Addr}(h1:(tabIn K x).map (·.1)=some c0)(h2:fd.code=.ref c0)(h3:Bl K x=CH (de st)):MK K x fd st:=by
 refine⟨?_,h3⟩
 cases z:tabIn K x with
 |none=>rw[z]at h1;cases h1
 |some p=>rw[z]at h1;cases h1;exact⟨p.1,p.2,rfl,h2⟩
theorem ML{X:Cx}{x y:Str}{i:Nat}{pr:Arguments}{bd:Expr}{sc:Scope}{pos:Pos}{fd:FuncData}{st:Stmt}(T:MK X.K x fd st)(hc:fd.code=X.env.code)(h1:CH (de st)=some (pr,bd,sc,pos))(mem:x∈lamNames) (qual:X.env.qual++"<lambda>"=tZ x) (deft:defaultsOf pr X.env=([],[]))
  (fre:(sc.names.filter λp=>p.2 == .free)=[(y,.free)]) (at_i:X.N[i]?=some y) (cel:X.env.scope.names.lookup y=some .cell) (fn:X.fn y=true):MJ X x y i pr bd sc pos :=
 ⟨mem,let ⟨c0,P,a,b⟩:=T.tab;⟨c0,P,a,by rw[<- hc];exact b⟩,T.lam.trans h1,qual,deft,fre,at_i,cel,fn⟩
theorem Ol{p y:Str}{pr:Arguments}{bd:Expr}{sc:Scope}(par:sc.names.lookup p=some .local)(fre:(sc.names.filter λp=>p.2 == .free)=[(y,.free)])(fr1:sc.names.lookup y=some .free)(nc:(sc.names.all λz=>z.2 != .cell)=true)(co:sc.isCoroutine=false)(gk:(sc.isGenerator,sc.kind)=(false,.function))
  (bind:∀(q:Str)(cl:List (Str×Addr))(pm cdv ct u:Value),bindArgs (kla_fn "<lambda>" q pr bd sc cl pm cdv ct) ⟨[u],[]⟩=pure [(p,u)]):JT p y pr bd sc where
 par:=par
 fre:=fr1
 nc:=λz hz q=>by have:=VI.mp nc z hz;rw[q]at this;exact absurd this x_
 one:=λz hz=>by have:(z,NameKind.free)∈sc.names.filter λp=>p.2 == .free:=V3.mpr ⟨hz,rfl⟩;rw[fre]at this;simpa using this
 co:=co
 gen:=(Prod.mk.inj gk).1
 kind:=(Prod.mk.inj gk).2
 bind:=bind
section
variable{X:Cx}{gV:List (Addr×Obj)}{σ:St}{H:Hp}{s:Shared}
theorem RE.nofs{b:Addr}(I:Qi X gV σ H s)(n:RE X gV b):b∉Qf X.stack:=λhb=>by
 rcases Vc.mp (I.stkSub b hb)with z|z
 . exact n.loc z
 . obtain⟨_,o,ho,_⟩:=I.ok.funs.mem z;exact absurd (U2 (U6 ho) n.s0) (Wq _)
theorem Qi.two{h':Heap}{t':Nat}{c d:Addr}(I:Qi X gV σ H s)(nc:RE X gV c)(nd:RE X gV d)(hc:H c=none)(hd:H d=none)(k:∀b o,b≠X.env.locals->b≠c->b≠d->s.heap.get? b=some o->h'.get? b=some o)
  (ns:∀m,s.heap.Ns X.env.locals m->h'.Ns X.env.locals m):Qi X gV σ H {s with heap:=h',toks:=t' }:=by
 have nit:∀b u,H b=some u->b≠X.env.locals/\b≠c/\b≠d:=λb u e=>⟨λz=>(by rw[z,I.free]at e;cases e),λz=>(by rw[z,hc]at e;cases e),λz=>(by rw[z,hd]at e;cases e)⟩
 refine I.step (g':=s.gens) (d':=s.drawn) (ch:=[c,d]) (λb hb=>?_) (λb o hL _ hb e _=>k b o hL (λz=>hb (by simp[z])) (λz=>hb (by simp[z])) e) (λb o hL _ hb e _=>⟨o.slots,k b o hL (λz=>hb (by simp[z])) (λz=>hb (by simp[z])) e⟩) (λ_ _ _ _ n=>n)
  (λb o hb e=>?_) (λ_ _ e=>e) (λ_ _ _ e=>e) (λ_ _ e=>e) ns (λb u e=>?_) I.bare
 .
  have:b=c∨b=d:=by simpa using hb
  rcases this with rfl|rfl
  . exact⟨.inr nc.s0,nc.loc,nc.cel,nc.pin⟩
  . exact⟨.inr nd.s0,nd.loc,nd.cel,nd.pin⟩
 .
  by_cases hL:b=X.env.locals
  . obtain⟨m,hn,_⟩:=I.loc;obtain⟨o2,_,_,e2,_⟩:=ns m hn;rw[hL];exact⟨o2,e2⟩
  . exact⟨o,k b o hL (λz=>hb (by simp[z])) (λz=>hb (by simp[z])) e⟩
 .
  refine(I.hok b u e).stay (λx v hx q=>?_) (λ_ q=>q) (λ_ _ q=>q) λ_ _ _ _ q=>q
  have:∃u,H x=some u:=by
   rcases hx with rfl|hx
   . exact⟨u,e⟩
   . exact⟨_,hx⟩
  obtain⟨u2,e2⟩:=this;obtain⟨n1,n2,n3⟩:=nit x u2 e2;exact k x v n1 n2 n3 q
def RQ(X:Cx)(gV:List (Addr×Obj))(σ:St)(H:Hp)(kS a:Addr)(s:Shared):Prop:=∃H',Qi X gV σ H' s/\(∀b o,H b=some o->H' b=some o)/\H' kS=none/\H' a=none/\(∃o,s.heap.get? kS=some o)/\∃o,s.heap.get? a=some o
def RR(X:Cx)(gV:List (Addr×Obj))(σ:St)(H:Hp)(a:Addr)(s:Shared):Prop:=∃H',Qi X gV σ H' s/\(∀b o,H b=some o->H' b=some o)/\H' a=none
variable{kS a:Addr}{vs:List Value}{kz:List Int}{e1:Nat}{f:Value}{A':Around}{P:PySem.Fin->Shared->Prop}{E:Value->Shared->Prop}
theorem Gu(J0:RQ X gV σ H kS a s)(nk:RE X gV kS)(na:RE X gV a)(hka:kS≠a) (gk:s.heap.get? kS=some (seqObj "list" #[] 0)) (ga:s.heap.get? a=some (seqObj "list" #[] e1)) (p4:kz.length=vs.length) (h64:vs.length < 64)
  (turn:∀(i:Nat)(v:Value)(k:Int),vs[i]?=some v->kz[i]?=some k->∀s',RQ X gV σ H kS a s' ->
   wpAny (model X.prog X.w) A' (call f [v]) (λr s''=>∃t,r=.int k t/\RQ X gV σ H kS a s''/\(∀o,s'.heap.get? kS=some o->s''.heap.get? kS=some o)/\∀o,s'.heap.get? a=some o->s''.heap.get? a=some o) (λ_ _=>False) s')
  (h:∀ s' out c,RR X gV σ H a s'->s'.heap.get? a=some (seqObj "list" out c)->KskOut false kz vs out.toList->P (.done (.ret .none)) s') :
  wpAny (model X.prog X.w) A' (ksk_rest a f false vs.toArray e1 (.ref kS)) P E s:=by
 unfold ksk_rest;refine UX (wpAny_rule ?_)
 first
  |rw[List.forIn_toArray]
  |(rw[<- Array.forIn_toList];simp only[List.toList_toArray])
  |rw[<- Array.forIn_toList]
 refine UX (ksk_fold (λi s'=>∃ kA e,RQ X gV σ H kS a s'/\s'.heap.get? kS=some (seqObj "list" kA e)/\s'.heap.get? a=some (seqObj "list" #[] e1)/\IntsAre kA.toList (kz.take i)) vs 0 s
  ⟨#[],0,J0,gk,ga,by simpa using IntsAre.nil⟩ ?step ?done)
 case step =>
  rintro j x s' hx ⟨kA,e,J,g1,g2,hk⟩;simp only[Nat.zero_add]at hk ⊢;have hj:j<vs.length:=(U1.mp hx).1;obtain⟨k,hkj⟩:∃k,kz[j]?=some k:=⟨_,tu xL⟩;have hz:kA.size<=vs.length:=by have h1:=hk.length;rw[Array.length_toList,Wp]at h1;omega
  refine UX (wpAny_attempt (V7 (turn j x k hx hkj s' J) (λv s'' he=>?_) λ_ _ hF=>hF.elim));obtain⟨t2,rfl,⟨H',I,up,hn1,hn2,_,_⟩,k1,k2⟩:=he
  try dsimp only
  have q1:=k1 _ g1;have q2:=k2 _ g2;have s1:=Heap.SameBut.update s''.heap kS (Obj.mapSeq (·.push (.int k t2)));obtain⟨c2,hc2⟩:∃ c2,(s''.heap.update kS (Obj.mapSeq (·.push (.int k t2)))).get? kS=some (seqObj "list" (kA.push (.int k t2)) c2):=⟨_,get?_update_seq q1 (·.push (.int k t2))⟩;have ek:kz.take (j+1)=kz.take j++[k]:=by rw[List.take_add_one,hkj];simp
  have ea:(kA.push (Value.int k t2)).toList=kA.toList++[Value.int k t2]:=by simp
  refine UX (listUpdate_at q1 rfl ?_ (by rw[WZ];omega) (U8 (Nat.le_of_eq (Array.size_push ..)) (by rw[WZ];omega)));refine U9 ⟨rfl,kA.push (.int k t2),c2,⟨H',?_,up,hn1,hn2,⟨_,hc2⟩,⟨_,(s1.2 a hka.symm).trans q2⟩⟩,hc2,(s1.2 a hka.symm).trans q2,by rw[ea,ek];exact ksk_snoc hk⟩;exact I.two (t':=s''.toks) nk na hn1 hn2 (λb o _ n1 _ q=>(s1.2 b n1).trans q) λm hm=>hm.sameBut s1 (VX nk.loc)
 case done =>
  rintro s' ⟨kA,e,⟨H',I,up,hn1,hn2,_,_⟩,g1,g2,hk⟩;have hk':IntsAre kA.toList kz:=by have e3:kz.take (0+vs.length)=kz:=VU xL;rw[e3]at hk;exact hk
  try dsimp only
  refine UX (listItems_at g1 rfl ?_);obtain⟨m,hn,_⟩:=id I.loc;have F:Fr (Att.noObjs s'.heap) X.env.locals s'.heap m:=⟨hn,λb o z=>(by rw[Att.noObjs_get]at z;cases z),Wn _⟩;refine ksk_end_ (b:=false) (e:=e) (h₀:=Att.noObjs s'.heap) (L:=X.env.locals) (m:=m) (news:=(qF (Att.noObjs s'.heap) s'.heap X.env.locals).filter λp=>decide (p.1≠kS) && decide (p.1≠a)) F (λp hp=>?_) hka (λp hp=>?_) (λp hp=>?_) hk' p4 h64 λh3 tk3 out c F3 N3 k3=>?_
  .
   rcases Vx.mp hp with hp|hp
   . exact Fj p (V3.mp hp).1
   .
    rcases Vc.mp hp with rfl|hp
    . exact⟨g1,nk.loc,Att.noObjs_get _ _⟩
    . rw[WR.mp hp];exact⟨g2,na.loc,Att.noObjs_get _ _⟩
  . have:=(V3.mp hp).2;simp only[U7,U5]at this;exact this.1
  . have:=(V3.mp hp).2;simp only[U7,U5]at this;exact this.2
  .
   refine h _ out c ⟨H',?_,up,hn2⟩ (N3 _ (.head _)).1 k3;refine I.two (h':=h3) (t':=tk3) nk na hn1 hn2 (λb o n0 n1 n2 q=>?_) λm2 hm2=>?_
   . exact(N3 (b,o) (.tail _ (V3.mpr ⟨yh n0 (Att.noObjs_get _ _) q,by simp[n1,n2]⟩))).1
   . have e1:=hm2.eq_nsMap;have e2:=hn.eq_nsMap;rw[e1,<- e2];exact F3.ns
theorem BG{l q:Addr}{Q:Value->Shared->Prop}(I:Qi X gV σ H s)(hl:s.heap.IsList l vs.toArray)(p4:kz.length=vs.length)(h64:vs.length<64)
  (turn:∀kS a,RE X gV kS->RE X gV a->∀(i:Nat)(v:Value)(k:Int),vs[i]?=some v->kz[i]?=some k->∀s',RQ X gV σ H kS a s' ->
   wpAny (model X.prog X.w) X.A.in1.in1 (call (.ref q) [v]) (λr s''=>∃t,r=.int k t/\RQ X gV σ H kS a s''/\(∀o,s'.heap.get? kS=some o->s''.heap.get? kS=some o)/\∀o,s'.heap.get? a=some o->s''.heap.get? a=some o) (λ_ _=>False) s')
  (h:∀ a s' out c,RE X gV a->RR X gV σ H a s'->s'.heap.get? a=some (seqObj "list" out c)->KskOut false kz vs out.toList->Q (.ref a) s') :
  wpAny (model X.prog X.w) X.A (call (.builtin "sorted") [.ref l] [(Str.ofString "key",.ref q)]) Q E s:=by
 refine call_function_entry_kw kind_sorted plain_sorted entry_sorted (ksk_s1 _ _) ?_;unfold Builtin.«sorted»;refine UX (m:=checkCount "sorted" 1 1 _) (U9 ?_);refine UX (collect_list hl ?_ (by rw[WZ];omega));refine UX (wpAny_newList ?_ (by rw[WZ];omega));have hsz:((s.heap.push (seqObj "list" #[] 0)).update s.heap.objs.size (Obj.mapSeq (·++vs.toArray))).objs.size=s.heap.objs.size+1:=by rw[Heap.size_update,size_push']
 have hoL:(((s.heap.push (seqObj "list" #[] 0)).update s.heap.objs.size (Obj.mapSeq (·++vs.toArray))).push (seqObj "list" vs.toArray 0)).get? (s.heap.objs.size+1)=some (seqObj "list" vs.toArray 0):=by rw[<- hsz];exact Vn _ rfl
 have keep:∀ b o,s.heap.get? b=some o->(((s.heap.push (seqObj "list" #[] 0)).update s.heap.objs.size (Obj.mapSeq (·++vs.toArray))).push (seqObj "list" vs.toArray 0)).get? b=some o:=λb o q=>by have hlt:b<s.heap.objs.size:=U6 q;rw[Heap.get?_push_ne _ _ _ (by rw[hsz];exact Vp (Nat.lt_succ_of_lt hlt)),Heap.get?_update_ne _ _ _ _ (Vp hlt),Heap.get?_push_ne _ _ _ (Vp hlt)];exact q
 show wpAny _ _ _ _ _ {s with heap:=((s.heap.push (seqObj "list" #[] 0)).update s.heap.objs.size (Obj.mapSeq (·++vs.toArray))).push (seqObj "list" vs.toArray 0) };rw[hsz];generalize hhp:((s.heap.push (seqObj "list" #[] 0)).update s.heap.objs.size (Obj.mapSeq (·++vs.toArray))).push (seqObj "list" vs.toArray 0)=hp at hoL keep;generalize ha:s.heap.objs.size+1=a at hoL;have sa:s.heap.objs.size<=a:=by omega
 refine UX (Wi (wpAny_call_entry_kw slot_list_sort ⟨_,hoL,rfl⟩ entry_list_sort ?body (ksk_l1 _ _)))
 case body =>
  show wpAny (model X.prog X.w) X.A.in1.in1 (Builtin.«list.sort» ⟨[.ref a],[(Str.ofString "key",.ref q)]⟩) _ _ _;rw[ksk_t1];have s1:=Heap.SameBut.update hp a (Obj.mapSeq λ_=>(#[]:Array Value));obtain⟨e1,ho1⟩:∃ e1,(hp.update a (Obj.mapSeq λ_=>(#[]:Array Value))).get? a=some (seqObj "list" #[] e1):=⟨_,get?_update_seq hoL λ_=>#[]⟩;have la:a<hp.objs.size:=U6 hoL;have hkS:((hp.update a (Obj.mapSeq λ_=>(#[]:Array Value))).push (seqObj "tuple" vs.toArray 0)).objs.size=hp.objs.size+1:=by rw[size_push',Heap.size_update]
  unfold ksk_tree;refine UX (listItems_at hoL rfl ?_);refine UX (listUpdate_at hoL rfl ?_ (by rw[Vd,WZ];omega) (Wn _));refine UX (seqEpoch_at ho1 rfl ?_);refine UX (wpAny_newTuple ?_ (by show vs.length<=_;rw[WZ];omega));refine UX (wpAny_newList ?_ (Wn _));refine Wi ?_;have sk:s.heap.objs.size<=((hp.update a (Obj.mapSeq λ_=>(#[]:Array Value))).push (seqObj "tuple" vs.toArray 0)).objs.size:=by rw[hkS]; omega
  have nka:((hp.update a (Obj.mapSeq λ_=>(#[]:Array Value))).push (seqObj "tuple" vs.toArray 0)).objs.size≠a:=by rw[hkS]; omega
  have nk:RE X gV ((hp.update a (Obj.mapSeq λ_=>(#[]:Array Value))).push (seqObj "tuple" vs.toArray 0)).objs.size:=I.newer sk;have na:RE X gV a:=I.newer sa
  refine Gu (s:={s with heap:=((hp.update a (Obj.mapSeq λ_=>(#[]:Array Value))).push (seqObj "tuple" vs.toArray 0)).push (seqObj "list" #[] 0) }) (kS:=((hp.update a (Obj.mapSeq λ_=>(#[]:Array Value))).push (seqObj "tuple" vs.toArray 0)).objs.size) (a:=a) (H:=H)
   ⟨H,I.kept (t':=s.toks) (λb o z=>UY _ (UY _ ((s1.2 b (Vp (U2 (U6 z) sa))).trans (keep b o z)))),λ_ _ z=>z,I.hok.fresh sk,I.hok.fresh sa,⟨_,Vn _ rfl⟩,⟨_,UY _ (UY _ ho1)⟩⟩ nk na nka
   (Vn _ rfl) (UY _ (UY _ ho1)) p4 h64 (turn _ a nk na) λs' out c J g k=>⟨_,rfl,?_⟩
  exact U9 ⟨_,rfl,h a s' out c na J g k⟩
end
noncomputable def uf:Value->Int
 |.int n _=>n
 |_=>0
theorem uW:∀{us:List Value}{ns:List Int},IntsAre us ns->us.map uf=ns/\∀u∈us,∃t,u=.int (uf u) t
 |_,_,.nil=>⟨rfl,λu h=>by simp at h⟩
 | _,_,.cons n t h=>by
  obtain⟨h1,h2⟩:=uW h;refine⟨by rw[Vo,h1];rfl,λu hu=>?_⟩;rcases Vc.mp hu with rfl|hu
  . exact⟨t,rfl⟩
  . exact h2 u hu
theorem Gv{us:List Value}{ns:List Int}{g:Int->Int}{out:List Value}(hi:IntsAre us ns)(h:KskOut false (ns.map g) us out):(out.map uf).Perm ns/\(out.map uf).Pairwise (λa b=>g a<=g b)/\bT ((out.map uf).map V.int) out:=by
 obtain⟨e1,e2⟩:=uW hi;obtain⟨ps,hp,rfl,hs⟩:=h
 have hz:∀p∈(ns.map g).zip us,p.1=g (uf p.2)/\p.2∈us:=λp hp=>by
  obtain⟨j,hj,rfl⟩:=VF hp;rw[V1];rw[Vy]at hj;refine⟨?_,U3 _⟩;simp only[W7]
  congr 1
  have:(us.map uf)[j]?=ns[j]?:=by rw[e1]
  rw[Vf,tu xL,tu (by simpa using(show j<(ns.map g).length by omega))]at this;simpa using this.symm
 have hz':∀p∈ps,p.1=g (uf p.2)/\p.2∈us:=λp h=>hz p (hp.mem_iff.mp h);have hm:(ps.map Prod.snd).map uf=ps.map λp=>uf p.2:=by rw[VM];rfl
 refine⟨?_,?_,?_⟩
 .
  rw[hm];refine(hp.map _).trans ?_;have:((ns.map g).zip us).map (λp=>uf p.2)=ns:=by rw[show(λp:Int×Value=>uf p.2)=uf ∘ Prod.snd from rfl,<- VM,List.map_snd_zip,e1];have:=hi.length;rw[U4];omega
  rw[this]
 . rw[hm,List.pairwise_map];refine List.Pairwise.imp_of_mem (λ{a b} ha hb q=>?_) hs;rw[<- (hz' a ha).1,<- (hz' b hb).1];simpa using q
 .
  have all:∀l:List Value,(∀u∈l,∃t,u=.int (uf u) t)->bT ((l.map uf).map V.int) l:=by
   intro l
   induction l with
   |nil=>exact λ_=>.nil
   |cons u l ih=>exact λh=>.cons (h u UZ) (ih λv hv=>h v (UW _ hv))
  refine all _ λu hu=>?_;obtain⟨p,hpm,rfl⟩:=VO.mp hu;exact e2 _ (hz' p hpm).2
def Dv(fs:FS)(i:Nat)(t:W L):W L:=λZ so=>t Z λr Z1=>QX r λd=>∃(ns:List Int)(g:Int->Int),d=.lst (ns.map .int)/\ns.length<64/\NM i Z1 λv=>(∀n∈ns,fs [.d (.int n),.d v] λr _=>MH r λz=>z=.int (g n)) /\
 ∀(a:Addr)(out:List Int),out.Perm ns->out.Pairwise (λa b=>g a<=g b)->so (.own a (out.map .int)) Z1
section
variable{X:Cx}{k k':Nat}{x y:Str}{p cpos pos kpos:Pos}{e:Expr}{t:W L}{fs:FS}{pr:Arguments}{bd:Expr}{sc:Scope}
theorem Gw(LO:JV X.prog X.w X.K X.mg X.base k x fs)(hr:gI k' X.A)(i:Nat)(LI:MJ X x y i pr bd sc pos)(ha:PL X e t) (hm:X.mg "sorted"=none) (hk:k+2<=k':=by decide) (hg:Gl X "sorted":=by rfl)
  (he:starEach [e] X.env=(false,eval e X.env)::starEach [] X.env:=by rfl) :
  PL X (.Call (.Name "sorted" p) [e] [⟨some "key",.Lambda pr bd sc pos,kpos⟩] cpos) (Dv fs i t):=by
 intro gV s σ H Pr Z so I E0 h;obtain⟨c0,P,tab,code⟩:=LI.tab;refine V2 (jw I hg hm (u:=.builtin "sorted") y_ ?_);refine callWith_kw (e:=e) (rest:=[]) (kws:=[⟨some "key",.Lambda pr bd sc pos,kpos⟩]) ?_ (by rw[he]; rfl) (by rw[he]; rfl) rfl rfl;rw[he];show wpAny _ _ (spliced ((false,eval e X.env)::backTo cpos (starEach [] X.env))) _ _ s;refine Calls.spliced_cons (Qk (ha gV s σ H Pr Z _ I E0 h) λu1 s1 hq=>?_);obtain⟨v1,H1,d,Z1,I1,rv1,E1,ns,g,rfl,h64,q1⟩:=EL.frz hq;refine Calls.spliced_nil ?_;obtain⟨dv,qi,hkey,q1⟩:=JX q1
 show wpAny _ _ (evalAll [(do let v <- eval (.Lambda pr bd sc pos) X.env;standAt cpos;pure v)]) _ _ s1
 obtain⟨c,hcl⟩:=I1.ok.has y (.inl LI.cel);have fr:∀z,(z,NameKind.free)∈sc.names->z=y:=λz hz=>by have:(z,NameKind.free)∈sc.names.filter λp=>p.2 == .free:=V3.mpr ⟨hz,rfl⟩;rw[LI.fre]at this;simpa using this
 have hm':(y,NameKind.free)∈sc.names:=by
  have:(y,NameKind.free)∈sc.names.filter λp=>p.2 == .free:=by rw[LI.fre];simp
  exact(V3.mp this).1
 have hclo:closureFor sc X.env=pure [(y,c)]:=by
  rw[nh λz hz hf=>by
   obtain⟨z1,z2⟩:=z;cases hf
   rw[fr z1 hz];exact⟨c,hcl⟩,Ap hcl _ _ LI.fre]
 refine wpAny_evalAll_cons (UX (Gs I1 LI.mem tab code LI.qual hclo LI.deft λfa c' oq H2 s2 ctv pm I2 ext gf nf zf zq co=>UX (W2 (U9 ?_))));refine wpAny_evalAll_nil ?_;show wpAny (model X.prog X.w) X.A (call (.builtin "sorted") [u1] [(Str.ofString "key",.ref fa)]) _ _ s2;have nfa:RE X gV fa:=I1.newer zf;generalize hfo:kla_obj "<lambda>" (tZ x) pr bd sc [(y,c)] pm c' ctv=fo at gf;have I3:Qi X gV σ (Qa H2 fa (.frz fo (.own fa))) s2:=I2.track nf nfa.s0 nfa.loc nfa.cel nfa.pin ⟨gf,_,gf⟩;have up3:∀b o,H2 b=some o->Qa H2 fa (.frz fo (.own fa)) b=some o:=λb o z=>by rw[ax (bf z nf)];exact z
 have E3:=(E1.exten ext).exten up3;obtain⟨_,e5,ra⟩:=E3.head_d;cases e5;have E4:=E3.tail;obtain⟨sv,hsl,v',rfl,rd⟩:=E4.slot qi
 cases ra with
 | lst hz rs =>
  have evs:=pJ rs;subst evs;cases rv1;obtain⟨its,r',pl,hzz⟩:=I3.list hz.l;have hi:=Ae r';have p4:=hi.length;refine BG (kz:=ns.map g) I3 pl.isList (by rw[U4];exact p4.symm) xL (λkS a nk na j v kv hv hkv s' J=>?_) λa s' out cc na J ga ko=>?_
  .
   obtain⟨H',I',up,n1,n2,⟨ok1,gk1⟩,⟨ok2,gk2⟩⟩:=J;have hj:j<ns.length:=by have:=(U1.mp hkv).1;simpa using this
   have ekv:kv=g ns[j]:=by rw[Vf,tu hj]at hkv;exact(Vq hkv).symm
   obtain⟨en,ev⟩:=uW hi;obtain⟨tv,hv2⟩:=ev v (List.mem_of_getElem? hv)
   have ejn:uf v=ns[j]:=by
    have:(its.map uf)[j]?=ns[j]?:=by rw[en]
    rw[Vf,hv,tu hj]at this;simpa using this
   obtain⟨m,_,hloc⟩:=I'.loc;obtain⟨u',rv',lk⟩:=hloc i y v' LI.at_i hsl (.inr (.inl LI.cel))
   obtain⟨oc,gc,dc⟩:s'.heap.IsCell c (some u'):=by
    rcases lk with⟨z,_⟩|⟨_,c2,e2,z⟩
    . rw[show X.env.kindOf y=some .cell from LI.cel]at z;cases z
    . rw[hcl]at e2;cases e2;exact z
   have nc:H' c=none:=(I'.freeC y c hcl).resolve_right λz=>by rw[LI.fn]at z;exact absurd z.1 x_
   have la:MG X.K H' s'.heap fa x dv:=by refine⟨c,c',oc,oq,y,pr,bd,sc,pos,pm,ctv,u',v',LI.lam,?_,(I'.hok c' _ (up _ _ (up3 _ _ zq))).1,co,gc,.inl nc,dc,rv',hm',rd.pres λb o _ z=>up b o z⟩;rw[hfo];exact(I'.hok fa _ (up _ _ aW)).1
   have rr:gI k X.A.in1.in1:=gI.in1 (gI.in1 (hr.mono (j:=k+2) hk));have hfs:=hkey ns[j] (U3 hj);refine Xe (codeAny_mono (LO.run X.A.in1.in1 X.stack s' H' fa v (.int ns[j]) (.int ns[j]) dv (λz=>z=.int (g ns[j])) rr I'.env0.in1.in1 ⟨tv,by rw[hv2,ejn]⟩ (.int _) la hfs) λres s'' hres=>?_)
   cases res with
   |error ee=>exact(show False from hres).elim
   | ok fl =>
    cases fl with
    | ret u2 =>
     obtain⟨v3,H3,os,bare,un,hok,rv3,ext3,z,rz,pz⟩:=hres;subst pz;cases rz;obtain⟨t3,rfl⟩:=rv3;have I4:Qi X gV σ H3 s'':=I'.call' (ch:=[]) os un hok bare (λb z=>absurd z v6);have kk1:∀o,s'.heap.get? kS=some o->s''.heap.get? kS=some o:=λo z=>un.keep kS o z n1 (nk.nofs I') v6;have kk2:∀o,s'.heap.get? a=some o->s''.heap.get? a=some o:=λo z=>un.keep a o z n2 (na.nofs I') v6;exact⟨t3,by rw[ekv],⟨H3,I4,λb o z=>ext3 b o (up b o z),un.free kS ok1 gk1 n1 v6,un.free a ok2 gk2 n2 v6,⟨ok1,kk1 _ gk1⟩,⟨ok2,kk2 _ gk2⟩⟩,kk1,kk2⟩
    |next=>exact False.elim hres
    |brk=>exact False.elim hres
    |cont=>exact False.elim hres
  .
   obtain⟨H',I',up,n2⟩:=J;obtain⟨op,os,ov⟩:=Gv hi ko;have lo:(out.toList.map uf).length=ns.length:=op.length_eq;have I5:Qi X gV σ (Qa H' a (.lst ((out.toList.map uf).map V.int))) s':=by refine I'.track n2 na.s0 na.loc na.cel na.pin ⟨?_,out.toList,cc,ov,by simpa using ga⟩;rw[U4,lo];exact U8 (Xa h64) x_
   exact⟨.ref a,_,.own a ((out.toList.map uf).map .int),Z1,I5,rfl,(E4.exten up).cons_own n2 (nq _),q1 a _ op os⟩
end
theorem MM{P:Program}{w:World}{K:Frag}{mg:Str->Option Value}{base:Heap}{x qual:Str}{st:Stmt}{f:Addr}{fd:FuncData}{N ps:List Str}{k:Nat}{fs:FS}(F:QS K x qual st f fd)(S:az N ps (aq st))(t:W Fl)
  (hbody:∀(cdv:Value)(A:Around)(outer:List Env)(s:Shared)(H:Hp)(E:XK),fd.code=cdv->gI k (A.deeper (envOfC qual (aq st) s.heap.objs.size f cdv))->QW (Fd CX0 P w K mg base N qual (aq st) f cdv A outer s H E).nox (de st) t)
  (h:∀ls so,ls.length=ps.length->fs ls so->t (ls++List.replicate (N.length-ps.length) .un) (aP ls so)):FnOk P w K mg base CX0 (k+1) f fd ps (spF K ps.length fs):=by
 obtain⟨oc,od,kV,doc,pm,an,cdv,ct,osl,rfl,lk,hcd⟩:=F.ex;refine IH lk hcd S (λvs H Q E q=>q.1) λA outer s H vs Q E hr q=>?_;obtain⟨hl,Pr,ls,so,E0,hf,q⟩:=q;refine⟨_,(hbody cdv A outer s H E rfl hr).pss.nox,bE H ls,ls++List.replicate (N.length-ps.length) .un,aP ls so,?_,h ls so (by rw[<- hl];have:=E0.len;simpa using this.symm) hf,λσ' H' Z' E' p=>?_,λ_ _ _ _ p=>p.elim,λ_ _ _ _ p=>p.elim,λv τ H' r Z' E' p=>?_⟩
 . unfold om;rw[hl];exact E0.wide.uns _
 . obtain⟨ls',B,p⟩:=p;exact q .non H' (.d .non) ls' (qm E0 (E'.cons_d .non) B) p
 . obtain⟨ls',B,p⟩:=p;exact q v H' r ls' (qm E0 E' B) p
end L2
namespace L2
open PySem PySem.W
section
variable{X:Cx}{es:List Expr}{pos:Pos}
def JY(i:Nat)(t:W (List L)):W L:=λZ so=>t Z λls Z1=>ls.length<=sizeLine/\ls[0]?=some .un/\K3 Z1[i]? i Z1 λl Z2=>(∃a ys,l=.own a ys)/\so (.bx none (l::ls.tail)) Z2
theorem JZ {x1} (i:Nat) {bs:List (Option Nat)} {t:W (List L)} (h:QV X es (some i::bs) t):PL X (.Tuple es x1 pos) (JY i t):=by
 intro gV s σ H Pr Z so I E hq;refine wpAny_Tuple_spliced (Qk (h pos gV s σ H Pr Z _ I E hq) λus s1 ⟨vs,H1,ls,Z1,I1,r,hl,hb,E1,hv,z,z0,q⟩=>?_);refine⟨by rw[<- r.length,hl];exact z,?_⟩
 cases qi:Z1[i]? with
 |none=>rw[qi]at q;exact q.elim
 |some l =>
 rw[qi]at q
 cases l with
 |un=>exact q.elim
 |dic _ _=>exact q.elim
 |d y=>obtain⟨⟨_,_,z⟩,_⟩:=q;cases z
 |bx _ _=>obtain⟨⟨_,_,z⟩,_⟩:=q;cases z
 |own a ys =>
 obtain⟨_,q⟩:=q;obtain⟨_,v,hv1,hv2⟩:=hv 0 i rfl
 cases ls with
 |nil=>cases z0
 |cons l ls =>
 cases vs with
 |nil=>simp at hl
 |cons w vs =>
 have hl':vs.length=ls.length:=by simpa using hl
 have E2:aA X.K Pr H1 (vs.map some++σ) (ls++Z1):=aA.tail (v:=some w) (l:=l) E1;have qi2:(ls++Z1)[ls.length+i]?=some (.own a ys):=by rw[Vr (WN _ _),Vw];exact qi
 have wv:w=v:=by simpa using hv1
 subst wv;have hs2:(vs.map some++σ)[ls.length+i]?=some (some w):=by rw[Vr (by rw[U4,hl'];exact WN _ _),U4,hl',Vw];exact hv2
 have E3:=E2.outL qi2 hs2;rw[WT _ _ (WN _ _),Vw]at E3;have hf:H1 s1.heap.objs.size=none:=I1.hok.fresh (Vb _);have E4:aA X.K Pr (Qa H1 s1.heap.objs.size (.tup (w::vs))) ((w::vs).map some++σ) ((.own a ys::ls)++Z1.set i .un):=aA.new E3 hf;have hl2:(w::vs).length=(L.own a ys::ls).length:=by simpa using hl'
 refine⟨.ref s1.heap.objs.size,Qa H1 s1.heap.objs.size (.tup (w::vs)),_,Z1.set i .un,I1.laid (t':=s1.toks) (λb u e=>UY _ e) (Vb _) ?_,rfl,E4.closeT hl2 (Qo.of aW),q⟩;exact⟨by rw[hl];exact z,us,r,⟨_,Vn _ rfl,rfl,_,rfl⟩⟩
end
end L2
namespace L2
open PySem PySem.Spec PyProof.Rows PySem.SeqAt
structure O1 (d:D):Prop where
 ok:RP d=true
 sh:dY d=true
 dp:(Q9 d).depth<=40
 sg:Ff d<=16777216
theorem O1.len{d:D}(h:O1 d):(Q9 d).shown.length<=sizeLine:=by
 have e:sizeLine=16777216:=by decide
 rw[e];exact U8 (Dt d (qU d h.ok h.sh)) h.sg
end L2
namespace L2
open PySem PySem.Spec PyProof.Rows
def RS(o q:Option L)(i j:Nat)(t:W L)(Z:Ev)(so:L->Ev->Prop):Prop:=match o,q with
 |some (.own _ xs),some (.own b _)=>i≠j/\d9 i Z=true/\t (Z.set i (.d (.lst xs))) λr Z'=>lH r=true/\∃zs,uS zs=true/\Z'=(Z.set i (.d (.lst xs))).set j (.own b zs)/\so r (Z.set j (.own b zs))
 |_,_=>False
theorem J1(a b:Addr)(xs ys:List D)(i j:Nat)(t:W L)(Z:Ev)(so:L->Ev->Prop):RS (some (.own a xs)) (some (.own b ys)) i j t Z so=(i≠j/\d9 i Z=true/\t (Z.set i (.d (.lst xs))) λr Z'=>lH r=true/\∃zs,uS zs=true/\Z'=(Z.set i (.d (.lst xs))).set j (.own b zs)/\so r (Z.set j (.own b zs))):=(rfl)
def Pz(o:Option L)(Z:Ev)(so:Bool->Ev->Prop):Prop:=match o with
 |some (.d (.lst xs))=>so (!xs.isEmpty) Z
 |_=>False
theorem Gx(xs:List D)(Z:Ev)(so:Bool->Ev->Prop):Pz (some (.d (.lst xs))) Z so=so (!xs.isEmpty) Z:=(rfl)
end L2
namespace HT
open PySem PySem.Spec PyProof.Rows
end HT
namespace L2
open PySem PySem.Spec PyProof.Rows
end L2
namespace L2
open PySem PySem.Spec PyProof.Rows PySem.W
end L2
namespace L2
open PySem PySem.Spec PyProof.Rows PySem.SeqAt
end L2
namespace PySem
open PySem.Spec
namespace F
end F
end PySem
namespace L2
open PySem PySem.Spec PyProof.Rows PySem.W
section
variable{key:Nat->Int}{n:Nat}{I:Shared->Prop}{cmp:Nat->Nat->(Bool->Shared->Prop)->Shared->Prop}
def Om(I:Shared->Prop)(cmp:Nat->Nat->(Bool->Shared->Prop)->Shared->Prop){α:Type}(t:KasT α)(P:α->Prop):Prop:=∀(Q:α->Shared->Prop)(s:Shared),I s->(∀a s',I s'->P a->Q a s')->t.kasWp cmp Q s
def P6(key:Nat->Int)(n:Nat)(I:Shared->Prop)(cmp:Nat->Nat->(Bool->Shared->Prop)->Shared->Prop):Prop:=∀(i j:Nat)(C:Bool->Shared->Prop)(s:Shared),i<n->j<n->i≠j->I s->(∀s',I s'->C (decide (key i<key j)) s')->cmp i j C s
noncomputable def kk(key:Nat->Int)(p:Array Nat)(i:Nat):Int:=key (p.getD i 0)
structure MN (n:Nat) (p:Array Nat):Prop where
 sz:p.size=n
 pm:p.toList.Perm (List.range n)
theorem MN.lt{p:Array Nat}(g:MN n p){i:Nat}(h:i<n):p.getD i 0<n:=by
 have hs:i<p.size:=by rw[g.sz];exact h
 have e:p.getD i 0=p[i]:=by simp[Array.getD,hs]
 rw[e];exact Vl.mp (g.pm.mem_iff.mp (by rw[<- Array.getElem_toList];exact U3 _))
theorem Om.mono{α:Type}{t:KasT α}{P R:α->Prop}(h:Om I cmp t P)(hr:∀a,P a->R a):Om I cmp t R:=λQ s hI hq=>h Q s hI λa s' hI' ha=>hq a s' hI' (hr a ha)
end
end L2
namespace L2
open PySem
theorem dJ{g:Tg}{b:W Fl}{so:Fl->Ev->Prop}:∀(xs:List D)(I:Nat->Ev->Prop)(Z:Ev),I 0 Z ->
  (∀j x Z,xs[j]?=some x->I j Z->∀Q:Fl->Ev->Prop,(∀Z',I (j+1) Z'->Q .nx Z')->(∀Z',I (j+1) Z'->Q .ct Z')->(∀Z',so .nx Z'->Q .bk Z')->(∀r Z',so (.rt r) Z'->Q (.rt r) Z')->g x Z λZ1=>b Z1 Q) ->
  (∀Z,I xs.length Z->so .nx Z)->dh g b xs Z so
 |[],I,Z,h0,_,Qm=>Qm Z h0
 | x::xs,I,Z,h0,step,Qm=>by
  unfold dh;refine step 0 x Z rfl h0 _ (λZ' h=>?_) (λZ' h=>?_) (λZ' h=>h) (λr Z' h=>h)
  . exact dJ xs (λj=>I (j+1)) Z' h (λj y Z e hi=>step (j+1) y Z e hi) Qm
  . exact dJ xs (λj=>I (j+1)) Z' h (λj y Z e hi=>step (j+1) y Z e hi) Qm
theorem gL{α:Type}{enc:α->D}{g:Tg}{b:W Fl}{so:Fl->Ev->Prop}(as:List α)(I:List α->Ev->Prop)(Z:Ev)(h0:I [] Z)
  (step:∀pre a suf Z,as=pre++a::suf->I pre Z->∀Q:Fl->Ev->Prop,(∀Z',I (pre++[a]) Z'->Q .nx Z')->(∀Z',I (pre++[a]) Z'->Q .ct Z')->(∀Z',so .nx Z'->Q .bk Z')->(∀r Z',so (.rt r) Z'->Q (.rt r) Z')->g (enc a) Z λZ1=>b Z1 Q)
  (Qm:∀Z,I as Z->so .nx Z):dh g b (as.map enc) Z so:=by
 refine dJ _ (λj Z=>I (as.take j) Z) Z h0 (λj x Z e hi Q h1 h2 h3 h4=>?_) λZ h=>Qm Z (by simpa using h);rw[Vf]at e
 cases ea:as[j]? with
 |none=>rw[ea]at e;cases e
 | some a =>
  rw[ea]at e;cases e;obtain⟨hj,ea'⟩:=U1.mp ea;have es:as.take (j+1)=as.take j++[a]:=by rw[List.take_succ,ea];rfl
  have ed:as=as.take j++a::as.drop (j+1):=by have:=(List.take_append_drop j as).symm;rw[VD hj,ea']at this;exact this
  rw[es]at h1 h2;exact step _ a _ Z ed hi Q h1 h2 h3 h4
theorem j8{α:Type}{enc:α->D}{h:α->Option D}{caps:Ev}{ti:W Bool}{te:W L}{k:List D->Ev->Prop}:∀(as:List α)(acc:List D)(l:L),
  (∀a∈as,∀Q:Ev->Option D->Prop,Q (.d (enc a)::caps) (h a)->ti (.d (enc a)::caps) λb Z2=>if b=true then te Z2 λr Z3=>QX r λy=>Q Z3 (some y)else Q Z2 none) ->
  (∀l',k (acc++as.filterMap h) (l'::caps))->fh (bp 0) ti te (as.map enc) (l::caps) acc k
 |[],acc,l,_,Qm=>by have:=Qm l;simpa[fh]using this
 | a::as,acc,l,step,Qm=>by
  show fh (bp 0) ti te (enc a::as.map enc) (l::caps) acc k;unfold fh;show ti (.d (enc a)::caps) _
  refine step a UZ (λZ o=>match o with|some y=>fh (bp 0) ti te (as.map enc) Z (acc++[y]) k|none=>fh (bp 0) ti te (as.map enc) Z acc k) ?_
  cases e:h a with
  |none=>exact j8 as acc _ (λb hb=>step b (UW _ hb)) (by simpa[V6,e]using Qm)
  |some y=>exact j8 as (acc++[y]) _ (λb hb=>step b (UW _ hb)) (by simpa[V6,e]using Qm)
theorem k6{α:Type}{enc:α->D}{h:α->D}{caps:Ev}{te:W L}{k:List D->Ev->Prop}(as:List α)(acc:List D)(l:L)
  (step:∀a∈as,∀Q:Ev->D->Prop,Q (.d (enc a)::caps) (h a)->te (.d (enc a)::caps) λr Z3=>QX r λy=>Q Z3 y)
  (Qm:∀l',k (acc++as.map h) (l'::caps)):fh (bp 0) ma te (as.map enc) (l::caps) acc k:=by
 refine j8 (h:=λa=>some (h a)) as acc l (λa ha Q q=>?_) (by simpa using Qm);simp only[ma,W5];exact step a ha (λZ y=>Q Z (some y)) q
theorem oG{α:Type}{e1 e2:α->D}{h:α->Option D}{caps:Ev}{ti:W Bool}{te:W L}{k:List D->Ev->Prop}:∀(as:List α)(acc:List D)(l m:L),
  (∀a∈as,∀Q:Ev->Option D->Prop,Q (.d (e1 a)::.d (e2 a)::caps) (h a)->ti (.d (e1 a)::.d (e2 a)::caps) λb Z2=>if b=true then te Z2 λr Z3=>QX r λy=>Q Z3 (some y)else Q Z2 none) ->
  (∀l' m',k (acc++as.filterMap h) (l'::m'::caps))->fh (eX [0,1]) ti te (as.map λa=>D.tup [e1 a,e2 a]) (l::m::caps) acc k
 |[],acc,l,m,_,Qm=>by have:=Qm l m;simpa[fh]using this
 | a::as,acc,l,m,step,Qm=>by
  show fh (eX [0,1]) ti te (D.tup [e1 a,e2 a]::as.map λa=>D.tup [e1 a,e2 a]) (l::m::caps) acc k;unfold fh;show ti (.d (e1 a)::.d (e2 a)::caps) _
  refine step a UZ (λZ o=>match o with|some y=>fh (eX [0,1]) ti te (as.map λa=>D.tup [e1 a,e2 a]) Z (acc++[y]) k|none=>fh (eX [0,1]) ti te (as.map λa=>D.tup [e1 a,e2 a]) Z acc k) ?_
  cases e:h a with
  |none=>exact oG as acc _ _ (λb hb=>step b (UW _ hb)) (by simpa[V6,e]using Qm)
  |some y=>exact oG as (acc++[y]) _ _ (λb hb=>step b (UW _ hb)) (by simpa[V6,e]using Qm)
theorem qV{α:Type}{e1 e2:α->D}{h:α->D}{caps:Ev}{te:W L}{k:List D->Ev->Prop}(as:List α)(acc:List D)(l m:L)
  (step:∀a∈as,∀Q:Ev->D->Prop,Q (.d (e1 a)::.d (e2 a)::caps) (h a)->te (.d (e1 a)::.d (e2 a)::caps) λr Z3=>QX r λy=>Q Z3 y)
  (Qm:∀l' m',k (acc++as.map h) (l'::m'::caps)):fh (eX [0,1]) ma te (as.map λa=>D.tup [e1 a,e2 a]) (l::m::caps) acc k:=by
 refine oG (h:=λa=>some (h a)) as acc l m (λa ha Q q=>?_) (by simpa using Qm);simp only[ma,W5];exact step a ha (λZ y=>Q Z (some y)) q
theorem yG{α:Type}{x:α}{xs:List α}:QH (x::xs) 0=some x:=hJ (j:=0) rfl
theorem yH{α:Type}{x y:α}{xs:List α}:QH (x::y::xs) 1=some y:=hJ (j:=1) rfl
theorem Gy{α:Type}{x y z:α}{xs:List α}:QH (x::y::z::xs) 2=some z:=hJ (j:=2) rfl
theorem MO{α:Type}{x y z w:α}{xs:List α}:QH (x::y::z::w::xs) 3=some w:=hJ (j:=3) rfl
theorem On{α:Type}{x y z w v:α}{xs:List α}:QH (x::y::z::w::v::xs) 4=some v:=hJ (j:=4) rfl
theorem MP{α:Type}{xs:List α}{i:Int}{x:α}(h0:0<=i)(h:xs[i.toNat]?=some x):QH xs i=some x:=by have:=hJ h;rwa [Int.toNat_of_nonneg h0]at this
theorem aR{α:Type}{f:α->D}{xs:List α}{k:Nat}(h:k<xs.length):QH (xs.map f) (k:Int)=some (f xs[k]):=hJ (by rw[Vf,tu h];rfl)
theorem PD:QG 3 0=some 0:=by decide
theorem PF:QG 3 1=some 1:=by decide
theorem PH:QG 3 2=some 2:=by decide
theorem gM(n:Nat):sV 0 n=(List.range n).map λ(i:Nat)=>D.int (i:Int):=by unfold sV;simp
theorem Aq{g:Tg}{b:W Fl}{so:Fl->Ev->Prop}(lo:Int)(n:Nat)(I:Nat->Ev->Prop)(Z:Ev)(h0:I 0 Z)
  (step:∀j Z,j<n->I j Z->∀Q:Fl->Ev->Prop,(∀Z',I (j+1) Z'->Q .nx Z')->(∀Z',I (j+1) Z'->Q .ct Z')->(∀Z',so .nx Z'->Q .bk Z')->(∀r Z',so (.rt r) Z'->Q (.rt r) Z')->g (.int (lo+(j:Int))) Z λZ1=>b Z1 Q)
  (Qm:∀Z,I n Z->so .nx Z):dh g b (sV lo n) Z so:=by
 have hl:(sV lo n).length=n:=by simp[sV]
 refine dJ _ I Z h0 (λj x Z hj hi Q h1 h2 h3 h4=>?_) λZ h=>Qm Z (by rwa [hl]at h);have hj':j<n:=by rw[<- hl];exact(U1.mp hj).1
 have e:x=.int (lo+(j:Int)):=by unfold sV at hj;rw[Vf,WH hj']at hj;exact(Vq hj).symm
 subst e;exact step j Z hj' hi Q h1 h2 h3 h4
theorem Dw{g:Tg}{b:W Fl}{so:Fl->Ev->Prop}(n:Nat)(I:Nat->Ev->Prop)(Z:Ev)(h0:I 0 Z)
  (step:∀j Z,j<n->I j Z->∀Q:Fl->Ev->Prop,(∀Z',I (j+1) Z'->Q .nx Z')->(∀Z',I (j+1) Z'->Q .ct Z')->(∀Z',so .nx Z'->Q .bk Z')->(∀r Z',so (.rt r) Z'->Q (.rt r) Z')->g (.int (j:Int)) Z λZ1=>b Z1 Q)
  (Qm:∀Z,I n Z->so .nx Z):dh g b (sV 0 n) Z so :=
 Aq 0 n I Z h0 (λj Z hj hi Q h1 h2 h3 h4=>by rw[Int.zero_add];exact step j Z hj hi Q h1 h2 h3 h4) Qm
theorem bV{i:Int}(h:i.natAbs<2^200):cT i:=U2 h (Vg x_ x_)
theorem nC(x:Int){m:Int}(h:0<m):0<=x.fmod m/\x.fmod m<m:=by rw[V0 _ xL];exact⟨Int.emod_nonneg _ xL,Int.emod_lt_of_pos _ h⟩
theorem yI{i:Int}{n:Nat}(h0:0<=i)(h:i<2^n)(hn:n<=1000000):cT i:=by
 have:i.natAbs<2^n:=by
  have e:((2^n:Nat):Int)=(2:Int)^n:=by simp
  omega
 exact U2 this (Vg x_ hn)
theorem Oo:(10:Int)^60<2^200:=by decide
theorem wZ{i:Int}(h0:0<=i)(h:i<=10^60):i.natAbs<2^9000:=by
 have:i.natAbs<2^200:=by
  have:=Oo;have e:((2^200:Nat):Int)=(2:Int)^200:=by decide
  omega
 exact U2 this (Vg x_ x_)
theorem RB.sub{m n:Nat}{p q:Rat}(hp:RB m p)(hq:RB n q):RB (m+n+1) (p-q):=by rw[Wa];exact hp.add hq.neg
theorem HS(p q:Rat):Rat.divInt (p.num*q.num) ((p.den:Int)*(q.den:Int))=p*q:=by rw[<- Wh,VE,VE]
theorem RB.of_divInt{t b:Int}{n:Nat}(h:b≠0)(ht:t.natAbs<2^n)(hb:b.natAbs<2^n):RB n (Rat.divInt t b):=⟨Ve (HP h) ht,Ve (C5 h) hb⟩
theorem oH(p q:Rat):((p.den:Int)*(q.den:Int))≠0:=by have dp:=den_pos p;have dq:=den_pos q;exact Xd xL xL
theorem k7(p q:Rat):((p.den:Int)*(q.den:Int)).natAbs=p.den*q.den:=by rw[Wj,Vj,Vj]
theorem RB.mul{m n:Nat}{p q:Rat}(hp:RB m p)(hq:RB n q):RB (m+n) (p*q):=by rw[<- HS];exact RB.of_divInt (oH p q) (by rw[Wj];exact bo hp.1 hq.1) (by rw[k7];exact bo hp.2 hq.2)
theorem yJ(q:Rat):(q.den:Int)≠0:=by have:=den_pos q;omega
theorem RB.zero:RB 1 0:=⟨x_,x_⟩
theorem MQ(p q:Rat):decide (p.num*(q.den:Int)<q.num*(p.den:Int))=decide (p<q):=by rw[WM,Rat.lt_iff]
structure RT where
 nm:Str
 one:Nat
 other:Nat
 size:Rat
structure aL where
 rooms:List Rat
 asks:List RT
noncomputable def aL.n(R:aL):Nat:=R.rooms.length
noncomputable def iy(a:RT):D:=.tup [.str a.nm,.int a.one,.int a.other,Rl a.size]
noncomputable def aH(R:aL):D:=.tup [.lst (R.rooms.map Rl),.lst (R.asks.map iy)]
theorem Dx(q:Rat):(q.num:Rat)=q*(q.den:Rat):=by
 have h:=VE q;have hd:(q.den:Rat)≠0:=λw=>by have:=Rat.natCast_pos.mpr q.den_pos;rw[w]at this;exact absurd this x_
 rw[Rat.divInt_eq_div]at h;have e:(((q.den:Nat):Int):Rat)=(q.den:Rat):=rfl;rw[e]at h;have e2:q*(q.den:Rat)=(q.num:Rat) / (q.den:Rat)*(q.den:Rat):=by rw[h]
 rw[e2,Rat.div_mul_cancel hd]
theorem Dy{q:Rat}{V:Nat}(h0:0<=q)(hv:q<(V:Rat)):q.num.natAbs<V*q.den:=by
 have hd:(0:Rat)<(q.den:Rat):=Rat.natCast_pos.mpr q.den_pos;have h1:q*(q.den:Rat)<(V:Rat)*(q.den:Rat):=Rat.mul_lt_mul_of_pos_right hv hd;rw[<- Dx]at h1
 have h2:((q.num:Int):Rat)<(((V*q.den:Nat):Int):Rat):=by
  have e:(((V*q.den:Nat):Int):Rat)=(V:Rat)*(q.den:Rat):=by push_cast;rfl
  rw[e];exact h1
 have h3:q.num<((V*q.den:Nat):Int):=Rat.intCast_lt_intCast.mp h2;have h4:0<=q.num:=Rat.num_nonneg.mpr h0;omega
theorem RB.of_val{q:Rat}{d v:Nat}(h0:0<=q)(hd:q.den<2^d)(hv:q<((2^v:Nat):Rat)):RB (v+d) q:=by refine⟨U2 (Dy h0 hv) ?_,U2 hd (Vg x_ xL)⟩;rw[Nat.pow_add];exact Nat.mul_le_mul_left _ (Xa hd)
structure jJ (n:Nat) (a:RT):Prop where
 one:a.one<n
 other:a.other<n
 ne:a.one≠a.other
 size:0<=a.size
 lt:a.size<((2^300:Nat):Rat)
 nm:PyData.strOk a.nm=true
structure aL.Ok (R:aL):Prop where
 lo:2<=R.n
 hi:R.n<=12
 few:R.asks.length<=20
 room:∀q∈R.rooms,0<q/\RB 60 q
 ask:∀a∈R.asks,jJ R.n a
 cd:∃D:Nat,0<D/\D<2^1240/\∀a∈R.asks,a.size.den∣D
theorem aL.Ok.rb{R:aL}(h:R.Ok){a:RT}(ha:a∈R.asks):RB 1540 a.size:=by obtain⟨D,d0,d1,hd⟩:=h.cd;exact RB.of_val (v:=300) (d:=1240) (h.ask a ha).size (Ve (Wy d0 (hd a ha)) d1) (h.ask a ha).lt
theorem qu{α:Type}{n:Nat}{f:α->D}:∀xs:List α,(∀x∈xs,Rm n (f x)=true)->sW n (xs.map f)=true
 |[],_=>rfl
 |x::xs,h=>by simp[sW,h x UZ,qu xs λy hy=>h y (UW _ hy)]
theorem Dz(n:Nat)(q:Rat):Rm (n+1) (Rl q)=true:=by cases n<;>simp[Rl,Rm,sW]
theorem J2{n:Nat}{a:RT}(h:jJ n a):Rm 2 (iy a)=true:=by simp[iy,Rm,sW,h.nm,Dz]
theorem Gz{R:aL}(h:R.Ok):Rm 4 (aH R)=true:=by simp only[aH,Rm,sW,Bool.and_true,U7];exact⟨qu _ λq _=>Dz 1 q,qu _ λa ha=>J2 (h.ask a ha)⟩
theorem Ar:∀(as bs:List Rat),PyData.eqvAll (ff (as.map Rl)) (ff (bs.map Rl))=decide (as=bs)
 |[],[]=>by simp[uP]
 |[],b::bs=>by simp[ff,PyData.eqvAll]
 |a::as,[]=>by simp[ff,PyData.eqvAll]
 | a::as,b::bs=>by rw[Vo,Vo,j5,Ar as bs,uc];simp
theorem J3(as bs:List Rat):Ra (.lst (as.map Rl)) (.lst (bs.map Rl))=decide (as=bs):=by rw[Jv,Ar]
theorem qW(qs:List Rat):fH (.lst (qs.map Rl)):=nr (n:=2) (by simp only[Rm];exact qu _ λq _=>Dz 0 q) x_
def ye(xs:List D):Prop:=∃(c sd:Int)(t:Bool),xs=[.int c,.int sd,.bl t]/\0<=sd/\sd<2147483647
theorem As{t b g:Int}(h:b≠0)(e:g=cN t b):D.tup [.int (t.fdiv g),.int (b.fdiv g)]=Rl (Rat.divInt t b):=by subst e;rw[C4 h,Jt h];rfl
noncomputable def MR(qs:List Rat):Nat:=(qs.map (·.den)).foldr (·*·) 1
theorem Au:∀qs:List Rat,0<MR qs
 |[]=>Nat.one_pos
 |a::t=>Nat.mul_pos (den_pos a) (Au t)
noncomputable def gN(qs:List Rat):Rat:=qs.foldl (·+·) 0
theorem DA(qs:List Rat):∀acc:Rat,qs.foldl (·+·) acc=acc+gN qs:=by
 unfold gN
 induction qs with
 |nil=>intro acc;simp[Rat.add_zero]
 |cons q qs ih=>intro acc;rw[List.foldl_cons,List.foldl_cons,ih,ih (0+q),Rat.zero_add,Rat.add_assoc]
theorem aT(q:Rat)(qs:List Rat):gN (q::qs)=q+gN qs:=by show(q::qs).foldl (·+·) 0=_;rw[List.foldl_cons,DA,Rat.zero_add]
theorem qv(as bs:List Rat):gN (as++bs)=gN as+gN bs:=by
 induction as with
 |nil=>rw[Wk];show _=(0:Rat)+_;rw[Rat.zero_add]
 |cons a as ih=>rw[W8,aT,aT,ih,Rat.add_assoc]
theorem GA(qs:List Rat):gN (qs.map λq=>-q)=-gN qs:=by
 induction qs with
 |nil=>show(0:Rat)=-0;simp
 |cons q qs ih=>rw[Vo,aT,aT,ih,Rat.neg_add]
theorem uX{α β:Type}(f:α->β)(xs:List α)(l u:Option Int):t9 (xs.map f) l u=(t9 xs l u).map f:=by unfold t9;rw[U4,<- List.map_drop,<- List.map_take]
theorem GB{xs:List D}{i:Int}{k:L->Prop}:aJ (.lst xs) (.int i) k=∃v,QH xs i=some v/\k (.d v):=rfl
theorem GC{xs:List D}{i:Int}{k:L->Prop}:aJ (.tup xs) (.int i) k=∃v,QH xs i=some v/\k (.d v):=rfl
theorem GD{z:Str}{i:Int}{k:L->Prop}:aJ (.str z) (.int i) k=(z.length<=sizeLine/\∃c,QH z.cps.toList i=some c/\k (.d (.str ⟨#[c]⟩))):=rfl
theorem GE{R:aL}{k:L->Prop}:aJ (aH R) (.int 0) k=k (.d (.lst (R.rooms.map Rl))):=by show(∃v,QH _ _=some v/\_)=_;simp only[yG,Vz,V4]
theorem GF{R:aL}{k:L->Prop}:aJ (aH R) (.int 1) k=k (.d (.lst (R.asks.map iy))):=by show(∃v,QH _ _=some v/\_)=_;simp only[yH,Vz,V4]
theorem J4{a:RT}{k:L->Prop}:aJ (iy a) (.int 0) k=k (.d (.str a.nm)):=by show(∃v,QH _ _=some v/\_)=_;simp only[yG,Vz,V4]
theorem J5{a:RT}{k:L->Prop}:aJ (iy a) (.int 1) k=k (.d (.int a.one)):=by show(∃v,QH _ _=some v/\_)=_;simp only[yH,Vz,V4]
theorem J6{a:RT}{k:L->Prop}:aJ (iy a) (.int 2) k=k (.d (.int a.other)):=by show(∃v,QH _ _=some v/\_)=_;simp only[Gy,Vz,V4]
theorem J7{a:RT}{k:L->Prop}:aJ (iy a) (.int 3) k=k (.d (Rl a.size)):=by show(∃v,QH _ _=some v/\_)=_;simp only[MO,Vz,V4]
theorem MS{q:Rat}{k:L->Prop}:aJ (Rl q) (.int 0) k=k (.d (.int q.num)):=by show(∃v,QH _ _=some v/\_)=_;simp only[yG,Vz,V4]
theorem MT{q:Rat}{k:L->Prop}:aJ (Rl q) (.int 1) k=k (.d (.int (q.den:Int))):=by show(∃v,QH _ _=some v/\_)=_;simp only[yH,Vz,V4]
theorem HU(q:Rat):Rp (Rl q)=true:=by simp[Rl,Rp,uS]
theorem qw{α:Type}{f:α->D}:∀(xs:List α),(∀x∈xs,Rp (f x)=true)->uS (xs.map f)=true
 |[],_=>rfl
 |x::xs,h=>by simp[uS,h x UZ,qw xs λy hy=>h y (UW _ hy)]
theorem Av(qs:List Rat):uS (qs.map Rl)=true:=qw _ λq _=>HU q
theorem DB{α:Type}(f:α->Int)(xs:List α):uS (xs.map λx=>D.int (f x))=true:=qw _ λ_ _=>rfl
theorem DC(R:aL):R.rooms.length=R.n:=rfl
noncomputable def fK(w:Bool):Str:=if w then "on" else "back"
theorem Aw:fH (.str "on"):=nr (n:=0) y_ x_
theorem ug:fH (.str "back"):=nr (n:=0) y_ x_
theorem cV(w:Bool):fH (.str (fK w)):=by
 cases w
 . exact ug
 . exact Aw
theorem MU(w:Bool):(fK w="on")=(w=true):=by cases w <;> simp[fK] <;> decide
theorem GG(w:Bool):(fK w="back")=(w=false):=by cases w <;> simp[fK] <;> decide
theorem nD{is:List Nat}{xs:List D}{Z:Ev}{k:Ev->Prop}:eX is (.tup xs) Z k=iS is xs Z k:=rfl
theorem DD{is:List Nat}{a:RT}{Z:Ev}{k:Ev->Prop}:eX is (iy a) Z k=iS is [.str a.nm,.int a.one,.int a.other,Rl a.size] Z k:=rfl
theorem GH{is:List Nat}{q:Rat}{Z:Ev}{k:Ev->Prop}:eX is (Rl q) Z k=iS is [.int q.num,.int (q.den:Int)] Z k:=rfl
theorem MV{α:Type}{xs:List α}{k:Nat}(h:k<=xs.length):t9 xs none (some (k:Int))=xs.take k:=by unfold t9 HT.sIx;simp only[if_neg (show ¬((k:Int)<0) by omega),List.drop_zero,Nat.sub_zero,VB,Nat.min_eq_left h]
theorem Ax{α:Type}{xs:List α}{k:Nat}(h:k<=xs.length):t9 xs (some (k:Int)) none=xs.drop k:=by unfold t9 HT.sIx;simp only[if_neg (show ¬((k:Int)<0) by omega),VB,Nat.min_eq_left h];rw[VU];rw[Ww];exact Vb _
theorem J8{α:Type}{xs:List α}{k:Nat}(h:k<xs.length)(x:α):t9 xs none (some (k:Int))++[x]++t9 xs (some ((k:Int)+1)) none=xs.set k x:=by
 have e:((k:Int)+1)=((k+1:Nat):Int):=by omega
 rw[e,MV xL,Ax xL,List.set_eq_take_append_cons_drop,if_pos h];simp
theorem yK{xs:List D}{k:List D->Prop}:oz (.lst xs) k=k xs:=rfl
theorem yL{xs:List D}{k:List D->Prop}:oz (.tup xs) k=k xs:=rfl
theorem BH{q:Rat}{k:List D->Prop}:oz (Rl q) k=k [.int q.num,.int (q.den:Int)]:=rfl
theorem DE{xs:List D}{k:L->Prop}:dX [.lst xs] k=k (.d (.int xs.length)):=rfl
theorem DF{xs:List D}{k:L->Prop}:dX [.tup xs] k=k (.d (.int xs.length)):=rfl
theorem DG{x:Str}{k:L->Prop}:dX [.str x] k=(x.length<=sizeLine/\k (.d (.int x.length))):=rfl
theorem GI{q:Rat}{k:L->Prop}:dX [Rl q] k=k (.d (.int 2)):=rfl
theorem BI{R:aL}{k:L->Prop}:dX [aH R] k=k (.d (.int 2)):=rfl
theorem DH{a:RT}{k:L->Prop}:dX [iy a] k=k (.d (.int 4)):=rfl
theorem yM(q:Rat):ng "tuple" (Rl q)=true:=rfl
theorem yN(q:Rat):ng "list" (Rl q)=false:=rfl
theorem yO(q:Rat):ng "int" (Rl q)=false:=rfl
theorem w4(q:Rat):ng "bool" (Rl q)=false:=rfl
theorem yP(q:Rat):ng "str" (Rl q)=false:=rfl
theorem uY(R:aL):ng "tuple" (aH R)=true:=rfl
noncomputable def RU(n:Nat)(f:Nat->Rat):List D:=(List.range n).map λ(t:Nat)=>Rl (f t)
theorem yQ(n:Nat)(f:Nat->Rat):(RU n f).length=n:=by simp[RU]
theorem Ay{n:Nat}{f:Nat->Rat}{t:Nat}(h:t<n):QH (RU n f) (t:Int)=some (Rl (f t)):=by refine hJ ?_;unfold RU;rw[Vf,WH h];rfl
theorem J9{n:Nat}{f:Nat->Rat}{t:Nat}(v:Rat):(RU n f).set t (Rl v)=RU n λs=>if s=t then v else f s:=by
 refine Wo (by simp[RU]) λj h1 h2=>?_;have e1:∀(g:Nat->Rat)(h:j<(RU n g).length),(RU n g)[j]=Rl (g j):=λg h=>by simp[RU]
 rw[List.getElem_set,e1 _ h2];by_cases hj:t=j
 . subst hj;simp
 . rw[if_neg hj,if_neg (VX hj)];exact e1 _ _
theorem MW{n:Nat}{f:Nat->Rat}{t:Nat}(h:t<n):QG (RU n f).length (t:Int)=some t:=by rw[yQ];unfold QG;rw[if_pos (by omega),if_pos (by omega),VB]
theorem Ka(n:Nat)(f:Nat->Rat):RU n f=((List.range n).map f).map Rl:=by unfold RU;rw[VM];rfl
theorem w5{n:Nat}{f g:Nat->Rat}(h:∀t,t<n->f t=g t):RU n f=RU n g:=by unfold RU;refine Ws λt ht=>?_;rw[h t (Vl.mp ht)]
theorem GJ(n:Nat)(f:Nat->Rat):uS (RU n f)=true:=by rw[Ka];exact Av _
noncomputable def yR(c:Nat×Nat):D:=.tup [.int (c.1:Int),.int (c.2:Int)]
theorem Kb{c:Nat×Nat}{k:L->Prop}:aJ (yR c) (.int 0) k=k (.d (.int c.1)):=by show(∃v,QH _ _=some v/\_)=_;simp only[yG,Vz,V4]
theorem Kc{c:Nat×Nat}{k:L->Prop}:aJ (yR c) (.int 1) k=k (.d (.int c.2)):=by show(∃v,QH _ _=some v/\_)=_;simp only[yH,Vz,V4]
theorem Kd(n:Nat)(c:Nat×Nat):Rm (n+1) (yR c)=true:=by cases n<;>simp[yR,Rm,sW]
theorem DI(c:Nat×Nat):Rp (yR c)=true:=by simp[yR,Rp,uS]
theorem DJ(c:Nat×Nat):fH (yR c):=nr (Kd 0 c) x_
theorem Ke(c d:Nat×Nat):Ra (yR c) (yR d)=decide (c=d):=by
 unfold yR;rw[C7,j5,j5,uP,qO,qO,Bool.and_true,<- Bool.decide_and,WM];constructor
 . rintro⟨h1,h2⟩;exact Prod.ext xL xL
 . rintro rfl;exact⟨rfl,rfl⟩
noncomputable def gP(g:Rat×(Nat×Nat)):D:=.tup [Rl g.1,yR g.2]
theorem Oq{g:Rat×(Nat×Nat)}{k:L->Prop}:aJ (gP g) (.int 0) k=k (.d (Rl g.1)):=by show(∃v,QH _ _=some v/\_)=_;simp only[yG,Vz,V4]
theorem Os{g:Rat×(Nat×Nat)}{k:L->Prop}:aJ (gP g) (.int 1) k=k (.d (yR g.2)):=by show(∃v,QH _ _=some v/\_)=_;simp only[yH,Vz,V4]
theorem GK(T:String):ng T .non=(T == "NoneType"):=rfl
theorem Kg(T:String)(b:Bool):ng T (.bl b)=(T == "bool" ||T == "int"):=rfl
theorem GL(T:String)(i:Int):ng T (.int i)=(T == "int"):=rfl
theorem GM(T:String)(x:Str):ng T (.str x)=(T == "str"):=rfl
theorem GN(T:String)(xs:List D):ng T (.tup xs)=(T == "tuple"):=rfl
theorem GO(T:String)(xs:List D):ng T (.lst xs)=(T == "list"):=rfl
theorem BJ(g:Rat×(Nat×Nat)):ng "tuple" (gP g)=true:=rfl
theorem w7(c:Nat×Nat):ng "tuple" (yR c)=true:=rfl
theorem w8(a:RT):ng "tuple" (iy a)=true:=rfl
theorem DK{c:Nat×Nat}{k:L->Prop}:dX [yR c] k=k (.d (.int 2)):=rfl
theorem Kh{c:Rat×(Nat×Nat)}{k:L->Prop}:dX [gP c] k=k (.d (.int 2)):=rfl
theorem DL(cs:List (Nat×Nat)):uS (cs.map yR)=true:=qw _ λc _=>DI c
end L2
namespace L2
open PySem PySem.Builtin.Str
theorem GP(x y:Str):(x++y).cps.toList=x.cps.toList++y.cps.toList:=by show(x.cps++y.cps).toList=_;simp
def qX(c:Nat):Prop:=97<=c/\c<=122
structure Fg (z:Str):Prop where
 lo:1<=z.cps.toList.length
 hi:z.cps.toList.length<=8
 let_:∀c∈z.cps.toList,qX c
theorem Fg.ok{z:Str}(h:Fg z):PyData.strOk z=true:=by unfold PyData.strOk;rw[<- Array.all_toList,VI];intro c hc;have:=h.let_ c hc;unfold qX at this;simp;omega
theorem Az{q:Rat}(h:RB 60 q):q<((2^300:Nat):Rat):=by
 have h1:=Dx q;have hd:(1:Rat)<=(q.den:Rat):=by have:=q.den_pos;exact_mod_cast this
 have h2:(q.num:Rat)<((2^300:Nat):Rat):=by
  have h3:q.num<((2^300:Nat):Int):=by have:=U2 h.1 (Vg (show 0<2 by decide) (show 60<=300 by decide));omega
  exact Rat.intCast_lt_intCast.mpr h3
 have hV:(0:Rat)<((2^300:Nat):Rat):=Rat.natCast_pos.mpr (Nat.pow_pos x_);generalize ((2^300:Nat):Rat)=V at *;refine Rat.not_le.mp λhq=>?_;have h4:V*1<=q*(q.den:Rat):=WJ (Rat.mul_le_mul_of_nonneg_left hd (Rat.le_of_lt hV)) (Rat.mul_le_mul_of_nonneg_right hq (by grind));rw[<- h1]at h4;grind
noncomputable def BK:List RT->Nat
 |[]=>1
 |a::as=>a.size.den*BK as
theorem uZ:∀as,0<BK as
 |[]=>Nat.one_pos
 |a::as=>Nat.mul_pos a.size.den_pos (uZ as)
theorem yS:∀{as:List RT},(∀a∈as,RB 60 a.size)->BK as<=2^(60*as.length)
 |[],_=>Vb 1
 | a::as,h=>by have h1:=(h a UZ).2;have h2:=yS (as:=as) λp hp=>h p (UW _ hp);show a.size.den*BK as<=2^(60*(as.length+1));rw[Nat.mul_add,Nat.mul_one,Nat.pow_add,Nat.mul_comm (2^_)];exact Nat.mul_le_mul (Xa h1) h2
theorem qx:∀{as:List RT}{a:RT},a∈as->a.size.den∣BK as
 | b::as,a,h=>by
  rcases Vc.mp h with rfl|h
  . exact Nat.dvd_mul_right _ _
  . exact Nat.dvd_trans (qx h) (Nat.dvd_mul_left _ _)
theorem Ot{as:List RT}(h:∀a∈as,RB 60 a.size)(hl:as.length<=20):∃D:Nat,0<D/\D<2^1240/\∀a∈as,a.size.den∣D:=by refine⟨BK as,uZ as,Ve (yS h) (Nat.pow_lt_pow_right x_ xL),λa ha=>qx ha⟩
end L2
namespace L2
open PySem
noncomputable def RV(n i j:Nat):List Nat:=(List.range ((j+n-i) % n)).map λs=>(i+s) % n
noncomputable def tG(n i j:Nat):List Nat:=(List.range ((i+n-j) % n)).map λs=>(i+n-1-s) % n
noncomputable def AA(n:Nat)(a:RT)(w:Bool):List Nat:=if w then RV n a.one a.other else tG n a.one a.other
theorem u0{n i j:Nat}(hi:i<n)(hj:j<n):(((j:Int)-i).fmod n)=(((j+n-i) % n:Nat):Int):=by
 rw[V0 _ xL];have e:((j:Int)-i) % n=((j:Int)-i+n) % n:=(Int.add_emod_right _ _).symm;rw[e];have:(j:Int)-i+n=((j+n-i:Nat):Int):=by omega
 rw[this];exact(Int.natCast_emod _ _).symm
theorem AB{n i s:Nat}:(((i:Int)+s).fmod n)=(((i+s) % n:Nat):Int):=by rw[V0 _ xL,Int.natCast_emod,Int.natCast_add]
theorem GQ{n i s:Nat}(hn:0<n)(hs:s<n):(((i:Int)-1-s).fmod n)=(((i+n-1-s) % n:Nat):Int):=by
 rw[V0 _ xL];have e:((i:Int)-1-s) % n=((i:Int)-1-s+n) % n:=(Int.add_emod_right _ _).symm;rw[e];have:(i:Int)-1-s+n=((i+n-1-s:Nat):Int):=by omega
 rw[this];exact(Int.natCast_emod _ _).symm
noncomputable def RW(n i j:Nat):Nat:=(j+n-i) % n
theorem nE{x n:Nat}(h:x<2*n):x % n=if x<n then x else x-n:=by
 by_cases hx:x<n
 . rw[if_pos hx,Nat.mod_eq_of_lt hx]
 . rw[if_neg hx,Nat.mod_eq_sub_mod xL,Nat.mod_eq_of_lt xL]
theorem pL{n i j:Nat}(hi:i<n)(hj:j<n):RW n i j=if i<=j then j-i else j+n-i:=by unfold RW;rw[nE xL];split<;>split<;>omega
theorem AC(n i j:Nat):(RV n i j).length=RW n i j:=by simp[RV,RW]
theorem AD(n i j:Nat):(tG n i j).length=RW n j i:=by simp[tG,RW]
theorem MX{n i j t:Nat}(hn:0<n)(h:t∈RV n i j):t<n:=by obtain⟨s,_,rfl⟩:=VO.mp h;exact Xb _ hn
theorem Ki{n:Nat}{a:RT}(h:jJ n a)(w:Bool):(AA n a w).length<n:=by
 have h1:=h.one;have h2:=h.other;cases w
 . show(tG n a.one a.other).length<n;rw[AD];exact Xb _ xL
 . show(RV n a.one a.other).length<n;rw[AC];exact Xb _ xL
theorem AE{n i j:Nat}(hn:0<n):RW n i j<n:=Xb _ hn
theorem qy{n i s:Nat}(hi:i<n)(hs:s<n):RW n i ((i+s) % n)=s:=by have h1:=Xb (i+s) (y:=n) xL;rw[pL hi h1,nE xL];split<;>split<;>omega
theorem u3{n i t:Nat}(hi:i<n)(ht:t<n):(i+RW n i t) % n=t:=by have h1:=AE (n:=n) (i:=i) (j:=t) xL;rw[nE xL,pL hi ht];split<;>split<;>omega
theorem DM{n i j:Nat}(hi:i<n)(hj:j<n)(h:i≠j):RW n i j+RW n j i=n:=by rw[pL hi hj,pL hj hi];split<;>split<;>omega
theorem Kj{n i j:Nat}(hi:i<n)(hj:j<n)(h:i≠j):0<RW n i j:=by rw[pL hi hj];split<;>omega
theorem HV{n i j t:Nat}(hi:i<n):t∈RV n i j↔t<n/\RW n i t<RW n i j:=by
 constructor
 . intro h;obtain⟨s,hs,rfl⟩:=VO.mp h;have hs:s<RW n i j:=Vl.mp hs;have:=AE (n:=n) (i:=i) (j:=j) xL;exact⟨Xb _ xL,by rw[qy hi xL];exact hs⟩
 . rintro⟨ht,h⟩;exact VO.mpr ⟨RW n i t,Vl.mpr h,u3 hi ht⟩
theorem DN{n i s:Nat}(hi:i<n)(hs:s<n):(i+n-1-s) % n=(i+(n-1-s)) % n:=by
 congr 1
 omega
theorem AF{n i j t:Nat}(hi:i<n)(hj:j<n)(hij:i≠j):t∈tG n i j↔t<n/\¬RW n i t<RW n i j:=by
 have hsum:=DM hi hj hij;constructor
 . intro h;obtain⟨s,hs,rfl⟩:=VO.mp h;have hs:s<RW n j i:=Vl.mp hs;refine⟨Xb _ xL,?_⟩;rw[DN hi xL,qy hi xL];omega
 .
  rintro⟨ht,h⟩;have:=AE (n:=n) (i:=i) (j:=t) xL;refine VO.mpr ⟨n-1-RW n i t,Vl.mpr (show _<RW n j i by omega),?_⟩;rw[DN hi xL];have e:n-1-(n-1-RW n i t)=RW n i t:=by omega
  rw[e,u3 hi ht]
noncomputable def me(n:Nat)(a:RT)(t:Nat):Bool:=decide (RW n a.one t<RW n a.one a.other)
theorem oI{n:Nat}{a:RT}(h:jJ n a)(w:Bool){t:Nat}(ht:t<n):t∈AA n a w↔(me n a t == w)=true:=by
 have h1:=h.one;have h2:=h.other;cases w
 . show t∈tG n a.one a.other↔_;rw[AF h1 h2 h.ne];simp[me,ht]
 . show t∈RV n a.one a.other↔_;rw[HV h1];simp[me,ht]
theorem MY{n i j:Nat}(hi:i<n)(hj:j<n)(hij:i≠j):RV n j i=(tG n i j).reverse:=by
 have hsum:=DM hi hj hij;refine Wo (by rw[List.length_reverse,AC,AD]) λs h1 h2=>?_;rw[AC]at h1;have hp:=Kj hi hj hij;rw[List.getElem_reverse];simp only[RV,tG,W7,List.getElem_range,U4,Vu];have e:(i+n-j) % n=RW n j i:=rfl;rw[e];have e2:j=(i+RW n i j) % n:=(u3 hi hj).symm;have e3:i+n-1-(RW n j i-1-s)=i+RW n i j+s:=by omega
 rw[e3]
 conv=>lhs;rw[e2]
 rw[Nat.mod_add_mod]
theorem qz(t:Nat):∀(T:List Nat),QR (.int (t:Int)) (T.map λ(s:Nat)=>D.int (s:Int))=decide (t∈T)
 |[]=>rfl
 | s::T=>by
  have ih:=qz t T;unfold QR at ih ⊢;rw[Vo,WL,ih];show(Ri (.int (s:Int)) (.int (t:Int)) ||_)=_;have e:Ri (.int (s:Int)) (.int (t:Int))=decide (t=s):=by show decide ((s:Int)=(t:Int))=_;rw[WM];omega
  rw[e];simp[Bool.decide_or]
theorem w9(T:List Nat):(T.map λ(s:Nat)=>D.int (s:Int)).all p7=true:=by rw[VI];intro x hx;obtain⟨s,_,rfl⟩:=VO.mp hx;rfl
theorem RB.sum{b:Nat}:∀(qs:List Rat),(∀q∈qs,RB b q)->RB (1+(b+1)*qs.length) (gN qs)
 |[],_=>RB.mono (m:=1) ⟨x_,x_⟩ xL
 | q::qs,h=>by have ih:=RB.sum qs λz hz=>h z (UW _ hz);rw[aT];refine((h q UZ).add ih).mono ?_;rw[V5,Nat.mul_succ];omega
theorem u4:gN []=0:=rfl
theorem xa(qs:List Rat)(q:Rat):gN (qs++[q])=gN qs+q:=by rw[qv,aT,u4,Rat.add_zero]
noncomputable def mf(n:Nat)(a:RT)(p:Rat)(t:Nat):Rat:=if me n a t then p else a.size-p
noncomputable def aZ(n:Nat)(as:List RT)(ps:List Rat)(t:Nat):Rat:=gN ((as.zip ps).map λx=>mf n x.1 x.2 t)
structure Kk (R:aL) (ps:List Rat) (c:Nat):Prop where
 len:ps.length=R.asks.length
 lo:∀x∈R.asks.zip ps,0<=x.2/\x.2<=x.1.size
 rb:∀p∈ps,RB c p
theorem AG{α β:Type}(as:List α)(bs:List β)(k:Nat):(as.zip bs).take k=(as.take k).zip (bs.take k):=by unfold List.zip;exact List.take_zipWith
theorem GR{α β:Type}{as:List α}{bs:List β}{k:Nat}(h1:k<as.length)(h2:k<bs.length):(as.take (k+1)).zip (bs.take (k+1))=(as.take k).zip (bs.take k)++[(as[k],bs[k])]:=by rw[<- AG,<- AG,List.take_succ,tu (by rw[Vy];omega),V1];rfl
theorem BL{n:Nat}{as:List RT}{ps:List Rat}{k:Nat}(h1:k<as.length)(h2:k<ps.length)(t:Nat):aZ n (as.take (k+1)) (ps.take (k+1)) t=aZ n (as.take k) (ps.take k) t+mf n as[k] ps[k] t:=by unfold aZ;rw[GR h1 h2,Wb];exact xa _ _
theorem AH{n i j:Nat}(hi:i<n):(RV n i j).Nodup:=by unfold RV;rw[List.nodup_iff_pairwise_ne,List.pairwise_map];refine List.Pairwise.imp_of_mem (R:=λa b=>a≠b) ?_ (List.nodup_iff_pairwise_ne.mp List.nodup_range);intro a b ha hb hab z;have la:a<RW n i j:=Vl.mp ha;have lb:b<RW n i j:=Vl.mp hb;have lf:=AE (n:=n) (i:=i) (j:=j) xL;have e1:=qy hi (show a<n by omega);have e2:=qy hi (show b<n by omega);rw[z,e2]at e1;exact hab e1.symm
theorem DO{α β:Type}{xs:List α}{f:α->β}(n:Nat)(h:xs.length=n)(g:Nat->β)(hg:∀k (hk:k<xs.length),g k=f xs[k]):(List.range n).map g=xs.map f:=by subst h;refine Wo v6 λj h1 h2=>?_;simp only[W7,List.getElem_range];exact hg j (by simpa using h2)
theorem AI{α:Type}(f g:α->Rat):∀xs:List α,gN (xs.map f)-gN (xs.map g)=gN (xs.map λx=>f x-g x)
 |[]=>by simp only[List.map_nil,u4];grind
 | x::xs=>by have ih:=AI f g xs;rw[Vo,Vo,Vo,aT,aT,aT,<- ih];grind
theorem qY{α:Type}(f:α->Rat):∀xs:List α,(∀x∈xs,0<=f x)->0<=gN (xs.map f)
 |[],_=>by simp[u4]
 | x::xs,h=>by have ih:=qY f xs λy hy=>h y (UW _ hy);have h1:=h x UZ;rw[Vo,aT];grind
theorem iC{α:Type}{f g:α->Rat}{xs:List α}(h:∀x∈xs,f x=g x):gN (xs.map f)=gN (xs.map g):=by rw[Ws h]
theorem yT{n:Nat}{a:RT}{p:Rat}(h0:0<=p)(h1:p<=a.size)(t:Nat):0<=mf n a p t/\mf n a p t<=a.size:=by
 unfold mf;split
 . exact⟨h0,h1⟩
 . constructor<;>grind
noncomputable def Ci(c:Nat×Nat)(p:Nat):Bool:=decide (c.1<p/\p<=c.2)
noncomputable def apart(c:Nat×Nat)(i j:Nat):Bool:=Ci c i != Ci c j
noncomputable def Kl(as:List RT)(c:Nat×Nat):Rat:=gN ((as.filter λa=>apart c a.one a.other).map (·.size))
noncomputable def aL.room(R:aL)(t:Nat):Rat:=R.rooms.getD t 0
noncomputable def MZ(R:aL)(c:Nat×Nat):Rat:=R.room c.1+R.room c.2
noncomputable def O2(R:aL)(c:Nat×Nat):Rat:=Kl R.asks c / MZ R c
def PJ(n:Nat)(c:Nat×Nat):Prop:=c.1<=c.2/\c.2<n
theorem BM{q:Rat}{D:Nat}{z:Int}(h0:0<D)(e:q*(D:Rat)=(z:Rat)):q.den∣D:=by
 have hQ:(D:Rat)≠0:=λw=>by have:=Rat.natCast_pos.mpr h0;rw[w]at this;exact absurd this x_
 have e2:q=Rat.divInt z (D:Int):=by rw[Rat.divInt_eq_div];have:((D:Int):Rat)=(D:Rat):=rfl;rw[this,<- e,Rat.mul_div_cancel hQ]
 rw[e2];have:=Rat.den_divInt z (D:Int);rw[this,if_neg (by omega),Vj];exact Nat.div_dvd_of_dvd (Nat.gcd_dvd_left _ _)
theorem uh{q:Rat}{D:Nat}(h:q.den∣D):∃z:Int,q*(D:Rat)=(z:Rat):=by obtain⟨m,rfl⟩:=h;refine⟨q.num*(m:Int),?_⟩;rw[Rat.intCast_mul,Dx];have e1:((m:Int):Rat)=(m:Rat):=rfl;have e2:((q.den*m:Nat):Rat)=(q.den:Rat)*(m:Rat):=Rat.natCast_mul _ _;rw[e1,e2,Rat.mul_assoc]
theorem DP{p q:Rat}{D:Nat}(h0:0<D)(hp:p.den∣D)(hq:q.den∣D):(p+q).den∣D:=by obtain⟨a,ha⟩:=uh hp;obtain⟨b,hb⟩:=uh hq;exact BM (z:=a+b) h0 (by rw[Rat.add_mul,ha,hb,Rat.intCast_add])
theorem DQ{D:Nat}(h0:0<D):∀qs:List Rat,(∀q∈qs,q.den∣D)->(gN qs).den∣D
 |[],_=>by show(0:Rat).den∣D;exact Nat.one_dvd _
 | q::qs,h=>by rw[aT];exact DP h0 (h q UZ) (DQ h0 qs λp hp=>h p (UW _ hp))
theorem DS{V:Rat}(hV:0<=V):∀qs:List Rat,(∀q∈qs,q<V)->gN qs<=(qs.length:Rat)*V
 |[],_=>by show(0:Rat)<=_;rw[List.length_nil];show(0:Rat)<=0*V;grind
 | q::qs,h=>by rw[aT,V5];have h1:=h q UZ;have h2:=DS hV qs λp hp=>h p (UW _ hp);have e:((qs.length+1:Nat):Rat)=(qs.length:Rat)+1:=Rat.natCast_add _ _;rw[e];grind
def M0(qs:List Rat):Prop:=MR qs<2^9000∨∃D:Nat,0<D/\D<2^4400/\∀q∈qs,q.den∣D
theorem DT(n:Nat)(f:Nat->Rat):d8 (RU n f)=(List.range n).map λ(t:Nat)=>D.tup [.int (t:Int),Rl (f t)]:=by unfold d8 RU;refine Wo v6 λj h1 h2=>?_;simp
theorem AJ(qs:List Rat):d8 (qs.map Rl)=(List.range qs.length).map λ(t:Nat)=>D.tup [.int (t:Int),Rl (qs.getD t 0)]:=by
 unfold d8;refine Wo v6 λj h1 h2=>?_;have hj:j<qs.length:=by simpa using h1
 simp[hj]
theorem Km(n:Nat)(f g:Nat->Rat):Cb (RU n f) (RU n g)=(List.range n).map λ(t:Nat)=>D.tup [Rl (f t),Rl (g t)]:=by unfold Cb RU;refine Wo v6 λj h1 h2=>?_;simp
noncomputable def aL.sz(R:aL)(k:Nat):Rat:=(R.asks.map (·.size)).getD k 0
theorem BN{R:aL}{k:Nat}(h:k<R.asks.length):R.sz k=R.asks[k].size:=by unfold aL.sz;rw[U0,Vf,tu h];rfl
theorem oJ{qs:List Rat}{k:Nat}(h:k<qs.length):qs.getD k 0=qs[k]:=by rw[U0,tu h];rfl
end L2
namespace My
open PySem L2
noncomputable def aN(R:aL)(j:Nat):RT:=(R.asks[j]?).getD ⟨"",0,0,0⟩
noncomputable def RX(R:aL)(j t:Nat):Bool:=me R.n (aN R j) t
noncomputable def dI(R:aL)(w:Nat->Int)(k g h:Nat):Int:=((List.range (R.asks.length-k)).map λi=>if RX R (k+i) g != RX R (k+i) h then w (k+i)else 0).sum
theorem GS{R:aL}{j:Nat}(h:j<R.asks.length):aN R j=R.asks[j]:=by unfold aN;rw[tu h];rfl
def PN(R:aL)(w f:Nat->Int)(k:Nat):Prop:=∀g h,g<R.n->h<R.n->dI R w k g h<=f g+f h/\(f g+f h-dI R w k g h) % 2=0
noncomputable def Ou(R:aL)(w f:Nat->Int)(k:Nat)(p:Int)(t:Nat):Int:=f t-if RX R k t then p else w k-p
noncomputable def RY(i j:Int):Int:=if j<i then j else i
noncomputable def RZ(R:aL)(k:Nat):List Nat:=(PySem.W.sortI ((AA R.n (aN R k) true).map λ(t:Nat)=>(t:Int))).map Int.toNat
noncomputable def PP(R:aL)(w f:Nat->Int)(k g h:Nat):Int:=f g+f h-dI R w (k+1) g h
noncomputable def M1(R:aL)(w f:Nat->Int)(k:Nat)(acc:Int)(g:Nat)(hs:List Nat):Int:=hs.foldl (λt h=>if decide (g<=h)then RY t (PP R w f k g h)else t) acc
noncomputable def M3(R:aL)(w f:Nat->Int)(k:Nat)(gs:List Nat):Int:=gs.foldl (λt g=>M1 R w f k t g (RZ R k)) (2*w k)
noncomputable def M4(R:aL)(w f:Nat->Int)(k:Nat):Int:=(M3 R w f k (RZ R k)).fdiv 2
noncomputable def R0(R:aL)(w f:Nat->Int):Nat->Nat->Int
 |0=>f
 |k+1=>Ou R w (R0 R w f k) k (M4 R w (R0 R w f k) k)
noncomputable def R1(R:aL)(w f:Nat->Int)(k:Nat):Int:=M4 R w (R0 R w f k) k
theorem yU{t b:Int}(h:b≠0):(Rat.divInt t b).den∣b.natAbs:=by rw[Rat.den_divInt,if_neg h];exact Nat.div_dvd_of_dvd (by rw[Int.gcd];exact Nat.gcd_dvd_left _ _)
theorem yV(p q:Rat):(p*q).den∣p.den*q.den:=by
 have e:p*q=Rat.divInt (p.num*q.num) ((p.den:Int)*q.den):=by rw[<- Wh,VE,VE]
 rw[e];have:=yU (t:=p.num*q.num) (b:=(p.den:Int)*q.den) (Xd (yJ _) (yJ _));rwa [Wj,Vj,Vj]at this
theorem GT(q:Rat):(q.num:Rat)=q*(q.den:Rat):=by
 have h:((q.den:Int):Rat)≠0:=λe=>yJ q (by
  have:((q.den:Int):Rat)=((0:Int):Rat):=e
  exact Rat.intCast_inj.mp this)
 have e:q=(q.num:Rat) / ((q.den:Int):Rat):=by
  conv=>lhs;rw[<- VE q,Rat.divInt_eq_div]
 have:=Rat.div_mul_cancel (a:=(q.num:Rat)) h;rw[<- e]at this;exact this.symm
noncomputable def R3(qs:List Rat):Nat:=qs.foldl (λb q=>Nat.lcm b q.den) 1
noncomputable def xb(u:Nat)(q:Rat):Int:=q.num*((u / q.den:Nat):Int)
theorem xc{u:Nat}{q:Rat}(h:q.den∣u):((xb u q:Int):Rat)=q*(u:Rat):=by obtain⟨c,rfl⟩:=h;unfold xb;rw[Nat.mul_div_cancel_left _ (den_pos q),Rat.intCast_mul,GT,Rat.intCast_natCast,Rat.natCast_mul,Rat.mul_assoc]
noncomputable def M5(R:aL):List Rat:=R.asks.map (·.size)
noncomputable def Ov(R:aL)(q:Rat):List Rat:=R.rooms.map λr=>q*r
noncomputable def R4(R:aL)(q:Rat):Nat:=R3 (M5 R++Ov R q)
noncomputable def HW(R:aL)(q:Rat):Nat:=2*R4 R q
noncomputable def wI(R:aL)(q:Rat)(j:Nat):Int:=xb (HW R q) (aN R j).size
noncomputable def R5(R:aL)(q:Rat)(t:Nat):Int:=xb (HW R q) (q*R.room t)
theorem q5{α:Type}(p:α->Bool)(f:α->Rat):∀xs:List α,gN ((xs.filter p).map f)=gN (xs.map λa=>if p a then f a else 0)
 |[]=>rfl
 | x::xs=>by
  rw[Wd,Vo,aT,<- q5 p f xs];cases p x
  . simp[Rat.zero_add]
  . simp[aT]
noncomputable def pI(R:aL)(q:Rat)(k:Nat):Int:=R1 R (wI R q) (R5 R q) k
end My
set_option exponentiation.threshold 2000
namespace L2
open PySem
theorem DU{a n:Nat}(h:a<2^n)(hn:n<=1900):a<2^1900:=U2 h (Vg x_ hn)
theorem AK{q:Rat}{n:Nat}(h:RB n q)(hn:n<=1900):dY (Rl q)=true:=by have h1:=DU h.1 hn;have h2:=DU h.2 hn;simp only[Rl,dY,fj,Bool.and_true,U7,U5];exact⟨h1,by simpa using h2⟩
theorem mh{α:Type}{f:α->D}:∀xs:List α,(∀x∈xs,dY (f x)=true)->fj (xs.map f)=true
 |[],_=>rfl
 |x::xs,h=>by simp only[Vo,fj,h x UZ,mh xs λy hy=>h y (UW _ hy),Bool.and_self]
theorem DV{α:Type}{f:α->D}{c:Nat}:∀xs:List α,(∀x∈xs,(Q9 (f x)).weight<=c)->PyData.weightAll (ff (xs.map f))<=(c+1)*xs.length
 |[],_=>by simp[ff,PyData.weightAll]
 | x::xs,h=>by have h1:=DV xs λy hy=>h y (UW _ hy);have h2:=h x UZ;simp only[Vo,ff,PyData.weightAll,V5];rw[Nat.mul_add];omega
theorem AL{i:Int}{n:Nat}(h:i.natAbs<2^n):(Q9 (.int i)).weight<=n:=by
 simp only[Q9,PyData.weight];split
 . omega
 .
  rename_i h0;have h0':i.natAbs≠0:=by simpa using h0
  have:=(Nat.log2_lt h0').mpr h;omega
theorem M6{q:Rat}{n:Nat}(h:RB n q):(Q9 (Rl q)).weight<=2*n+2:=by have h1:=AL h.1;have h2:=AL (i:=(q.den:Int)) (n:=n) (by rw[Vj];exact h.2);simp only[Rl,Q9,ff,PyData.weight,PyData.weightAll]at h1 h2 ⊢;omega
theorem M7{n:Nat}{a:RT}(h:Fg a.nm/\RB 60 a.size)(ho:jJ n a)(hn:n<=12):(Q9 (iy a)).weight<=150:=by
 have h1:=h.1.hi;have h2:=M6 h.2;have h3:=ho.one;have h4:=ho.other;have h5:=AL (i:=(a.one:Int)) (n:=4) (by rw[Vj];omega);have h6:=AL (i:=(a.other:Int)) (n:=4) (by rw[Vj];omega);have e:a.nm.cps.size=a.nm.cps.toList.length:=by simp
 simp only[iy,Q9,ff,PyData.weight,PyData.weightAll]at h5 h6 ⊢;omega
theorem DW{n:Nat}{a:RT}(ht:RB 60 a.size)(h:jJ n a)(hn:n<=12):dY (iy a)=true:=by
 have h1:=h.one;have h2:=h.other;have p:12<2^1900:=DU (n:=4) x_ x_;simp only[iy,dY,fj,Bool.and_true,Wx,U7,U5];refine⟨?_,?_,AK ht x_⟩
 . rw[Vj];omega
 . rw[Vj];omega
theorem BO{R:aL}(h:R.Ok)(hn:∀a∈R.asks,Fg a.nm/\RB 60 a.size):dY (aH R)=true:=by simp only[aH,dY,fj,Bool.and_true,U7];exact⟨mh _ λq hq=>AK (h.room q hq).2 x_,mh _ λa ha=>DW (hn a ha).2 (h.ask a ha) h.hi⟩
theorem Kn{R:aL}(h:R.Ok)(hn:∀a∈R.asks,Fg a.nm/\RB 60 a.size):(Q9 (aH R)).weight<=5000:=by have h1:=DV (f:=Rl) (c:=122) R.rooms λq hq=>M6 (h.room q hq).2;have h2:=DV (f:=iy) (c:=150) R.asks λa ha=>M7 (hn a ha) (h.ask a ha) h.hi;have h3:=h.hi;have h4:=h.few;have h5:R.rooms.length=R.n:=rfl;simp only[aH,Q9,ff,PyData.weight,PyData.weightAll];omega
theorem okD_mono:∀{m n:Nat}(d:D),m<=n->Rm m d=true->Rm n d=true:=by
 intro m n d hmn h
 have:∀(m:Nat),(∀(n:Nat)(d:D),m<=n->Rm m d=true->Rm n d=true)/\∀(n:Nat)(ds:List D),m<=n->sW m ds=true->sW n ds=true:=by
  intro m
  induction m with
  | zero =>
   have h0:∀(n:Nat)(d:D),0<=n->Rm 0 d=true->Rm n d=true:=λn d _ h=>by cases d<;>cases n<;>simp_all [Rm]
   refine⟨h0,λn ds hn h=>?_⟩
   induction ds with
   |nil=>simp[sW]
   |cons x xs ih=>simp only[sW,U7]at h ⊢;exact⟨h0 n x hn h.1,ih h.2⟩
  | succ m ih =>
   have h0:∀(n:Nat)(d:D),m+1<=n->Rm (m+1) d=true->Rm n d=true:=λn d hn h=>by
    obtain⟨k,rfl⟩:∃k,n=k+1:=⟨n-1,xL⟩;cases d<;>simp_all [Rm]
    all_goals exact ih.2 k _ xL h
   refine⟨h0,λn ds hn h=>?_⟩
   induction ds with
   |nil=>simp[sW]
   |cons x xs ihx=>simp only[sW,U7]at h ⊢;exact⟨h0 n x hn h.1,ihx h.2⟩
 exact(this m).1 n d hmn h
noncomputable def fV(w:Bool):D:=.str (fK w)
theorem ui{g:Tg}{b:W Fl}{so:Fl->Ev->Prop}{enc:Nat->D}(n:Nat)(I:Nat->Ev->Prop)(Z:Ev)(h0:I 0 Z)
  (step:∀j Z,j<n->I j Z->∀Q:Fl->Ev->Prop,(∀Z',I (j+1) Z'->Q .nx Z')->(∀Z',I (j+1) Z'->Q .ct Z')->(∀Z',so .nx Z'->Q .bk Z')->(∀r Z',so (.rt r) Z'->Q (.rt r) Z')->g (enc j) Z λZ1=>b Z1 Q)
  (done:∀Z,I n Z->so .nx Z):dh g b ((List.range n).map enc) Z so:=by
 refine dJ _ (λj Z=>I j Z) Z h0 ?_ ?_
 .
  intro j x Z hj hI Q h1 h2 h3 h4;have hj':j<n:=by have:=(U1.mp hj).1;simpa using this
  have ex:x=enc j:=by rw[Vf,WH hj']at hj;exact(Vq hj).symm
  subst ex;exact step j Z hj' hI Q h1 h2 h3 h4
 .
  intro Z hI;have e:((List.range n).map enc).length=n:=by simp
  rw[e]at hI;exact done Z hI
end L2
set_option exponentiation.threshold 5000
namespace My
open PySem L2
structure LB (R:aL) (ps:List Rat):Prop where
 p:∀p∈ps,RB 4100 p
 ld:∀k t,RB 4100 (aZ R.n (R.asks.take k) (ps.take k) t)
 st:∀(k:Nat)(h1:k<R.asks.length)(h2:k<ps.length)(t:Nat),RB 4100 (mf R.n R.asks[k] ps[k] t)
 sm:∀t,M0 ((R.asks.zip ps).map λx=>mf R.n x.1 x.2 t)
theorem LB.all{R:aL}{ps:List Rat}(h:LB R ps)(hl:ps.length=R.asks.length)(t:Nat):RB 4100 (aZ R.n R.asks ps t):=by have:=h.ld R.asks.length t;rwa [VU (Vb _),VU xL]at this
noncomputable def zI(R:aL)(q:Rat)(t j:Nat):Int:=if me R.n (aN R j) t then pI R q j else wI R q j-pI R q j
noncomputable def yW:D->Bool
 |.tup [.int i,.int j]=>decide (1<=j) && decide ((Int.gcd i j:Int)=1)
 |_=>false
theorem DX{d:D}(h:∀i j,d≠.tup [.int i,.int j]):yW d=false:=by
 unfold yW;split
 . rename_i i j;exact absurd rfl (h i j)
 . rfl
mutual
noncomputable def Cc:D->Nat
 |.tup xs=>max xs.length (yX xs)
 |.lst xs=>max xs.length (yX xs)
 |_=>0
noncomputable def yX:List D->Nat
 |[]=>0
 |x::xs=>max (Cc x) (yX xs)
end
theorem AM{n:Nat}:∀{xs:List D},(∀x∈xs,Cc x<=n)->yX xs<=n
 |[],_=>Wn _
 | y::ys,h=>by simp only[yX];have:=h y UZ;have:=AM (xs:=ys) λx hx=>h x (UW _ hx);omega
theorem HX{n:Nat}(h:n<=99):n<=sizeLine:=U8 h x_
theorem Ko(q:Rat):Cc (Rl q)=2:=by simp[Rl,Cc,yX]
theorem GU(a:RT):Cc (iy a)=4:=by have:=Ko a.size;simp[iy,Cc,yX,this]
theorem DY{as:List RT}{n:Nat}(h:as.length<=n)(h2:4<=n):Cc (.lst (as.map iy))<=n:=by
 simp only[Cc,U4];have:=AM (n:=4) (xs:=as.map iy) λx hx=>by obtain⟨q,_,rfl⟩:=VO.mp hx;rw[GU];exact Vb _
 omega
structure R6 (n:Nat) (d:D):Prop where
 dep:Ah d<n
 wid:Cc d<=99
theorem R6.mono{n m:Nat}{d:D}(h:R6 n d)(hm:n<=m):R6 m d:=⟨U2 h.dep hm,h.wid⟩
theorem Kp(q:Rat):Ah (Rl q)=1:=by simp[Rl,Ah,yB]
theorem GV(a:RT):Ah (iy a)=2:=by have:=Kp a.size;simp[iy,Ah,yB,this]
theorem GW{xs:List D}{n:Nat}(h:∀x∈xs,Ah x<=n):Ah (.lst xs)<=n+1:=by simp only[Ah];have:=Ai h;omega
theorem DZ(as:List RT):Ah (.lst (as.map iy))<=3:=GW λx hx=>by obtain⟨q,_,rfl⟩:=VO.mp hx;rw[GV];exact Vb _
theorem R6.asks{as:List RT}(h:as.length<=99):R6 4 (.lst (as.map iy)):=⟨by have:=DZ as;omega,DY h x_⟩
mutual
theorem okD_mono:∀(n:Nat)(d:D),Rm n d=true->Rm (n+1) d=true
 |_,.non,_=>by simp[Rm]
 |_,.bl _,_=>by simp[Rm]
 |_,.int _,_=>by simp[Rm]
 |_,.str x,h=>by simpa[Rm]using h
 |0,.tup _,h=>by simp[Rm]at h
 |0,.lst _,h=>by simp[Rm]at h
 | n+1,.tup xs,h=>by
  simp only[Rm]at h ⊢
  exact q8 n xs h
 | n+1,.lst xs,h=>by
  simp only[Rm]at h ⊢
  exact q8 n xs h
 |_,.dct _,h=>by simp[Rm]at h
 |_,.exc _ _ _,h=>by simp[Rm]at h
 |_,.fn _ _,h=>by simp[Rm]at h
theorem q8:∀(n:Nat)(ds:List D),sW n ds=true->sW (n+1) ds=true
 |_,[],_=>rfl
 | n,d::ds,h=>by
  simp only[sW,U7]at h ⊢
  exact⟨okD_mono n d h.1,q8 n ds h.2⟩
end
end My
set_option exponentiation.threshold 5000
namespace My
open PySem L2
def Tw(R:aL)(ps:List Rat):Prop:=∀k,k<R.asks.length->∃v:Int,0<=v/\v<=12/\ps.getD k 0=R.sz k*Rat.divInt v 12
end My
set_option exponentiation.threshold 5000
namespace My
open PySem L2
structure fk where
 k:Nat
 kw:Bool
 l:Nat
 lw:Bool
 am:Rat
noncomputable def R7(s:fk):D:=.tup [.int (s.k:Int),.str (fK s.kw),.int (s.l:Int),.str (fK s.lw),Rl s.am]
noncomputable def R8(R:aL)(ps:List Rat)(k:Nat)(w:Bool):Rat:=if w then R.sz k-ps.getD k 0 else ps.getD k 0
noncomputable def R9(R:aL)(ps:List Rat)(k:Nat)(kw:Bool)(l:Nat)(lw:Bool):Rat:=if R8 R ps l lw<R8 R ps k kw then R8 R ps l lw else R8 R ps k kw
noncomputable def Sb(p:Rat)(w:Bool)(am:Rat):Rat:=if w then p+am else p-am
noncomputable def Sd(ps:List Rat)(s:fk):List Rat:=(ps.set s.k (Sb (ps.getD s.k 0) s.kw s.am)).set s.l (Sb ((ps.set s.k (Sb (ps.getD s.k 0) s.kw s.am)).getD s.l 0) s.lw s.am)
noncomputable def jK(n:Nat)(a:RT)(aw:Bool)(b:RT)(bw:Bool):Bool:=!((AA n a aw).any λt=>decide (t∈AA n b bw))
noncomputable def bQ(n:Nat)(a b:RT):Bool×Bool:=if jK n a true b true then(true,true)else if jK n a true b false then(true,false)else if jK n a false b true then(false,true)else(false,false)
structure cW (R:aL) (ps:List Rat):Prop where
 ok:R.Ok
 len:ps.length=R.asks.length
 lo:∀k,k<ps.length->0<=ps.getD k 0/\ps.getD k 0<=R.sz k
 cd:∃D:Nat,0<D/\D<2^1500/\(∀a∈R.asks,a.size.den∣D)/\∀p∈ps,p.den∣D
theorem jL{R:aL}{k:Nat}(h:k<R.asks.length):R.sz k=R.asks[k].size:=by unfold aL.sz;rw[U0,Vf,tu h];rfl
theorem bj{ps:List Rat}{k:Nat}(h:k<ps.length):ps.getD k 0=ps[k]:=by rw[U0,tu h];rfl
theorem Se{a b c:Rat}(h1:a<=b)(h2:b<c):a<c:=by rw[<- Rat.not_le]at h2 ⊢;exact λz=>h2 (WJ z h1)
theorem GX{q:Rat}{D:Nat}(h0:0<=q)(h1:q<((2^300:Nat):Rat))(d0:0<D)(d1:D<2^1500)(hd:q.den∣D):RB 1800 q:=RB.of_val (v:=300) (d:=1500) h0 (Ve (Wy d0 hd) d1) h1
theorem cW.sz_rb{R:aL}{ps:List Rat}(h:cW R ps){k:Nat}(hk:k<ps.length):RB 1800 (R.sz k):=by
 have hk':k<R.asks.length:=by rw[<- h.len];exact hk
 rw[jL hk'];exact(h.ok.rb (U3 hk')).mono x_
theorem cW.rb{R:aL}{ps:List Rat}(h:cW R ps){k:Nat}(hk:k<ps.length):RB 1800 (ps.getD k 0):=by
 obtain⟨D,d0,d1,_,hd⟩:=h.cd;have hk':k<R.asks.length:=by rw[<- h.len];exact hk
 obtain⟨h1,h2⟩:=h.lo k hk;refine GX h1 (Se h2 ?_) d0 d1 (hd _ (by rw[bj hk];exact U3 hk));rw[jL hk'];exact(h.ok.ask _ (U3 hk')).lt
theorem rf{p q:Rat}{D:Nat}(d0:0<D)(h1:p.den∣D)(h2:q.den∣D):(p+q).den∣D:=by
 have e:p+q=Rat.divInt (xb D p+xb D q) (D:Int):=by
  have hD:((D:Int):Rat)≠0:=by have:(0:Rat)<(D:Rat):=Rat.natCast_pos.mpr d0;intro z;rw[show((D:Int):Rat)=(D:Rat)from rfl]at z;rw[z]at this;exact absurd this x_
  rw[Rat.divInt_eq_div,Rat.intCast_add,xc h1,xc h2,<- Rat.add_mul,Rat.div_def,Rat.mul_assoc,show((D:Nat):Rat)=((D:Int):Rat)from rfl,Rat.mul_inv_cancel _ hD,Rat.mul_one]
 rw[e];have:=yU (t:=xb D p+xb D q) (b:=(D:Int)) xL;simpa using this
theorem mi{p q:Rat}{D:Nat}(d0:0<D)(h1:p.den∣D)(h2:q.den∣D):(p-q).den∣D:=by rw[Wa];exact rf d0 h1 (by rw[Rat.neg_den];exact h2)
theorem cW.ns{R:aL}{ps:List Rat}(h:cW R ps){k:Nat}(hk:k<ps.length)(w:Bool):0<=R8 R ps k w/\R8 R ps k w<=R.sz k:=by
 obtain⟨h1,h2⟩:=h.lo k hk;unfold R8;cases w
 . exact⟨h1,h2⟩
 .
  have h3:=(Rat.le_iff_sub_nonneg _ _).mp h2;refine⟨h3,?_⟩;show R.sz k-ps.getD k 0<=R.sz k;rw[Rat.le_iff_sub_nonneg];have:R.sz k-(R.sz k-ps.getD k 0)=ps.getD k 0:=by rw[Wa,Wa,Rat.neg_add,Rat.neg_neg,<- Rat.add_assoc,Rat.add_neg_cancel,Rat.zero_add]
  rw[this];exact h1
noncomputable def pM(a:RT):Nat:=min a.one a.other
noncomputable def fQ(a:RT):Nat:=max a.one a.other
noncomputable def Sf(a:RT):Bool:=decide (a.one<a.other)
theorem uj{n:Nat}{a:RT}(h:jJ n a){t:Nat}(ht:t<n):(me n a t == Sf a)=true↔pM a<=t/\t<fQ a:=by
 have h1:=h.one;have h2:=h.other;have h3:=h.ne;unfold me pM fQ Sf;rw[pL h1 ht,pL h1 h2];rw[WE,WM];by_cases h4:a.one<a.other
 .
  rw[if_pos (show a.one<=a.other by omega)];by_cases h5:a.one<=t
  . rw[if_pos h5];omega
  . rw[if_neg h5];omega
 .
  rw[if_neg (show ¬a.one<=a.other by omega)];by_cases h5:a.one<=t
  . rw[if_pos h5];omega
  . rw[if_neg h5];omega
theorem u5{n:Nat}{a b:RT}(ha:jJ n a)(hb:jJ n b){aw bw:Bool}(h:∀t,t<n->(me n a t == aw)=true->(me n b t == bw)=true->False):jK n a aw b bw=true:=by
 unfold jK;rw[Wr,List.any_eq_false];intro t ht;rw[decide_eq_true_iff];intro hb'
 have htn:t<n:=by
  cases aw
  . exact((AF ha.one ha.other ha.ne).mp ht).1
  . exact((HV ha.one).mp ht).1
 exact h t htn ((oI ha aw htn).mp ht) ((oI hb bw htn).mp hb')
theorem D1{n:Nat}{a b:RT}(ha:jJ n a)(hb:jJ n b){aw bw:Bool}(h:jK n a aw b bw=true):∀t,t∈AA n a aw->t∉AA n b bw:=by unfold jK at h;rw[Wr,List.any_eq_false]at h;intro t ht hb';exact h t ht (by simpa using hb')
theorem xf{n:Nat}{a:RT}(h:jJ n a){t:Nat}(ht:t<n):(me n a t == !Sf a)=true↔¬(pM a<=t/\t<fQ a):=by rw[<- uj h ht];cases me n a t<;>cases Sf a<;>simp
noncomputable def NN(a b:RT):Bool:=decide (pM a<pM b/\pM b<fQ a/\fQ a<fQ b) ||decide (pM b<pM a/\pM a<fQ b/\fQ b<fQ a)
theorem GY{n:Nat}{a b:RT}(ha:jJ n a)(hb:jJ n b)(h:NN a b=false):jK n a (bQ n a b).1 b (bQ n a b).2=true:=by
 have ex:∃aw bw,jK n a aw b bw=true:=by
  unfold NN at h;rw[Bool.or_eq_false_iff,VZ,VZ]at h;have la:pM a<fQ a:=by have:=ha.ne;unfold pM fQ;omega
  have lb:pM b<fQ b:=by have:=hb.ne;unfold pM fQ;omega
  by_cases h1:fQ a<=pM b∨fQ b<=pM a
  . refine⟨Sf a,Sf b,u5 ha hb λt ht p q=>?_⟩;have p:=(uj ha ht).mp p;have q:=(uj hb ht).mp q;omega
  .
   by_cases h2:pM b<=pM a/\fQ a<=fQ b
   . refine⟨Sf a,!Sf b,u5 ha hb λt ht p q=>?_⟩;have p:=(uj ha ht).mp p;have q:=(xf hb ht).mp q;omega
   . refine⟨!Sf a,Sf b,u5 ha hb λt ht p q=>?_⟩;have p:=(xf ha ht).mp p;have q:=(uj hb ht).mp q;omega
 unfold bQ;split
 . assumption
 .
  split
  . assumption
  .
   split
   . assumption
   .
    obtain⟨aw,bw,e⟩:=ex
    cases aw<;>cases bw<;>first|exact e|contradiction
noncomputable def Sg(R:aL)(ps:List Rat)(k l:Nat)(w:Bool×Bool):fk:=⟨k,w.1,l,w.2,R9 R ps k w.1 l w.2⟩
theorem cW.ms{R:aL}{ps:List Rat}(h:cW R ps){k l:Nat}(hk:k<ps.length)(hl:l<ps.length)(kw lw:Bool):0<=R9 R ps k kw l lw/\R9 R ps k kw l lw<=R8 R ps k kw/\R9 R ps k kw l lw<=R8 R ps l lw/\(R9 R ps k kw l lw=R8 R ps k kw∨R9 R ps k kw l lw=R8 R ps l lw):=by
 have h1:=h.ns hk kw;have h2:=h.ns hl lw;unfold R9;split
 . rename_i hlt;exact⟨h2.1,Rat.le_of_lt hlt,W9,.inr rfl⟩
 . rename_i hlt;exact⟨h1.1,W9,W3.mp hlt,.inl rfl⟩
noncomputable def Sh(R:aL)(k l:Nat):Bool:=NN (aN R k) (aN R l)
noncomputable def Si(cr:Nat->Nat->Bool):List Nat->Option (Nat×Nat)
 |[]=>none
 | k::ks=>match ks.find? (λl=>!cr k l)with
  |some l=>some (k,l)
  |none=>Si cr ks
noncomputable def yY:Option (Nat×Nat)->D
 |none=>.non
 |some (k,l)=>.tup [.int (k:Int),.int (l:Int)]
theorem bU{R:aL}{k:Nat}(h:k<R.asks.length):aN R k=R.asks[k]:=by unfold aN;rw[tu h];rfl
end My
set_option exponentiation.threshold 5000
namespace My
open PySem L2
noncomputable def Sj(R:aL)(ps:List Rat)(k:Nat):Bool:=decide (0<ps.getD k 0) && decide (ps.getD k 0<R.sz k)
noncomputable def Sl(R:aL)(ps:List Rat):List Nat:=(List.range ps.length).filter (Sj R ps)
theorem iD{R:aL}{ps:List Rat}{k:Nat}(h:k∈Sl R ps):k<ps.length/\Sj R ps k=true:=by obtain⟨h1,h2⟩:=V3.mp h;exact⟨Vl.mp h1,h2⟩
theorem rg(R:aL)(ps:List Rat):(Sl R ps).Pairwise (· < ·):=List.Pairwise.filter _ List.pairwise_lt_range
theorem qC{cr:Nat->Nat->Bool}:∀{ks:List Nat}{k l:Nat},ks.Pairwise (· < ·)->Si cr ks=some (k,l)->k∈ks/\l∈ks/\k<l/\cr k l=false
 |[],_,_,_,h=>by cases h
 | a::ks,k,l,hp,h=>by
  obtain⟨p1,p2⟩:=WS.mp hp;unfold Si at h
  cases e:ks.find? (λl=>!cr a l)with
  | none =>
   rw[e]at h;obtain⟨h1,h2,h3,h4⟩:=qC p2 h;exact⟨UW _ h1,UW _ h2,h3,h4⟩
  | some m =>
   rw[e]at h;cases h;have hm:=List.mem_of_find?_eq_some e;have hc:=List.find?_some e;exact⟨UZ,UW _ hm,p1 _ hm,by simpa using hc⟩
theorem u6{cr:Nat->Nat->Bool}:∀{ks:List Nat},ks.Pairwise (· < ·)->Si cr ks=none->∀k l,k∈ks->l∈ks->k<l->cr k l=true
 |[],_,_,_,_,hk,_,_=>by cases hk
 | a::ks,hp,h,k,l,hk,hl,hkl=>by
  obtain⟨p1,p2⟩:=WS.mp hp;unfold Si at h
  cases e:ks.find? (λl=>!cr a l)with
  |some m=>rw[e]at h;cases h
  | none =>
   rw[e]at h;rcases Vc.mp hk with ek|hk'
   .
    subst ek;rcases Vc.mp hl with el|hl'
    . omega
    . have:=List.find?_eq_none.mp e l hl';simpa using this
   .
    rcases Vc.mp hl with el|hl'
    . have:=p1 k hk';omega
    . exact u6 p2 h k l hk' hl' hkl
theorem Kq(p s:Rat):p+(s-p)=s:=by rw[Wa,<- Rat.add_assoc,Rat.add_comm p s,Rat.add_assoc,Rat.add_neg_cancel,Rat.add_zero]
theorem D2(p:Rat):p-p=0:=by rw[Wa,Rat.add_neg_cancel]
theorem Kr{p a:Rat}(h:a<=p):0<=p-a:=(Rat.le_iff_sub_nonneg _ _).mp h
theorem GZ{p a:Rat}(h:0<=a):p-a<=p:=by rw[Rat.le_iff_sub_nonneg,Wa,Wa,Rat.neg_add,Rat.neg_neg,<- Rat.add_assoc,Rat.add_neg_cancel,Rat.zero_add];exact h
theorem Ks{p a:Rat}(h1:0<=p)(h2:0<=a):0<=p+a:=Rat.add_nonneg h1 h2
structure M8 (R:aL) (ps:List Rat) (s:fk):Prop where
 k:s.k<ps.length
 l:s.l<ps.length
 kl:s.k≠s.l
 nn:0<=s.am
 kn:s.am<=R8 R ps s.k s.kw
 ln:s.am<=R8 R ps s.l s.lw
theorem j9(ps:List Rat)(s:fk):(Sd ps s).length=ps.length:=by simp[Sd]
theorem xg{ps:List Rat}{s:fk}(hk:s.k<ps.length)(hl:s.l<ps.length)(hkl:s.k≠s.l)(i:Nat):(Sd ps s).getD i 0=if i=s.k then Sb (ps.getD s.k 0) s.kw s.am else if i=s.l then Sb (ps.getD s.l 0) s.lw s.am else ps.getD i 0:=by
 have e0:(ps.set s.k (Sb (ps.getD s.k 0) s.kw s.am)).getD s.l 0=ps.getD s.l 0:=by rw[U0,VH hkl,<- U0]
 unfold Sd;rw[e0,U0];by_cases h1:i=s.k
 . subst h1;rw[if_pos rfl,VH (VX hkl),VA hk];rfl
 .
  rw[if_neg h1];by_cases h2:i=s.l
  . subst h2;rw[if_pos rfl,VA (by simpa using hl)];rfl
  . rw[if_neg h2,VH (VX h2),VH (VX h1),U0]
theorem AN{R:aL}{ps:List Rat}{k:Nat}{w:Bool}{am:Rat}(h1:0<=ps.getD k 0)(h2:ps.getD k 0<=R.sz k)(a0:0<=am)(a1:am<=R8 R ps k w):0<=Sb (ps.getD k 0) w am/\Sb (ps.getD k 0) w am<=R.sz k:=by
 unfold R8 at a1;unfold Sb
 cases w with
 | true =>
  simp only[W5]at a1 ⊢;refine⟨Ks h1 a0,?_⟩;have:=(Rat.add_le_add_left (c:=ps.getD k 0)).mpr a1;rwa [Kq]at this
 | false =>
  simp only[Wl,WX]at a1 ⊢;exact⟨Kr a1,WJ (GZ a0) h2⟩
theorem cW.slid{R:aL}{ps:List Rat}{s:fk}(h:cW R ps)(hs:M8 R ps s)(hd:∀D:Nat,0<D->(∀a∈R.asks,a.size.den∣D)->(∀p∈ps,p.den∣D)->s.am.den∣D):cW R (Sd ps s):=by
 refine⟨h.ok,by rw[j9];exact h.len,λi hi=>?_,?_⟩
 .
  rw[j9]at hi;rw[xg hs.k hs.l hs.kl];split
  . rename_i e;subst e;exact AN (h.lo _ hs.k).1 (h.lo _ hs.k).2 hs.nn hs.kn
  .
   split
   . rename_i e;subst e;exact AN (h.lo _ hs.l).1 (h.lo _ hs.l).2 hs.nn hs.ln
   . exact h.lo i hi
 .
  obtain⟨D,d0,d1,da,dp⟩:=h.cd;have dm:=hd D d0 da dp;have dk:∀k,k<ps.length->(ps.getD k 0).den∣D:=λk hk=>dp _ (by rw[bj hk];exact U3 hk)
  have db:∀(k:Nat)(w:Bool),k<ps.length->(Sb (ps.getD k 0) w s.am).den∣D:=λk w hk=>by
   unfold Sb;cases w
   . exact mi d0 (dk k hk) dm
   . exact rf d0 (dk k hk) dm
  refine⟨D,d0,d1,da,λp hp=>?_⟩;obtain⟨i,hi,rfl⟩:=VF hp;rw[<- bj hi,xg hs.k hs.l hs.kl];rw[j9]at hi;split
  . exact db _ _ hs.k
  .
   split
   . exact db _ _ hs.l
   . exact dk i hi
theorem AO{R:aL}{ps:List Rat}(h:cW R ps){k:Nat}(hk:k<ps.length)(w:Bool){D:Nat}(d0:0<D)(da:∀a∈R.asks,a.size.den∣D)(dp:∀p∈ps,p.den∣D):(R8 R ps k w).den∣D:=by
 have hk':k<R.asks.length:=by rw[<- h.len];exact hk
 have e1:(ps.getD k 0).den∣D:=dp _ (by rw[bj hk];exact U3 hk);unfold R8;cases w
 . exact e1
 . refine mi d0 ?_ e1;rw[jL hk'];exact da _ (U3 hk')
theorem HY{R:aL}{ps:List Rat}(h:cW R ps){k l:Nat}(hk:k<ps.length)(hl:l<ps.length)(hkl:k≠l)(w:Bool×Bool):M8 R ps (Sg R ps k l w):=by obtain⟨m1,m2,m3,_⟩:=h.ms hk hl w.1 w.2;exact⟨hk,hl,hkl,m1,m2,m3⟩
theorem Ib{R:aL}{ps:List Rat}(h:cW R ps){k l:Nat}(hk:k<ps.length)(hl:l<ps.length)(hkl:k≠l)(w:Bool×Bool):cW R (Sd ps (Sg R ps k l w)):=by
 refine h.slid (HY h hk hl hkl w) λD d0 da dp=>?_;show(R9 R ps k w.1 l w.2).den∣D;rcases(h.ms hk hl w.1 w.2).2.2.2 with e|e
 . rw[e];exact AO h hk _ d0 da dp
 . rw[e];exact AO h hl _ d0 da dp
theorem Ic{R:aL}{ps:List Rat}{k:Nat}{w:Bool}:¬(0<Sb (ps.getD k 0) w (R8 R ps k w)/\Sb (ps.getD k 0) w (R8 R ps k w)<R.sz k):=by
 unfold Sb R8
 cases w with
 | true =>
  simp only[W5];rw[Kq];exact λz=>Rat.lt_irrefl z.2
 | false =>
  simp only[Wl,WX];rw[D2];exact λz=>Rat.lt_irrefl z.1
theorem yZ{p q:Nat->Bool}:∀{l:List Nat}{x:Nat},(∀y∈l,q y=true->p y=true)->x∈l->p x=true->q x=false->(l.filter q).length<(l.filter p).length
 |[],_,_,hx,_,_=>by cases hx
 | a::l,x,h,hx,hp,hq=>by
  have le:∀m:List Nat,(∀y∈m,q y=true->p y=true)->(m.filter q).length<=(m.filter p).length:=λm hm=>by
   induction m with
   |nil=>exact Vb _
   | cons b m ih =>
    have ih:=ih λy hy=>hm y (UW _ hy);have hb:=hm b UZ;rw[Wd,Wd];cases e1:q b<;>cases e2:p b<;>simp_all<;>omega
  have h':∀y∈l,q y=true->p y=true:=λy hy=>h y (UW _ hy);rw[Wd,Wd];rcases Vc.mp hx with rfl|hx
  . rw[hp,hq];have:=le l h';simp;omega
  . have ih:=yZ h' hx hp hq;have hb:=h a UZ;cases e1:q a<;>cases e2:p a<;>simp_all<;>omega
theorem AQ{R:aL}{ps:List Rat}(h:cW R ps){k l:Nat}(hk:k∈Sl R ps)(hl:l∈Sl R ps)(hkl:k≠l)(w:Bool×Bool):(Sl R (Sd ps (Sg R ps k l w))).length<(Sl R ps).length:=by
 obtain⟨hk1,hk2⟩:=iD hk;obtain⟨hl1,hl2⟩:=iD hl;have at_:=xg (s:=Sg R ps k l w) hk1 hl1 hkl;unfold Sl;rw[j9]
 have up:∀y∈List.range ps.length,Sj R (Sd ps (Sg R ps k l w)) y=true->Sj R ps y=true:=λy _ hy=>by
  unfold Sj at hy ⊢;rw[at_]at hy;by_cases e1:y=k
  . subst e1;exact hk2
  .
   by_cases e2:y=l
   . subst e2;exact hl2
   . rw[if_neg (show ¬y=(Sg R ps k l w).k from e1),if_neg (show ¬y=(Sg R ps k l w).l from e2)]at hy;exact hy
 rcases(h.ms hk1 hl1 w.1 w.2).2.2.2 with e|e
 . refine yZ up (Vl.mpr hk1) hk2 ?_;unfold Sj;rw[at_,if_pos (show k=(Sg R ps k l w).k from rfl)];show(decide (0<Sb (ps.getD k 0) w.1 (R9 R ps k w.1 l w.2)) && decide (Sb (ps.getD k 0) w.1 (R9 R ps k w.1 l w.2)<R.sz k))=false;rw[e];have:=Ic (R:=R) (ps:=ps) (k:=k) (w:=w.1);rw[<- Bool.not_eq_true,U7,U5,U5];exact this
 . refine yZ up (Vl.mpr hl1) hl2 ?_;unfold Sj;rw[at_,if_neg (show ¬l=(Sg R ps k l w).k from VX hkl),if_pos (show l=(Sg R ps k l w).l from rfl)];show(decide (0<Sb (ps.getD l 0) w.2 (R9 R ps k w.1 l w.2)) && decide (Sb (ps.getD l 0) w.2 (R9 R ps k w.1 l w.2)<R.sz l))=false;rw[e];have:=Ic (R:=R) (ps:=ps) (k:=l) (w:=w.2);rw[<- Bool.not_eq_true,U7,U5,U5];exact this
noncomputable def u7(R:aL)(ps:List Rat):Option fk:=(Si (Sh R) (Sl R ps)).map λp=>Sg R ps p.1 p.2 (bQ R.n (aN R p.1) (aN R p.2))
noncomputable def nF(R:aL):Nat->List Rat->List fk
 |0,_=>[]
 | n+1,ps=>match u7 R ps with
  |none=>[]
  |some s=>s::nF R n (Sd ps s)
theorem xh{R:aL}{ps:List Rat}(h:cW R ps){k:Nat}(hk:k<ps.length)(w:Bool):RB 3700 (R8 R ps k w):=by
 unfold R8;cases w
 . exact(h.rb hk).mono x_
 . exact((h.sz_rb hk).sub (h.rb hk)).mono x_
end My
set_option exponentiation.threshold 5000
namespace My
open PySem L2
noncomputable def Rh(R:aL)(ps:List Rat)(s:fk):Bool:=!decide (s.k=s.l) && (jK R.n (aN R s.k) s.kw (aN R s.l) s.lw && (decide (0<s.am) && !decide (R9 R ps s.k s.kw s.l s.lw<s.am)))
theorem Ie{R:aL}{ps:List Rat}{k:Nat}(h:Sj R ps k=true)(w:Bool):0<R8 R ps k w:=by
 unfold Sj at h;rw[U7,U5,U5]at h;unfold R8;cases w
 . exact h.1
 . show 0<R.sz k-ps.getD k 0;have:=h.2;rw[<- Rat.not_le]at this ⊢;intro z;apply this;have:=(Rat.add_le_add_left (c:=ps.getD k 0)).mpr z;rw[Kq,Rat.add_zero]at this;exact this
theorem nG{R:aL}{ps:List Rat}{s:fk}(h:cW R ps)(e:u7 R ps=some s):M8 R ps s/\Rh R ps s=true/\cW R (Sd ps s)/\(Sl R (Sd ps s)).length<(Sl R ps).length/\RB 4000 s.am/\s.k∈Sl R ps/\s.l∈Sl R ps:=by
 unfold u7 at e
 cases e1:Si (Sh R) (Sl R ps)with
 |none=>rw[e1]at e;cases e
 | some p =>
  obtain⟨k,l⟩:=p;rw[e1]at e;obtain⟨hk,hl,hkl,hc⟩:=qC (rg R ps) e1;obtain⟨hk1,hk2⟩:=iD hk;obtain⟨hl1,hl2⟩:=iD hl;have hk':k<R.asks.length:=by rw[<- h.len];exact hk1
  have hl':l<R.asks.length:=by rw[<- h.len];exact hl1
  have hkl':k≠l:=by omega
  have ee:Sg R ps k l (bQ R.n (aN R k) (aN R l))=s:=Vq e;subst ee;refine⟨HY h hk1 hl1 hkl' _,?_,Ib h hk1 hl1 hkl' _,AQ h hk hl hkl' _,?_,hk,hl⟩
  .
   unfold Rh;show(!decide (k=l) && (jK R.n (aN R k) (bQ R.n (aN R k) (aN R l)).1 (aN R l) (bQ R.n (aN R k) (aN R l)).2 && (decide (0<R9 R ps k (bQ R.n (aN R k) (aN R l)).1 l (bQ R.n (aN R k) (aN R l)).2) && !decide (R9 R ps k (bQ R.n (aN R k) (aN R l)).1 l (bQ R.n (aN R k) (aN R l)).2<R9 R ps k (bQ R.n (aN R k) (aN R l)).1 l (bQ R.n (aN R k) (aN R l)).2))))=true;rw[Va hkl',GY (by rw[bU hk'];exact h.ok.ask _ (U3 hk')) (by rw[bU hl'];exact h.ok.ask _ (U3 hl')) hc,Va (Rat.lt_irrefl),Vm]
   . rfl
   .
    rcases(h.ms hk1 hl1 (bQ R.n (aN R k) (aN R l)).1 (bQ R.n (aN R k) (aN R l)).2).2.2.2 with z|z
    . rw[z];exact Ie hk2 _
    . rw[z];exact Ie hl2 _
  .
   show RB 4000 (R9 R ps k _ l _);rcases(h.ms hk1 hl1 (bQ R.n (aN R k) (aN R l)).1 (bQ R.n (aN R k) (aN R l)).2).2.2.2 with z|z
   . rw[z];exact(xh h hk1 _).mono x_
   . rw[z];exact(xh h hl1 _).mono x_
theorem G0{R:aL}{ps:List Rat}(e:u7 R ps=none):Si (Sh R) (Sl R ps)=none:=by
 unfold u7 at e
 cases e1:Si (Sh R) (Sl R ps)with
 |none=>rfl
 |some p=>rw[e1]at e;cases e
theorem y3{R:aL}:∀(m:Nat)(ps:List Rat),cW R ps->(nF R m ps).length<=(Sl R ps).length
 |0,_,_=>Wn _
 | m+1,ps,h=>by
  unfold nF
  cases e:u7 R ps with
  |none=>exact Wn _
  | some s =>
   obtain⟨_,_,h2,h3,_⟩:=nG h e;have:=y3 m (Sd ps s) h2;simp only[V5];omega
end My
set_option exponentiation.threshold 5000
namespace My
open PySem L2
end My
set_option exponentiation.threshold 5000
namespace My
open PySem L2
theorem G1{n V W:Nat}(h:n*W<V):(n:Rat)*(W:Rat)<(V:Rat):=by
 have h1:(((n*W:Nat):Int):Rat)<((V:Int):Rat):=Rat.intCast_lt_intCast.mpr xL;have h2:(((n*W:Nat):Int):Rat)=(n:Rat)*(W:Rat):=by push_cast;rfl
 rw[<- h2];exact h1
theorem D3(R:aL):d8 (R.asks.map iy)=(List.range R.asks.length).map λ(k:Nat)=>D.tup [.int (k:Int),iy (aN R k)]:=by
 apply List.ext_getElem?;intro k;by_cases hk:k<R.asks.length
 . rw[Vf,WH hk];simp[d8,hk,aN]
 . rw[Wu (by simp[d8];omega),Wu (by simp;omega)]
theorem xi{R:aL}{ps:List Rat}(h:cW R ps):(∀k t,RB 1900 (aZ R.n (R.asks.take k) (ps.take k) t))/\∀t,RB 1900 (aZ R.n R.asks ps t):=by
 obtain⟨D,d0,d1,da,dp⟩:=h.cd
 have key:∀k t,RB 1900 (aZ R.n (R.asks.take k) (ps.take k) t):=λk t=>by
  unfold aZ;have hz:∀ x∈(R.asks.take k).zip (ps.take k),∃ i,i < R.asks.length/\x=(R.asks.getD i ⟨"",0,0,0⟩,ps.getD i 0):=λx hx=>by obtain⟨i,hi,rfl⟩:=VF hx;rw[Vy,Wp,Wp,h.len]at hi;refine⟨i,xL,?_⟩;rw[V1,List.getElem_take,List.getElem_take,U0,tu xL,bj (by rw[h.len];omega)];rfl
  have hs:∀x∈(R.asks.take k).zip (ps.take k),0<=mf R.n x.1 x.2 t/\mf R.n x.1 x.2 t<((2^300:Nat):Rat)/\(mf R.n x.1 x.2 t).den∣D:=λx hx=>by
   obtain⟨i,hi,rfl⟩:=hz x hx;obtain⟨l0,l1⟩:=h.lo i (by rw[h.len];exact hi);rw[jL hi]at l1;have e:R.asks.getD i ⟨"",0,0,0⟩=R.asks[i]:=by rw[U0,tu hi]; rfl
   rw[e];have hd1:=da _ (U3 hi);have hd2:(ps.getD i 0).den∣D:=by rw[bj (by rw[h.len];exact hi)];exact dp _ (U3 _)
   have b:=yT (n:=R.n) (a:=R.asks[i]) l0 l1 t;refine⟨b.1,Se b.2 (h.ok.ask _ (U3 hi)).lt,?_⟩;show(mf R.n R.asks[i] (ps.getD i 0) t).den∣D;unfold mf;split
   . exact hd2
   . exact mi d0 hd1 hd2
  refine RB.of_val (v:=400) (d:=1500) (qY _ _ λx hx=>(hs x hx).1) ?_ ?_
  . refine Ve (Wy d0 (DQ d0 _ λq hq=>?_)) d1;obtain⟨x,hx,rfl⟩:=VO.mp hq;exact(hs x hx).2.2
  .
   refine Rat.not_le.mp λhge=>?_;have h1:=DS (V:=((2^300:Nat):Rat)) x_ (((R.asks.take k).zip (ps.take k)).map λx=>mf R.n x.1 x.2 t) λq hq=>by obtain⟨x,hx,rfl⟩:=VO.mp hq;exact(hs x hx).2.1
   rw[U4]at h1
   have h2:=G1 (n:=((R.asks.take k).zip (ps.take k)).length) (V:=2^400) (W:=2^300) (by
    have:=h.ok.few;have hl:((R.asks.take k).zip (ps.take k)).length<=20:=by rw[Vy,Wp];omega
    exact Ve (Nat.mul_le_mul_right _ hl) x_)
   exact absurd (WJ hge h1) (Rat.not_le.mpr h2)
 refine⟨key,λt=>?_⟩;have:=key R.asks.length t;rwa [VU (Vb _),VU (by rw[h.len];exact Vb _)]at this
noncomputable def vT:D->Bool
 |.str z=>decide (z=Str.ofString "on") ||decide (z=Str.ofString "back")
 |_=>false
theorem Kt(z:Str):QR (.str z) [.str (Str.ofString "on"),.str (Str.ofString "back")]=vT (.str z):=by
 have e1:(Str.ofString "on" == z)=decide (z=Str.ofString "on"):=by rw[WG,WE,decide_eq_true_iff]; exact eq_comm
 have e2:(Str.ofString "back" == z)=decide (z=Str.ofString "back"):=by rw[WG,WE,decide_eq_true_iff]; exact eq_comm
 show(Str.ofString "on" == z ||(Str.ofString "back" == z ||false))=_;rw[e1,e2,W4];rfl
theorem D4{h:D->D}{caps:Ev}{te:W L}{k:List D->Ev->Prop}(xs:List D)(acc:List D)(l:L)
  (step:∀a∈xs,∀Q:Ev->D->Prop,Q (.d a::caps) (h a)->te (.d a::caps) λr Z3=>QX r λy=>Q Z3 y)
  (Qm:∀l',k (acc++xs.map h) (l'::caps)):fh (bp 0) ma te xs (l::caps) acc k:=by
 have:=k6 (enc:=id) (h:=h) xs acc l step Qm;rwa [List.map_id]at this
structure Pt (n:Nat) (d:D):Prop where
 dep:Ah d<=n
 wid:Cc d<=99
 same:Ao (20+n) d=true
theorem Pt.int(i:Int):Pt 0 (.int i):=⟨by simp[Ah],by simp[Cc],by simp[Ao]⟩
theorem Pt.str(z:Str):Pt 0 (.str z):=⟨by simp[Ah],by simp[Cc],by simp[Ao]⟩
end My
set_option exponentiation.threshold 5000
namespace My
open PySem L2
noncomputable def mj:D->Option Bool
 |.str z=>if z=fK true then some true else if z=fK false then some false else none
 |_=>none
noncomputable def rh:D->Option Nat
 |.int i=>if 0<=i then some i.toNat else none
 |_=>none
noncomputable def xj(d:D):Option Rat:=match d with
 |.tup [.int i,.int j]=>if yW (.tup [.int i,.int j])then some (Rat.divInt i j)else none
 |_=>none
noncomputable def qD:D->Option fk
 | .tup [a,b,c,d,e]=>match rh a,mj b,rh c,mj d,xj e with
  |some k,some kw,some l,some lw,some am=>some ⟨k,kw,l,lw,am⟩
  |_,_,_,_,_=>none
 |_=>none
theorem u9{d:D}{w:Bool}(h:mj d=some w):d=.str (fK w):=by
 unfold mj at h;split at h
 .
  split at h
  . rename_i e;cases h;rw[e]
  .
   split at h
   . rename_i e;cases h;rw[e]
   . cases h
 . cases h
theorem rj(w:Bool):mj (.str (fK w))=some w:=by cases w<;>decide +kernel
theorem va(d:D):vT d=(mj d).isSome:=by
 unfold vT mj
 cases d with
 | str z =>
  have e1:fK true=Str.ofString "on":=rfl;have e2:fK false=Str.ofString "back":=rfl;rw[<- e1,<- e2];by_cases h1:z=fK true
  . simp[h1]
  .
   by_cases h2:z=fK false
   . simp[h1,h2];split<;>rfl
   . simp[h1,h2]
 |_=>rfl
theorem AR{d:D}{k:Nat}(h:rh d=some k):d=.int (k:Int):=by
 unfold rh at h;split at h
 .
  split at h
  .
   cases h
   congr 1
   omega
  . cases h
 . cases h
theorem D5(k:Nat):rh (.int (k:Int))=some k:=by
 show(if(0:Int)<=(k:Int)then some ((k:Int)).toNat else none)=_
 rw[if_pos (by omega)];rfl
theorem G2{d:D}{q:Rat}(h:xj d=some q):d=Rl q:=by
 unfold xj at h;split at h
 .
  rename_i i j;split at h
  .
   rename_i e;cases h;show D.tup [.int i,.int j]=_;have e':(decide (1<=j) && decide ((Int.gcd i j:Int)=1))=true:=e;rw[U7,U5,U5]at e';obtain⟨h1,h2⟩:=e';have h3:Nat.gcd i.natAbs j.natAbs=1:=Int.ofNat_inj.mp h2;obtain⟨m,rfl⟩:=WC (show 0<=j by omega);have hm:m≠0:=by omega
   have h3':i.natAbs.Coprime m:=by rw[Vj]at h3;exact h3
   have em:Rat.divInt i (m:Int)=Rat.mk' i m hm h3':=by rw[Rat.mk_eq_divInt]
   rw[em];rfl
  . cases h
 . cases h
theorem G3(q:Rat):yW (Rl q)=true:=by unfold Rl yW;have h1:=q.den_pos;have h2:=q.reduced;unfold Nat.Coprime at h2;rw[U7,U5,U5];refine⟨xL,?_⟩;show((Nat.gcd q.num.natAbs ((q.den:Int)).natAbs:Nat):Int)=1;rw[Vj,h2];rfl
theorem G4(q:Rat):xj (Rl q)=some q:=by
 show(if yW (.tup [.int q.num,.int (q.den:Int)])then some (Rat.divInt q.num (q.den:Int))else none)=_
 rw[show yW (.tup [.int q.num,.int (q.den:Int)])=true from G3 q,if_pos rfl,VE]
theorem Ku(d:D):yW d=(xj d).isSome:=by
 by_cases h:∃i j,d=.tup [.int i,.int j]
 .
  obtain⟨i,j,rfl⟩:=h
  show _=(if yW (.tup [.int i,.int j])then some (Rat.divInt i j)else none).isSome
  cases e:yW (.tup [.int i,.int j])<;>rfl
 .
  have hn:∀i j,d≠.tup [.int i,.int j]:=λi j e=>h ⟨i,j,e⟩;rw[DX hn];unfold xj;split
  . exact absurd rfl (hn _ _)
  . rfl
theorem ml(s:fk):qD (R7 s)=some s:=by simp only[R7,qD,D5,rj,G4]
theorem D6{d:D}{s:fk}(h:qD d=some s):d=R7 s:=by
 unfold qD at h;split at h
 .
  split at h
  . rename_i h1 h2 h3 h4 h5;cases h;rw[AR h1,u9 h2,AR h3,u9 h4,G2 h5];rfl
  . cases h
 . cases h
noncomputable def tH(n:Nat)(d:D):Bool:=match qD d with
 |some s=>decide (s.k<n) && decide (s.l<n)
 |none=>false
noncomputable def rl(d:D)(n:Int):Bool:=match d with
 |.int i=>decide (0<=i/\i<n)
 |_=>false
theorem AS(d:D)(n:Nat):rl d (n:Int)=match rh d with|some k=>decide (k<n)|none=>false:=by
 unfold rl rh
 cases d with
 | int i =>
  by_cases h:0<=i
  . simp only[h,W5,true_and];rw[WM];omega
  . simp only[h,WX,false_and,decide_false]
 |_=>rfl
theorem Kv(n:Nat)(a b c d e:D):tH n (.tup [a,b,c,d,e])=(rl a n && (rl c n && (vT b && (vT d && yW e)))):=by
 rw[AS,AS,va,va,Ku];unfold tH
 have e0:qD (.tup [a,b,c,d,e])=match rh a,mj b,rh c,mj d,xj e with
  |some k,some kw,some l,some lw,some am=>some ⟨k,kw,l,lw,am⟩
  |_,_,_,_,_=>none:=rfl
 rw[e0];cases rh a<;>cases mj b<;>cases rh c<;>cases mj d<;>cases xj e<;>simp
theorem D7{n:Nat}{xs:List D}(h:xs.length≠5):tH n (.tup xs)=false:=by
 have:qD (.tup xs)=none:=by
  unfold qD;split
  . rename_i eq;cases eq;exact absurd rfl h
  . rfl
 unfold tH;rw[this]
theorem G5{n:Nat}{d:D}(h:∀xs,d≠.tup xs):tH n d=false:=by
 have:qD d=none:=by
  unfold qD;split
  . exact absurd rfl (h _)
  . rfl
 unfold tH;rw[this]
theorem PQ{xs:List D}(h:xs.length=5):∃a b c d e,xs=[a,b,c,d,e]:=by
 match xs,h with
 |[a,b,c,d,e],_=>exact⟨a,b,c,d,e,rfl⟩
noncomputable def Sm(R:aL)(ps:List Rat)(d:D):Bool:=match qD d with
 |some s=>decide (s.k<ps.length) && (decide (s.l<ps.length) && Rh R ps s)
 |none=>false
theorem Ig{R:aL}{ps:List Rat}{s:fk}(hk:s.k<ps.length)(hl:s.l<ps.length):Sm R ps (R7 s)=Rh R ps s:=by unfold Sm;rw[ml];simp[hk,hl]
theorem D8{R:aL}{ps:List Rat}{d:D}(h:Sm R ps d=true):∃s,d=R7 s/\s.k<ps.length/\s.l<ps.length/\Rh R ps s=true:=by
 unfold Sm at h;split at h
 . rename_i s e;rw[U7,U7,U5,U5]at h;exact⟨s,D6 e,h.1,h.2.1,h.2.2⟩
 . cases h
end My
set_option exponentiation.threshold 5000
namespace My
open PySem L2
noncomputable def Sn(b:Bool)(q:Rat):Rat:=if b then q else -q
theorem AU{n t:Nat}:∀(as:List RT)(ps:List Rat)(k:Nat)(x:Rat)(h1:k<as.length)(h2:k<ps.length),aZ n as (ps.set k x) t+mf n as[k] ps[k] t=aZ n as ps t+mf n as[k] x t
 | a::as,p::ps,0,x,_,_=>by unfold aZ;simp only[List.set_cons_zero,Wm,Vo,aT,List.getElem_cons_zero];grind
 | a::as,p::ps,k+1,x,h1,h2=>by have ih:=AU (n:=n) (t:=t) as ps k x (by simpa using h1) (by simpa using h2);unfold aZ at ih ⊢;simp only[List.set_cons_succ,Wm,Vo,aT,List.getElem_cons_succ];grind
 |[],_,k,_,h1,_=>by simp at h1
 |_::_,[],k,_,_,h2=>by simp at h2
theorem Kw(n:Nat)(a:RT)(p:Rat)(w:Bool)(am:Rat)(t:Nat):mf n a (Sb p w am) t=mf n a p t+Sn (me n a t == w) am:=by unfold mf Sb Sn;cases me n a t<;>cases w<;>simp<;>grind
theorem D9{n t:Nat}{as:List RT}{ps:List Rat}{k:Nat}(h1:k<as.length)(h2:k<ps.length)(w:Bool)(am:Rat):aZ n as (ps.set k (Sb (ps.getD k 0) w am)) t=aZ n as ps t+Sn (me n as[k] t == w) am:=by have h:=AU (n:=n) (t:=t) as ps k (Sb (ps.getD k 0) w am) h1 h2;rw[Kw,bj h2]at h;rw[bj h2];grind
theorem Kx{n t:Nat}{as:List RT}{ps:List Rat}{s:fk}(hk:s.k<as.length)(hl:s.l<as.length)(hp:ps.length=as.length):aZ n as (Sd ps s) t=aZ n as ps t+Sn (me n as[s.k] t == s.kw) s.am+Sn (me n as[s.l] t == s.lw) s.am:=by unfold Sd;rw[D9 hl (by simpa[hp]using hl),D9 hk (by rw[hp];exact hk)]
theorem G6{R:aL}{ps:List Rat}{s:fk}(hS:cW R ps)(hk:s.k<R.asks.length)(hl:s.l<R.asks.length)(hb:Rh R ps s=true){t:Nat}(ht:t<R.n) :
  aZ R.n R.asks (Sd ps s) t=if(me R.n R.asks[s.k] t == s.kw)=true∨(me R.n R.asks[s.l] t == s.lw)=true then aZ R.n R.asks ps t else aZ R.n R.asks ps t-(s.am+s.am):=by
 unfold Rh at hb;rw[bU hk,bU hl]at hb;simp only[U7,Wr,VZ,U5]at hb;obtain⟨_,hn,_⟩:=hb;have ak:=hS.ok.ask _ (U3 hk);have al:=hS.ok.ask _ (U3 hl);have no:=D1 ak al hn t;rw[oI ak s.kw ht,oI al s.lw ht]at no;rw[Kx hk hl hS.len];cases e1:(me R.n R.asks[s.k] t == s.kw)<;>cases e2:(me R.n R.asks[s.l] t == s.lw)
 . simp[Sn];grind
 . simp[Sn];grind
 . simp[Sn];grind
 . exact absurd e2 (no e1)
theorem Ea{R:aL}{ps:List Rat}{s:fk}(hS:cW R ps)(hk:s.k<R.asks.length)(hl:s.l<R.asks.length)(hb:Rh R ps s=true){t:Nat}(ht:t<R.n):¬aZ R.n R.asks ps t<aZ R.n R.asks (Sd ps s) t:=by
 rw[G6 hS hk hl hb ht];have ha:0<s.am:=by unfold Rh at hb;simp only[U7,U5]at hb;exact hb.2.2.1
 split
 . exact Rat.lt_irrefl
 . grind
theorem Eb{R:aL}{ps:List Rat}{s:fk}(h:cW R ps)(e:u7 R ps=some s){D:Nat}(d0:0<D)(da:∀a∈R.asks,a.size.den∣D)(dp:∀p∈ps,p.den∣D):s.am.den∣D:=by
 unfold u7 at e
 cases e1:Si (Sh R) (Sl R ps)with
 |none=>rw[e1]at e;cases e
 | some p =>
  obtain⟨k,l⟩:=p;rw[e1]at e;obtain⟨hk,hl,hkl,hc⟩:=qC (rg R ps) e1;obtain⟨hk1,hk2⟩:=iD hk;obtain⟨hl1,hl2⟩:=iD hl;have ee:Sg R ps k l (bQ R.n (aN R k) (aN R l))=s:=Vq e;subst ee;show(R9 R ps k _ l _).den∣D;rcases(h.ms hk1 hl1 (bQ R.n (aN R k) (aN R l)).1 (bQ R.n (aN R k) (aN R l)).2).2.2.2 with z|z
  . rw[z];exact AO h hk1 _ d0 da dp
  . rw[z];exact AO h hl1 _ d0 da dp
noncomputable def Ih(n:Nat)(d:D):Bool:=match d with
 |.lst xs=>decide (xs.length=n) && xs.all vT
 |_=>false
end My
set_option exponentiation.threshold 5000
namespace My
open PySem L2
noncomputable def dj(R:aL):Nat->List Rat->List Rat
 |0,ps=>ps
 | m+1,ps=>match u7 R ps with
  |none=>ps
  |some s=>dj R m (Sd ps s)
theorem AV{R:aL}:∀(m:Nat)(ps:List Rat),cW R ps->(Sl R ps).length<=m->u7 R (dj R m ps)=none
 | 0,ps,h,hm=>by
  cases e:u7 R (dj R 0 ps)with
  |none=>rfl
  | some s =>
   have:=(nG h e).2.2.2.1;omega
 | m+1,ps,h,hm=>by
  unfold dj
  cases e:u7 R ps with
  |none=>exact e
  | some s =>
   obtain⟨_,_,h3,h4,_⟩:=nG h e;exact AV m (Sd ps s) h3 xL
end My
set_option exponentiation.threshold 5000
namespace My
open PySem L2
noncomputable def So(a:RT):Nat:=min a.one a.other
noncomputable def Sq(R:aL)(k:Nat):Nat:=So (R.asks.getD k ⟨"",0,0,0⟩)
noncomputable def tI(R:aL)(k:Nat):Bool:=decide ((R.asks.getD k ⟨"",0,0,0⟩).one < (R.asks.getD k ⟨"",0,0,0⟩).other)
noncomputable def Sr(R:aL)(ks:List Nat)(g:Rat):Rat:=ks.foldl (λg k=>if g<R.sz k then R.sz k else g) g
noncomputable def bI(R:aL)(ks:List Nat):Rat:=Sr R ks 0*(1 / 2)
noncomputable def cz(R:aL)(ps:List Rat)(k:Nat)(w:Bool):Rat:=(if w=tI R k then R.sz k else 0)-(if tI R k=true then ps.getD k 0 else R.sz k-ps.getD k 0)
noncomputable def Ss(R:aL)(ps:List Rat)(hf t:Rat)(k:Nat):Bool:=if hf<t+cz R ps k (tI R k)then !tI R k else tI R k
noncomputable def Su(R:aL)(ps:List Rat)(hf:Rat):Rat->List Bool->List Nat->List Bool
 |_,ws,[]=>ws
 |t,ws,k::os=>Su R ps hf (t+cz R ps k (Ss R ps hf t k)) (ws.set k (Ss R ps hf t k)) os
noncomputable def Sv(R:aL)(ps:List Rat):List Bool:=(R.asks.zip ps).map λx=>decide (x.2=x.1.size)
noncomputable def Sw(R:aL)(ps:List Rat)(ks:List Nat)(ws:List Bool)(k:Nat):Bool:=decide (k∈ks) ||decide (R.sz k=0) ||decide (ws.getD k true=decide (ps.getD k 0=R.sz k))
noncomputable def Sx(hf:Rat):Rat->List Rat->Bool
 |_,[]=>true
 |t,g::gs=>!(decide (hf<t+g) ||decide (t+g<0-hf)) && Sx hf (t+g) gs
noncomputable def Sy(R:aL)(ps:List Rat)(ws:List Bool)(os:List Nat):List Rat:=os.map λk=>cz R ps k (ws.getD k true)
theorem Ec(R:aL)(k:Nat):R.asks.getD k ⟨"",0,0,0⟩=aN R k:=by unfold aN;rw[U0]
theorem vb(R:aL)(k:Nat):Sq R k=pM (aN R k):=by unfold Sq So pM;rw[Ec]
theorem Ky(R:aL)(k:Nat):tI R k=Sf (aN R k):=by unfold tI Sf;rw[Ec]
theorem Ed(R:aL):∀(ks:List Nat)(g:Rat),g<=Sr R ks g/\∀k∈ks,R.sz k<=Sr R ks g
 |[],g=>⟨W9,λk h=>by cases h⟩
 | k::ks,g=>by
  obtain⟨h1,h2⟩:=Ed R ks (if g<R.sz k then R.sz k else g)
  have e:Sr R (k::ks) g=Sr R ks (if g<R.sz k then R.sz k else g):=rfl
  rw[e]
  have a:g<=(if g<R.sz k then R.sz k else g)/\R.sz k<=(if g<R.sz k then R.sz k else g):=by
   split
   . rename_i h;exact⟨Rat.le_of_lt h,W9⟩
   . rename_i h;exact⟨W9,W3.mp h⟩
  refine⟨WJ a.1 h1,λx hx=>?_⟩;rcases Vc.mp hx with rfl|hx
  . exact WJ a.2 h1
  . exact h2 x hx
theorem vc(R:aL)(ks:List Nat):bI R ks+bI R ks=Sr R ks 0:=by unfold bI;grind
theorem Ee(R:aL)(ks:List Nat):0<=bI R ks:=by have:=(Ed R ks 0).1;have:=vc R ks;grind
theorem Kz(R:aL)(ks:List Nat){k:Nat}(h:k∈ks):R.sz k<=bI R ks+bI R ks:=by rw[vc];exact(Ed R ks 0).2 k h
theorem AW{R:aL}{ps:List Rat}{hf:Rat}:∀(os:List Nat)(t:Rat)(ws:List Bool),(Su R ps hf t ws os).length=ws.length
 |[],_,_=>rfl
 | k::os,t,ws=>by show(Su R ps hf _ (ws.set k _) os).length=_;rw[AW,Wc]
theorem Ef{R:aL}{ps:List Rat}{hf:Rat}:∀(os:List Nat)(t:Rat)(ws:List Bool){j:Nat},j∉os->(Su R ps hf t ws os).getD j true=ws.getD j true
 |[],_,_,_,_=>rfl
 | k::os,t,ws,j,h=>by show(Su R ps hf _ (ws.set k _) os).getD j true=_;rw[Ef os _ _ (λz=>h (UW _ z)),U0,VH (λz=>h (by simp[z])),U0]
theorem KA{R:aL}{ps:List Rat}{k:Nat}(h0:0<=ps.getD k 0)(h1:ps.getD k 0<=R.sz k):0<=cz R ps k (tI R k)/\cz R ps k (!tI R k)=cz R ps k (tI R k)-R.sz k/\cz R ps k (!tI R k)<=0:=by unfold cz;cases tI R k<;>simp<;>grind
theorem M9{R:aL}{ps:List Rat}{hf:Rat}:∀(os:List Nat)(t:Rat)(ws:List Bool),os.Nodup->(∀k∈os,k<ws.length/\0<=ps.getD k 0/\ps.getD k 0<=R.sz k/\R.sz k<=hf+hf)->0-hf<=t->t<=hf->Sx hf t (Sy R ps (Su R ps hf t ws os) os)=true
 |[],_,_,_,_,_,_=>rfl
 | k::os,t,ws,hn,h,t0,t1=>by
  obtain⟨n1,n2⟩:=VC.mp hn;obtain⟨hk,p0,p1,s1⟩:=h k UZ;obtain⟨g0,g1,g2⟩:=KA p0 p1;have ew:(Su R ps hf t ws (k::os)).getD k true=Ss R ps hf t k:=by show(Su R ps hf _ (ws.set k _) os).getD k true=_;rw[Ef os _ _ n1,U0,VA hk];rfl
  have eg:Sy R ps (Su R ps hf t ws (k::os)) (k::os)=cz R ps k (Ss R ps hf t k)::Sy R ps (Su R ps hf (t+cz R ps k (Ss R ps hf t k)) (ws.set k (Ss R ps hf t k)) os) os:=by show cz R ps k _::_=_;rw[ew];rfl
  rw[eg]
  have b:0-hf<=t+cz R ps k (Ss R ps hf t k)/\t+cz R ps k (Ss R ps hf t k)<=hf:=by
   unfold Ss;split
   . grind
   . rename_i c;have:=W3.mp c;grind
  show(!(decide (hf<t+cz R ps k (Ss R ps hf t k)) ||decide (t+cz R ps k (Ss R ps hf t k)<0-hf)) && _)=true;rw[Va (W3.mpr b.2),Va (W3.mpr b.1)];exact M9 os _ _ n2 (λj hj=>by rw[Wc];exact h j (UW _ hj)) b.1 b.2
theorem Eg{hf:Rat}:∀(as:List Rat)(t:Rat),0-hf<=t->t<=hf->Sx hf t as=true->0-hf<=t+gN as/\t+gN as<=hf
 | [],t,a,b,_=>by have:gN ([]:List Rat)=0:=rfl;grind
 | g::as,t,a,b,h=>by unfold Sx at h;rw[U7,Wr,Bool.or_eq_false_iff,VZ,VZ]at h;obtain⟨⟨h1,h2⟩,h3⟩:=h;have:=Eg as (t+g) (W3.mp h2) (W3.mp h1) h3;rw[aT];grind
theorem Ii{hf:Rat}:∀(as bs:List Rat)(t:Rat),Sx hf t (as++bs)=true->Sx hf t as=true
 |[],_,_,_=>rfl
 | g::as,bs,t,h=>by rw[W8]at h;unfold Sx at h ⊢;rw[U7]at h ⊢;exact⟨h.1,Ii as bs _ h.2⟩
theorem Eh(f:Nat->Nat)(t:Nat):∀(l:List Nat),l.Pairwise (λi j=>f i<f j)->∃l1 l2,l=l1++l2/\(∀k∈l1,f k<=t)/\∀k∈l2,t<f k
 |[],_=>⟨[],[],rfl,v6,v6⟩
 | k::l,h=>by
  obtain⟨h1,h2⟩:=WS.mp h;by_cases c:f k<=t
  .
   obtain⟨l1,l2,e,a,b⟩:=Eh f t l h2;refine⟨k::l1,l2,by rw[e];rfl,λx hx=>?_,b⟩;rcases Vc.mp hx with rfl|hx
   . exact c
   . exact a x hx
  .
   refine⟨[],k::l,rfl,v6,λx hx=>?_⟩;rcases Vc.mp hx with rfl|hx
   . omega
   . have:=h1 x hx;omega
theorem G7{hf:Rat}{g:Nat->Rat}{lo hi:Nat->Nat}(t:Nat)(os:List Nat)(h0:0<=hf)(hlh:∀k∈os,lo k<hi k)(hp:os.Pairwise λi j=>lo i<lo j/\lo j<hi i/\hi i<hi j)(hw:Sx hf 0 (os.map g)=true) :
  gN (os.map λk=>if lo k<=t/\t<hi k then g k else-g k)<=hf+hf+hf:=by
 have two:∀(l1 l2:List Nat),os=l1++l2->(0-hf<=gN (l1.map g)/\gN (l1.map g)<=hf)/\(0-hf<=gN (l1.map g)+gN (l2.map g)/\gN (l1.map g)+gN (l2.map g)<=hf):=λl1 l2 e=>by rw[e,Wb]at hw;have a:=Eg _ 0 (by grind) h0 (Ii _ _ _ hw);have b:=Eg _ 0 (by grind) h0 hw;rw[qv]at b;grind
 have neg:∀l:List Nat,gN (l.map λk=>- g k)=- gN (l.map g):=λl=>by rw[<- GA,VM];rfl
 cases os with
 | nil =>
  show(0:Rat)<=_;grind
 | cons k0 l =>
  obtain⟨p1,_⟩:=WS.mp hp;by_cases c:t<hi k0
  .
   obtain⟨l1,l2,e,a,b⟩:=Eh lo t (k0::l) (hp.imp λh=>h.1)
   have hh:∀k∈k0::l,t<hi k:=λk hk=>by
    rcases Vc.mp hk with rfl|hk
    . exact c
    . have:=(p1 k hk).2.2;omega
   obtain⟨q1,q2⟩:=two l1 l2 e;rw[e]at hh;rw[e,Wb,qv,iC (g:=g) (xs:=l1) λk hk=>if_pos ⟨a k hk,hh k (Vh _ hk)⟩,iC (g:=λk=>- g k) (xs:=l2) λk hk=>if_neg (by have:=b k hk;omega),neg];grind
  .
   obtain⟨l1,l2,e,a,b⟩:=Eh hi t (k0::l) (hp.imp λh=>h.2.2)
   have hh:∀k∈k0::l,lo k<=t:=λk hk=>by
    rcases Vc.mp hk with rfl|hk
    . have:=hlh k UZ;omega
    . have:=(p1 k hk).2.1;omega
   obtain⟨q1,q2⟩:=two l1 l2 e;rw[e]at hh;rw[e,Wb,qv,iC (g:=λk=>- g k) (xs:=l1) λk hk=>if_neg (by have:=a k hk;omega),iC (g:=g) (xs:=l2) λk hk=>if_pos ⟨hh k (Vi _ hk),b k hk⟩,neg];grind
theorem Ei{as bs:List Rat}(h:as.Perm bs):gN as=gN bs:=by
 induction h with
 |nil=>rfl
 |cons x _ ih=>rw[aT,aT,ih]
 |swap x y l=>rw[aT,aT,aT,aT];grind
 |trans _ _ a b=>rw[a,b]
theorem AX{R:aL}{ps:List Rat}(h:ps.length=R.asks.length)(t:Nat):aZ R.n R.asks ps t=gN ((List.range R.asks.length).map λk=>mf R.n (aN R k) (ps.getD k 0) t):=by
 unfold aZ
 congr 1
 refine Wo (by simp[h]) λj h1 h2=>?_;have hj:j<R.asks.length:=by simpa using h2
 rw[W7,V1,W7,List.getElem_range,bU hj,bj xL]
theorem AY{R:aL}{qs:List Rat}{os:List Nat}(hc:Si (Sh R) (Sl R qs)=none)(op:os.Perm (Sl R qs))(ow:os.Pairwise λi j=>Sq R i<=Sq R j) :
  os.Pairwise λi j=>pM (aN R i)<pM (aN R j)/\pM (aN R j)<fQ (aN R i)/\fQ (aN R i)<fQ (aN R j):=by
 have hn:os.Nodup:=op.nodup_iff.mpr ((rg R qs).imp λh=>Vp h);have cr:=u6 (rg R qs) hc;have ow2:os.Pairwise λi j=>Sq R i<=Sq R j/\i≠j:=List.Pairwise.and ow hn;refine List.Pairwise.imp_of_mem (λ{i j} hi hj h=>?_) ow2;obtain⟨h1,h2⟩:=h;rw[vb,vb]at h1
 have c:Sh R i j=true∨Sh R j i=true:=by
  rcases Nat.lt_or_gt_of_ne h2 with q|q
  . exact .inl (cr i j (op.mem_iff.mp hi) (op.mem_iff.mp hj) q)
  . exact .inr (cr j i (op.mem_iff.mp hj) (op.mem_iff.mp hi) q)
 unfold Sh NN at c;simp only[Bool.or_eq_true,U5]at c;omega
theorem G8{R:aL}{qs xs:List Rat}{ws:List Bool}{os:List Nat}(hS:cW R qs)(hx:xs.length=R.asks.length)(hxk:∀k,k<R.asks.length->xs.getD k 0=if ws.getD k true then R.sz k else 0)
  (hc:Si (Sh R) (Sl R qs)=none) (kw:(List.range R.asks.length).all (Sw R qs (Sl R qs) ws)=true) (op:os.Perm (Sl R qs)) (ow:os.Pairwise λi j=>Sq R i<=Sq R j) (wi:Sx (bI R (Sl R qs)) 0 (Sy R qs ws os)=true) {t:Nat} (ht:t<R.n) :
  aZ R.n R.asks xs t<=aZ R.n R.asks qs t+(bI R (Sl R qs)+bI R (Sl R qs)+bI R (Sl R qs)):=by
 have ql:=hS.len;have pw:=AY hc op ow;have hk:∀k∈os,k<R.asks.length:=λk m=>by have:=(iD (op.mem_iff.mp m)).1;omega
 have lh:∀k∈os,pM (aN R k)<fQ (aN R k):=λk m=>by have:=(hS.ok.ask _ (U3 (hk k m))).ne;rw[bU (hk k m)];unfold pM fQ;omega
 have key:=G7 (g:=λk=>cz R qs k (ws.getD k true)) t os (Ee R (Sl R qs)) lh pw wi
 have df:aZ R.n R.asks xs t-aZ R.n R.asks qs t=gN (os.map λk=>if pM (aN R k)<=t/\t<fQ (aN R k)then cz R qs k (ws.getD k true)else-cz R qs k (ws.getD k true)):=by
  rw[AX hx,AX ql,AI,Ei (op.map _)];unfold Sl;rw[q5,ql];refine iC λk hk=>?_;have hk:=Vl.mp hk;have ha:=hS.ok.ask _ (U3 hk);have oi:=uj ha ht;have lo:=hS.lo k xL;have sz:(aN R k).size=R.sz k:=by rw[bU hk,jL hk]
  rw[<- bU hk]at oi;rw[hxk k hk];by_cases c:Sj R qs k=true
  .
   rw[if_pos c];unfold mf cz;rw[Ky,sz];by_cases o:pM (aN R k)<=t/\t<fQ (aN R k)
   . rw[if_pos o];have e:=oi.mpr o;rw[WE]at e;rw[e];cases Sf (aN R k)<;>cases ws.getD k true<;>simp<;>grind
   .
    rw[if_neg o];have e:me R.n (aN R k) t=!Sf (aN R k):=by have:¬(me R.n (aN R k) t == Sf (aN R k))=true:=λz=>o (oi.mp z);rw[WE]at this;exact Bool.eq_not_of_ne this
    rw[e];cases Sf (aN R k)<;>cases ws.getD k true<;>simp<;>grind
  .
   rw[if_neg c];have q:=VI.mp kw k (Vl.mpr hk);unfold Sw at q;rw[Bool.or_eq_true,Bool.or_eq_true,U5,U5,U5]at q;have np:k∉Sl R qs:=λm=>c (iD m).2
   have e:(if ws.getD k true then R.sz k else 0)=qs.getD k 0:=by
    unfold Sj at c;rw[U7,U5,U5]at c;rcases q with(q|q)|q
    . exact absurd q np
    . rw[q];rw[q]at lo;split<;>grind
    .
     rw[q];by_cases z:qs.getD k 0=R.sz k
     . rw[if_pos (Vm z),z]
     . rw[if_neg (by rw[Va z];decide)];grind
   rw[e];grind
 rw[<- df]at key;grind
theorem y4{R:aL}{qs:List Rat}(hS:cW R qs){os:List Nat}(op:os.Perm (Sl R qs))(hf:Rat):(List.range R.asks.length).all (Sw R qs (Sl R qs) (Su R qs hf 0 (Sv R qs) os))=true:=by
 rw[VI];intro k hk;have hk:=Vl.mp hk;have ql:=hS.len;unfold Sw;by_cases m:k∈Sl R qs
 . rw[Vm m];rfl
 .
  rw[Ef os _ _ λz=>m (op.mem_iff.mp z)];have e:(Sv R qs).getD k true=decide (qs.getD k 0=R.sz k):=by unfold Sv;rw[U0,Vf,tu (by rw[Vy];omega),V1,jL hk,bj xL];rfl
  rw[e,Vm (rfl:decide (qs.getD k 0=R.sz k)=decide (qs.getD k 0=R.sz k)),Bool.or_true]
theorem xk{R:aL}{qs:List Rat}(hS:cW R qs):(Sv R qs).length=R.asks.length:=by have:=hS.len;unfold Sv;rw[U4,Vy];omega
theorem Ej{R:aL}{qs:List Rat}(hS:cW R qs){os:List Nat}(op:os.Perm (Sl R qs)):Sx (bI R (Sl R qs)) 0 (Sy R qs (Su R qs (bI R (Sl R qs)) 0 (Sv R qs) os) os)=true:=by have hn:os.Nodup:=op.nodup_iff.mpr ((rg R qs).imp λh=>Vp h);have h0:=Ee R (Sl R qs);refine M9 os 0 _ hn (λk hk=>?_) (by grind) h0;have hk':=(iD (op.mem_iff.mp hk)).1;have lo:=hS.lo k hk';exact⟨by rw[xk hS,<- hS.len];exact hk',lo.1,lo.2,Kz R _ (op.mem_iff.mp hk)⟩
theorem AZ{f:Nat->Nat}:∀{as bs:List Nat},as.Pairwise (λi j=>f i<f j)->bs.Pairwise (λi j=>f i<=f j)->as.Perm bs->as=bs
 |[],bs,_,_,p=>(List.Perm.nil_eq p)
 |a::as,[],_,_,p=>absurd p.length_eq v6
 | a::as,b::bs,ha,hb,p=>by
  obtain⟨a1,a2⟩:=WS.mp ha;obtain⟨b1,b2⟩:=WS.mp hb
  have e:a=b:=by
   rcases Vc.mp (p.mem_iff.mp (UZ (a:=a) (l:=as)))with q|q
   . exact q
   .
    rcases Vc.mp (p.mem_iff.mpr (UZ (a:=b) (l:=bs)))with r|r
    . exact r.symm
    . have:=a1 b r;have:=b1 a q;omega
  subst e;rw[AZ a2 b2 p.cons_inv]
theorem KB{R:aL}{qs:List Rat}{os os':List Nat}(hc:Si (Sh R) (Sl R qs)=none)(op:os.Perm (Sl R qs))(ow:os.Pairwise λi j=>Sq R i<=Sq R j)(op':os'.Perm (Sl R qs))(ow':os'.Pairwise λi j=>Sq R i<=Sq R j):os=os':=by refine AZ (f:=Sq R) ((AY hc op ow).imp λh=>?_) ow' (op.trans op'.symm);rw[vb,vb];exact h.1
end My
set_option exponentiation.threshold 1000
namespace Hd
open PySem PySem.W PyProof.Rows
noncomputable abbrev pr:Program:=PySem.Challenge.pw_ringloads_k91_whole_sendings_rounded
noncomputable def top(i:Nat):Stmt:=pr.main.body.getD i (.Pass ⟨0,0,0,0⟩)
noncomputable def inCls(st:Stmt)(j:Nat):Stmt:=match st with
 |.ClassDef _ _ _ b ..=>b.getD j (.Pass ⟨0,0,0,0⟩)
 |_=>.Pass ⟨0,0,0,0⟩
noncomputable def Ek(s:Stmt):Str:=match s with
 |.FunctionDef n ..=>n
 |_=>""
noncomputable def Na(s:Stmt):Arguments:=match s with
 |.FunctionDef _ a _ _ _ _ _ _ _ _=>a
 |_=>{posonlyargs:=[],args:=[],vararg:=none,kwonlyargs:=[],kw_defaults:=[],kwarg:=none,defaults:=[] }
noncomputable def Ow(s:Stmt):List Stmt:=match s with
 |.FunctionDef _ _ b _ _ _ _ _ _ _=>b
 |_=>[]
noncomputable def Nc(s:Stmt):Scope:=match s with
 |.FunctionDef _ _ _ _ _ _ sc _ _ _=>sc
 |_=>{kind:=.function,names:=[],isGenerator:=false,isCoroutine:=false}
noncomputable def O3(s:Stmt):Pos:=match s with
 |.FunctionDef _ _ _ _ _ _ _ _ _ p=>p
 |_=>⟨0,0,0,0⟩
noncomputable def Ij (st:Stmt) (q:Str) (g:Addr) (md cd:Value):FuncData:={ name:=Ek st,qualname:=q,params:=Na st,body:=.stmts (Ow st),scope:=Nc st,globals:=g,closure:=[],defaults:=.none,kwdefaults:=.none,doc:=.none,pyModule:=md,annotations:=none,code:=cd,closureTuple:=.none,builtins:=0 }
noncomputable def kh(P:Params)(x:Str):Int:=PySem.PyData.keyHash P x
noncomputable def Nd(vs:List Value):Obj:=⟨.type "tuple",none,.seq vs.toArray 0,#[]⟩
noncomputable def Cd(vs:List Value):Obj:=⟨.none,none,.fields vs.toArray,#[]⟩
noncomputable def O4:Nat->List Str->List Value
 |_,[]=>[]
 |t,x::r=>.str x t::O4 (t+1) r
noncomputable def Ng(st:Stmt)(a t:Nat)(v1 v2:Value)(tm u:Nat):Obj:=⟨.type "code",none,.fields #[.str (Ek st) t,.str (Ek st) (t+1),.str "/claim/cut.py" (t+2),.int (O3 st).line 0,.int (Na st).args.length 0,.int 0 0,.int 0 0,.int 3 0,.ref a,.bool true,.int 181 0,.ref (a+1),.none,v1,v2,.ref tm,.int u 0,.int (O3 st).line 0,.str "/claim/cut.py" (u+1)],#[]⟩
noncomputable def Sz(st:Stmt)(md:Value)(cd:Nat):Obj:=⟨.type "function",none,.func (Ij st (Ek st) 3 md (.ref cd)),#[]⟩
noncomputable def SA(st:Stmt):Obj:=⟨.none,none,.func (Ij st (Ek st) 0 .none .none),#[]⟩
noncomputable def bB(st:Stmt)(a t:Nat)(vs:List Str)(md:Value):List Obj:=[Nd [],Cd [],Nd (O4 (t+3) vs),Nd [],SA st,Ng st a t (.ref (a+2)) (.ref (a+3)) (a+4) (t+3+vs.length),Sz st md (a+5)]
noncomputable def rm(st:Stmt)(a t:Nat)(md:Value):List Obj:=[Nd [],Cd [],SA st,Ng st a t .none .none (a+2) (t+3),Sz st md (a+3)]
noncomputable def xl (P:Params) (nm:Value) (es:List DictEntry) (n:Nat):Obj:=⟨.type "dict",none,.dict (([⟨kh P "__name__",.str "__name__" 165,nm⟩,⟨kh P "__doc__",.str "__doc__" 166,.none⟩,⟨kh P "__package__",.str "__package__" 167,.none⟩,⟨kh P "__loader__",.str "__loader__" 168,.builtin "__main__.__loader__#opaque"⟩,⟨kh P "__spec__",.str "__spec__" 169,.none⟩,⟨kh P "__annotations__",.str "__annotations__" 170,.ref 6⟩,⟨kh P "__builtins__",.str "__builtins__" 171,.ref 4⟩,⟨kh P "__file__",.str "__file__" 173,.str "/claim/cut.py" 172⟩,⟨kh P "__cached__",.str "__cached__" 174,.none⟩]:List DictEntry)++es).toArray n,#[]⟩
noncomputable def PR:Obj:=⟨.type "code",none,.fields #[.str "<module>" 182,.str "<module>" 183,.str "/claim/cut.py" 184,.int 1 0,.int 0 0,.int 0 0,.int 0 0,.int 0 0,.ref 11,.bool false,.int 181 0,.ref 12,.none,.none,.none,.none,.int 185 0,.int 1 0,.str "/claim/cut.py" 186],#[]⟩
noncomputable def PU:Obj:=⟨.type "frame",none,.plain,#[some (.ref 13),some (.ref 3),some (.ref 3),none,some (.str "__main__" 164),none,some (.ref 0)]⟩
noncomputable def KC(P:Params):List Obj:=[boot_o_0 P,boot_o_1 P,boot_o_2 P,boot_o_3 P,boot_o_4 P,boot_o_5 P,boot_o_6 P,boot_o_7 P,boot_o_8 P,boot_o_9 P,boot_o_10 P,Nd [],Cd [],PR,PU]
noncomputable def p9:Life:=⟨[],[],[],0,[],[],false,#[],[],0,false,false,false,0,[2000,10,10],false,0,true,[],[],0,false⟩
noncomputable def Ox(l:List (Nat×Obj))(b:Nat):Option Obj:=@List.rec (Nat×Obj) (λ_=>Option Obj) none (λx _ ih=>bif Nat.beq x.1 b then some x.2 else ih) l
noncomputable def Nh(P:Params)(ob:Params->Nat->Obj)(b:Nat):Obj:=bif b.blt 15 then(KC P).getD b default else ob P b
noncomputable def PV(l:List Nat)(b:Nat):Bool:=@List.rec Nat (λ_=>Bool) false (λx _ ih=>@Bool.rec (λ_=>Bool) ih true (Nat.beq x b)) l
noncomputable def G9(ks:List Nat)(P:Params)(ov:List (Nat×Obj))(ob:Params->Nat->Obj)(b j:Nat):Obj:=@Bool.rec (λ_=>Obj) (Nh P ob b) ((Ox ov b).getD default) (PV ks b)
noncomputable def L0(n:Nat)(f:Nat->Obj)(a b j:Nat):BT:=.nil
noncomputable def L1(n:Nat)(f:Nat->Obj)(a b j:Nat):BT:=@Bool.rec (λ_=>BT) .nil (.node (f b) (L0 n f (2*a) (a+b) j) (L0 n f (2*a) (2*a+b) j)) (b.blt n)
noncomputable def L2(n:Nat)(f:Nat->Obj)(a b j:Nat):BT:=@Bool.rec (λ_=>BT) .nil (.node (f b) (L1 n f (2*a) (a+b) j) (L1 n f (2*a) (2*a+b) j)) (b.blt n)
noncomputable def L3(n:Nat)(f:Nat->Obj)(a b j:Nat):BT:=@Bool.rec (λ_=>BT) .nil (.node (f b) (L2 n f (2*a) (a+b) j) (L2 n f (2*a) (2*a+b) j)) (b.blt n)
noncomputable def L4(n:Nat)(f:Nat->Obj)(a b j:Nat):BT:=@Bool.rec (λ_=>BT) .nil (.node (f b) (L3 n f (2*a) (a+b) j) (L3 n f (2*a) (2*a+b) j)) (b.blt n)
noncomputable def L5(n:Nat)(f:Nat->Obj)(a b j:Nat):BT:=@Bool.rec (λ_=>BT) .nil (.node (f b) (L4 n f (2*a) (a+b) j) (L4 n f (2*a) (2*a+b) j)) (b.blt n)
noncomputable def L6(n:Nat)(f:Nat->Obj)(a b j:Nat):BT:=@Bool.rec (λ_=>BT) .nil (.node (f b) (L5 n f (2*a) (a+b) j) (L5 n f (2*a) (2*a+b) j)) (b.blt n)
noncomputable def L7(n:Nat)(f:Nat->Obj)(a b j:Nat):BT:=@Bool.rec (λ_=>BT) .nil (.node (f b) (L6 n f (2*a) (a+b) j) (L6 n f (2*a) (2*a+b) j)) (b.blt n)
noncomputable def L8(n:Nat)(f:Nat->Obj)(a b j:Nat):BT:=@Bool.rec (λ_=>BT) .nil (.node (f b) (L7 n f (2*a) (a+b) j) (L7 n f (2*a) (2*a+b) j)) (b.blt n)
noncomputable def L9(n:Nat)(f:Nat->Obj)(a b j:Nat):BT:=@Bool.rec (λ_=>BT) .nil (.node (f b) (L8 n f (2*a) (a+b) j) (L8 n f (2*a) (2*a+b) j)) (b.blt n)
noncomputable def SB(n:Nat)(f:Nat->Obj)(a b j:Nat):BT:=@Bool.rec (λ_=>BT) .nil (.node (f b) (L9 n f (2*a) (a+b) j) (L9 n f (2*a) (2*a+b) j)) (b.blt n)
noncomputable def SC(n:Nat)(f:Nat->Obj)(a b j:Nat):BT:=@Bool.rec (λ_=>BT) .nil (.node (f b) (SB n f (2*a) (a+b) j) (SB n f (2*a) (2*a+b) j)) (b.blt n)
noncomputable def SD(n:Nat)(f:Nat->Obj)(a b j:Nat):BT:=@Bool.rec (λ_=>BT) .nil (.node (f b) (SC n f (2*a) (a+b) j) (SC n f (2*a) (2*a+b) j)) (b.blt n)
theorem pN{p:Program}{w:World}{m:Nat}{ann:Option Value}{b n:Nat}{s:SharedT}{t:Thread}{r:Option (Flow×SharedT×Code×Pos)}(h:Fast.tw10110043849684766642 Fast.tw14364793385576792824 p w m ann b n s t=r):segRunT treeTable p w m ann b n s t=r:=by rw[Fast.te10110043849684766642,WI];exact h
theorem Ni{p:Program}{w:World}{m:Nat}{ann:Option Value}{n:Nat}{s:Shared}{t:Thread}{r:Option Shared}(h:Fast.tw14082659384304107361 Fast.tw14364793385576792824 p w m ann n s t=r):topRun treeTable p w m ann n s t=r:=by rw[Fast.te14082659384304107361,WI];exact h
theorem Nj:denote treeTable=Fast.tw11892475500146522536 Fast.tw14364793385576792824:=by rw[<- Fast.te11892475500146522536,<- WI]
theorem Oy{p:Program}{w:World}{m:Nat}{ann:Option Value}{n:Nat}{s:Shared}{t:Thread}{r:Option (Shared×Thread)}(h:Fast.tw15667345088766844465 Fast.tw14364793385576792824 p w m ann n s t=r):topGo treeTable p w m ann n s t=r:=by rw[Fast.te15667345088766844465,WI];exact h
theorem KD{b b':List Stmt}(e:b=b'){tb:String->Option Builtin}{p:Program}{w:World}{m:Nat}{ann:Option Value}{n:Nat}{s:Shared}{env:Env}{c:Code}{ps:Pos}{B:List Frame}{r:Option Shared}(h:topRun tb p w m ann n s (restOf b' env c ps B)=r):topRun tb p w m ann n s (restOf b env c ps B)=r:=by rw[e];exact h
noncomputable def f1(P:Params):List Obj:=bB (top 1) 15 189 ["one","other","rest"] (.str "ringloads.divisors" 187)
noncomputable def f3(P:Params):List Obj:=[(Obj.mk (.type "tuple") none (.seq #[(.type "ValueError")] 0) #[]),
 (Obj.mk (.type "builtin_function_or_method") none (.fields #[(.builtin "type.__prepare__"),(.type "type")]) #[]),
 (Obj.mk (.type "dict") none (.dict #[(DictEntry.mk (kh P "__module__") (.str "__module__" 207) (.str "ringloads.errors" 198)),(DictEntry.mk (kh P "__qualname__") (.str "__qualname__" 209) (.str "LoadError" 208)),(DictEntry.mk (kh P "__firstlineno__") (.str "__firstlineno__" 211) (.int 9 210)),(DictEntry.mk (kh P "__init__") (.str "__init__" 219) (.ref 35)),(DictEntry.mk (kh P "__static_attributes__") (.str "__static_attributes__" 220) (.ref 36))] 5) #[]),
 (Obj.mk (.type "tuple") none (.seq #[] 0) #[]),
 (Obj.mk .none none (.fields #[(.int 11 0),(.int 4 0),(.ref 34)]) #[]),
 (Obj.mk (.type "code") none (.fields #[(.str "LoadError" 202),(.str "LoadError" 203),(.str "/claim/cut.py" 204),(.int 9 0),(.int 0 0),(.int 0 0),(.int 0 0),(.int 0 0),(.ref 25),(.bool false),(.int 181 0),(.ref 26),.none,.none,.none,.none,(.int 205 0),(.int 9 0),(.str "/claim/cut.py" 206)]) #[]),
 (Obj.mk (.type "frame") none .plain #[(some (.ref 27)),(some (.ref 3)),(some (.ref 24)),none,(some (.str "ringloads.errors" 198)),none,(some (.ref 0))]),
 (Obj.mk (.type "tuple") none (.seq #[] 0) #[]),
 (Obj.mk .none none (.fields #[]) #[]),
 (Obj.mk (.type "tuple") none (.seq #[(.str "self" 215),(.str "text" 216)] 0) #[]),
 (Obj.mk (.type "tuple") none (.seq #[] 0) #[]),
 (Obj.mk .none none (.func (Ij (inCls (top 3) 0) "LoadError.__init__" 0 .none .none)) #[]),
 (Obj.mk (.type "code") none (.fields #[(.str "__init__" 212),(.str "LoadError.__init__" 213),(.str "/claim/cut.py" 214),(.int 11 0),(.int 2 0),(.int 0 0),(.int 0 0),(.int 3 0),(.ref 29),(.bool true),(.int 181 0),(.ref 30),.none,(.ref 31),(.ref 32),(.ref 33),(.int 217 0),(.int 11 0),(.str "/claim/cut.py" 218)]) #[]),
 (Obj.mk (.type "function") none (.func (Ij (inCls (top 3) 0) "LoadError.__init__" 3 (.str "ringloads.errors" 198) (.ref 34))) #[]),
 (Obj.mk (.type "tuple") none (.seq #[] 0) #[]),
 (Obj.mk (.type "dict") none (.dict #[(DictEntry.mk (kh P "__module__") (.str "__module__" 207) (.str "ringloads.errors" 198)),(DictEntry.mk (kh P "__firstlineno__") (.str "__firstlineno__" 211) (.int 9 210)),(DictEntry.mk (kh P "__init__") (.str "__init__" 219) (.ref 35)),(DictEntry.mk (kh P "__static_attributes__") (.str "__static_attributes__" 220) (.ref 36)),(DictEntry.mk (kh P "__weakref__") (.str "__weakref__" 222) (.ref 39)),(DictEntry.mk (kh P "__doc__") (.str "__doc__" 223) .none)] 3) #[]),
 (Obj.mk (.type "type") none (.cls (PySem.ClassData.mk "LoadError" [(.type "ValueError")] [(.ref 38),(.type "ValueError"),(.type "Exception"),(.type "BaseException"),(.type "object")] 37 "LoadError" true [] [(.ref 58)] false none false)) #[(some (.ref 22)),none,(some (.str "LoadError" 200)),(some (.str "LoadError" 208)),(some (.builtin "ValueError.__new__")),(some (.bool true))]),
 (Obj.mk (.type "getset_descriptor") none (.fields #[(.str "__weakref__" 221),(.ref 38),(.builtin "ExceptionGroup.__weakref__"),.none]) #[]),
 (Obj.mk (.type "super") none (.fields #[(.ref 38),(.ref 38),(.ref 38)]) #[]),
 (Obj.mk (.type "builtin_function_or_method") none (.fields #[(.builtin "object.__init_subclass__"),(.ref 38)]) #[])]
noncomputable def f4(P:Params):List Obj:=[(Obj.mk (.type "tuple") none (.seq #[(.ref 38)] 0) #[]),
 (Obj.mk (.type "builtin_function_or_method") none (.fields #[(.builtin "type.__prepare__"),(.type "type")]) #[]),
 (Obj.mk (.type "dict") none (.dict #[(DictEntry.mk (kh P "__module__") (.str "__module__" 233) (.str "ringloads.errors" 198)),(DictEntry.mk (kh P "__qualname__") (.str "__qualname__" 235) (.str "NoSlide" 234)),(DictEntry.mk (kh P "__firstlineno__") (.str "__firstlineno__" 237) (.int 13 236)),(DictEntry.mk (kh P "__init__") (.str "__init__" 245) (.ref 55)),(DictEntry.mk (kh P "__static_attributes__") (.str "__static_attributes__" 247) (.ref 56))] 5) #[]),
 (Obj.mk (.type "tuple") none (.seq #[] 0) #[]),
 (Obj.mk .none none (.fields #[(.int 15 0),(.int 4 0),(.ref 54)]) #[]),
 (Obj.mk (.type "code") none (.fields #[(.str "NoSlide" 228),(.str "NoSlide" 229),(.str "/claim/cut.py" 230),(.int 13 0),(.int 0 0),(.int 0 0),(.int 0 0),(.int 0 0),(.ref 45),(.bool false),(.int 181 0),(.ref 46),.none,.none,.none,.none,(.int 231 0),(.int 13 0),(.str "/claim/cut.py" 232)]) #[]),
 (Obj.mk (.type "frame") none .plain #[(some (.ref 47)),(some (.ref 3)),(some (.ref 44)),none,(some (.str "ringloads.errors" 198)),none,(some (.ref 0))]),
 (Obj.mk (.type "tuple") none (.seq #[] 0) #[]),
 (Obj.mk .none none (.fields #[]) #[]),
 (Obj.mk (.type "tuple") none (.seq #[(.str "self" 241),(.str "number" 242)] 0) #[]),
 (Obj.mk (.type "tuple") none (.seq #[] 0) #[]),
 (Obj.mk .none none (.func (Ij (inCls (top 4) 0) "NoSlide.__init__" 0 .none .none)) #[]),
 (Obj.mk (.type "code") none (.fields #[(.str "__init__" 238),(.str "NoSlide.__init__" 239),(.str "/claim/cut.py" 240),(.int 15 0),(.int 2 0),(.int 0 0),(.int 0 0),(.int 3 0),(.ref 49),(.bool true),(.int 181 0),(.ref 50),.none,(.ref 51),(.ref 52),(.ref 53),(.int 243 0),(.int 15 0),(.str "/claim/cut.py" 244)]) #[]),
 (Obj.mk (.type "function") none (.func (Ij (inCls (top 4) 0) "NoSlide.__init__" 3 (.str "ringloads.errors" 198) (.ref 54))) #[]),
 (Obj.mk (.type "tuple") none (.seq #[(.str "number" 246)] 0) #[]),
 (Obj.mk (.type "dict") none (.dict #[(DictEntry.mk (kh P "__module__") (.str "__module__" 233) (.str "ringloads.errors" 198)),(DictEntry.mk (kh P "__firstlineno__") (.str "__firstlineno__" 237) (.int 13 236)),(DictEntry.mk (kh P "__init__") (.str "__init__" 245) (.ref 55)),(DictEntry.mk (kh P "__static_attributes__") (.str "__static_attributes__" 247) (.ref 56)),(DictEntry.mk (kh P "__doc__") (.str "__doc__" 248) .none)] 2) #[]),
 (Obj.mk (.type "type") none (.cls (PySem.ClassData.mk "NoSlide" [(.ref 38)] [(.ref 58),(.ref 38),(.type "ValueError"),(.type "Exception"),(.type "BaseException"),(.type "object")] 57 "NoSlide" true [] [] false none false)) #[(some (.ref 42)),none,(some (.str "NoSlide" 226)),(some (.str "NoSlide" 234)),(some (.builtin "ValueError.__new__")),(some (.bool true))]),
 (Obj.mk (.type "super") none (.fields #[(.ref 58),(.ref 58),(.ref 58)]) #[]),
 (Obj.mk (.type "builtin_function_or_method") none (.fields #[(.builtin "object.__init_subclass__"),(.ref 58)]) #[])]
noncomputable def f6(P:Params):List Obj:=bB (top 6) 61 253 ["thing"] (.str "ringloads.names" 251)
noncomputable def f7(P:Params):List Obj:=bB (top 7) 68 260 ["thing","many"] (.str "ringloads.names" 251)
noncomputable def f8(P:Params):List Obj:=bB (top 8) 75 268 ["thing"] (.str "ringloads.names" 251)
noncomputable def f9(P:Params):List Obj:=bB (top 9) 82 275 ["thing"] (.str "ringloads.names" 251)
noncomputable def SE(P:Params):List Obj:=[(Obj.mk (.type "tuple") none (.seq #[(.int 0 284),(.int 1 285)] 0) #[])]
noncomputable def SG(P:Params):List Obj:=bB (top 12) 90 287 ["top","bottom","shared"] (.str "ringloads.ratios" 282)
noncomputable def SH(P:Params):List Obj:=bB (top 13) 97 296 ["one","other"] (.str "ringloads.ratios" 282)
noncomputable def SI(P:Params):List Obj:=bB (top 14) 104 304 ["one","other"] (.str "ringloads.ratios" 282)
noncomputable def SJ(P:Params):List Obj:=bB (top 15) 111 312 ["one","other"] (.str "ringloads.ratios" 282)
noncomputable def SK(P:Params):List Obj:=bB (top 16) 118 320 ["one","other"] (.str "ringloads.ratios" 282)
noncomputable def SL(P:Params):List Obj:=bB (top 17) 125 328 ["one","other"] (.str "ringloads.ratios" 282)
noncomputable def SN(P:Params):List Obj:=bB (top 18) 132 336 ["one","other"] (.str "ringloads.ratios" 282)
noncomputable def SO(P:Params):List Obj:=bB (top 19) 139 344 ["some","whole","one"] (.str "ringloads.ratios" 282)
noncomputable def SQ(P:Params):List Obj:=bB (top 21) 146 355 ["ring","k"] (.str "ringloads.crossing" 353)
noncomputable def SR(P:Params):List Obj:=bB (top 22) 153 363 ["ring","k"] (.str "ringloads.crossing" 353)
noncomputable def SS(P:Params):List Obj:=bB (top 23) 160 371 ["ring","k","l","low","high","first","last"] (.str "ringloads.crossing" 353)
noncomputable def SU(P:Params):List Obj:=rm (top 24) 167 384 (.str "ringloads.crossing" 353)
noncomputable def SV(P:Params):List Obj:=bB (top 25) 172 390 ["ring","some","number","k","l"] (.str "ringloads.crossing" 353)
noncomputable def SW(P:Params):List Obj:=bB (top 29) 179 407 ["thing"] (.str "ringloads.ways" 401)
noncomputable def SX(P:Params):List Obj:=bB (top 30) 186 414 ["way"] (.str "ringloads.ways" 401)
noncomputable def SY(P:Params):List Obj:=rm (top 31) 193 421 (.str "ringloads.ways" 401)
noncomputable def SZ(P:Params):List Obj:=bB (top 32) 198 427 ["ring","k","way","tie","places","one","other","lies_on"] (.str "ringloads.ways" 401)
noncomputable def S9(P:Params):List Obj:=bB (top 34) 205 443 ["ring","sending","k","tie"] (.str "ringloads.loads" 441)
noncomputable def Ta(P:Params):List Obj:=rm (top 35) 212 453 (.str "ringloads.loads" 441)
noncomputable def Tb(P:Params):List Obj:=rm (top 36) 217 459 (.str "ringloads.loads" 441)
noncomputable def Tc(P:Params):List Obj:=rm (top 38) 222 467 (.str "ringloads.sendings" 465)
noncomputable def Td(P:Params):List Obj:=rm (top 39) 227 473 (.str "ringloads.sendings" 465)
noncomputable def Te(P:Params):List Obj:=bB (top 41) 232 481 ["ring","sending","thing","slid","number","slide"] (.str "ringloads.slides" 479)
noncomputable def Tf(P:Params):List Obj:=bB (top 42) 239 493 ["ring","sending","thing"] (.str "ringloads.slides" 479)
noncomputable def Th(P:Params):List Obj:=bB (top 43) 246 502 ["thing","asks"] (.str "ringloads.slides" 479)
noncomputable def Ti(P:Params):List Obj:=rm (top 44) 253 510 (.str "ringloads.slides" 479)
noncomputable def Tj(P:Params):List Obj:=bB (top 45) 258 516 ["ring","sending","k","way"] (.str "ringloads.slides" 479)
noncomputable def Tn(P:Params):List Obj:=bB (top 46) 265 526 ["ring","sending","slide"] (.str "ringloads.slides" 479)
noncomputable def To(P:Params):List Obj:=bB (top 47) 272 535 ["sending","slide","slid"] (.str "ringloads.slides" 479)
noncomputable def Tp(P:Params):List Obj:=bB (top 48) 279 544 ["part","way","amount"] (.str "ringloads.slides" 479)
noncomputable def Tq(P:Params):List Obj:=bB (top 49) 286 553 ["ring","sending","slid","slides","pair","slide"] (.str "ringloads.slides" 479)
noncomputable def Tr(P:Params):List Obj:=bB (top 50) 293 565 ["ring","sending","k","l","ways","slide"] (.str "ringloads.slides" 479)
noncomputable def Ts(P:Params):List Obj:=bB (top 51) 300 577 ["ring","k","l","ways"] (.str "ringloads.slides" 479)
noncomputable def Tt(P:Params):List Obj:=[(Obj.mk (.type "tuple") none (.seq #[(.int 1 589),(.int 2 590)] 0) #[])]
noncomputable def Tu(P:Params):List Obj:=bB (top 54) 308 592 ["ring","sending","thing","slid","parted"] (.str "ringloads.rounding" 587)
noncomputable def Tv(P:Params):List Obj:=bB (top 55) 315 603 ["ring","slid","parted","ways","k","ask"] (.str "ringloads.rounding" 587)
noncomputable def Tz(P:Params):List Obj:=bB (top 56) 322 615 ["ask","part"] (.str "ringloads.rounding" 587)
noncomputable def TB(P:Params):List Obj:=bB (top 57) 329 623 ["ring","slid","parted","ways","half","whole","k"] (.str "ringloads.rounding" 587)
noncomputable def TF(P:Params):List Obj:=bB (top 58) 336 636 ["ring","some","greatest","k"] (.str "ringloads.rounding" 587)
noncomputable def TH(P:Params):List Obj:=[(Obj.mk (.type "tuple") none (.seq #[] 0) #[]),
 (Obj.mk .none none (.fields #[]) #[]),
 (Obj.mk (.type "tuple") none (.seq #[(.str "ring" 649),(.str "some" 650)] 0) #[]),
 (Obj.mk (.type "tuple") none (.seq #[(.str "ring" 651)] 0) #[]),
 (Obj.mk .none none (.func (Ij (top 59) "by_lesser_place" 0 .none .none)) #[]),
 (Obj.mk (.type "code") none (.fields #[(.str "by_lesser_place" 646),(.str "by_lesser_place" 647),(.str "/claim/cut.py" 648),(.int 194 0),(.int 2 0),(.int 0 0),(.int 0 0),(.int 3 0),(.ref 343),(.bool true),(.int 181 0),(.ref 344),.none,(.ref 345),(.ref 346),(.ref 347),(.int 652 0),(.int 194 0),(.str "/claim/cut.py" 653)]) #[]),
 (Obj.mk (.type "function") none (.func (Ij (top 59) "by_lesser_place" 3 (.str "ringloads.rounding" 587) (.ref 348))) #[])]
noncomputable def TJ(P:Params):List Obj:=bB (top 60) 350 655 ["ring","k"] (.str "ringloads.rounding" 587)
noncomputable def TK(P:Params):List Obj:=bB (top 61) 357 663 ["ring","sending","k","way","size","rising"] (.str "ringloads.rounding" 587)
noncomputable def TL(P:Params):List Obj:=bB (top 62) 364 675 ["ring","sending","slides"] (.str "ringloads.rounding" 587)
noncomputable def TM(P:Params):List Obj:=rm (top 63) 371 684 (.str "ringloads.rounding" 587)
noncomputable def TN(P:Params):List Obj:=rm (top 65) 376 692 (.str "ringloads.gains" 690)
noncomputable def TQ(P:Params):List Obj:=bB (top 67) 381 700 ["_law_script","_law_k","_law_cell"] (.str "law_ringloads_k91_whole_sendings_rounded" 698)
noncomputable def TR(P:Params):List Obj:=bB (top 68) 388 709 ["_law_state","_law_many","_law_digit","_law_drawn","_law_turn"] (.str "law_ringloads_k91_whole_sendings_rounded" 698)
noncomputable def TU(P:Params):List Obj:=bB (top 69) 395 720 ["_law_top","_law_bottom","_law_one","_law_share"] (.str "law_ringloads_k91_whole_sendings_rounded" 698)
noncomputable def TV(P:Params):List Obj:=bB (top 70) 402 730 ["_law_state","_law_least","_law_kind","_law_bottom","_law_top"] (.str "law_ringloads_k91_whole_sendings_rounded" 698)
noncomputable def TX(P:Params):List Obj:=bB (top 71) 409 741 ["_law_state","_law_ring","_law_parts_here","_law_name","_law_one","_law_other","_law_size","_law_way","_law_share"] (.str "law_ringloads_k91_whole_sendings_rounded" 698)
noncomputable def TY(P:Params):List Obj:=bB (top 72) 416 756 ["_law_one","_law_other"] (.str "law_ringloads_k91_whole_sendings_rounded" 698)
noncomputable def TZ(P:Params):List Obj:=bB (top 73) 423 764 ["_law_one","_law_other"] (.str "law_ringloads_k91_whole_sendings_rounded" 698)
noncomputable def T9(P:Params):List Obj:=bB (top 74) 430 772 ["_law_one","_law_other"] (.str "law_ringloads_k91_whole_sendings_rounded" 698)
noncomputable def Ua(P:Params):List Obj:=bB (top 75) 437 780 ["_law_ring","_law_k","_law_way","_law_name","_law_one","_law_other","_law_size","_law_ties_here"] (.str "law_ringloads_k91_whole_sendings_rounded" 698)
noncomputable def Ub(P:Params):List Obj:=bB (top 76) 444 794 ["_law_ring","_law_sending","_law_loads_here","_law_k","_law_part","_law_way","_law_gone","_law_tie"] (.str "law_ringloads_k91_whole_sendings_rounded" 698)
noncomputable def Uc(P:Params):List Obj:=bB (top 77) 451 808 ["_law_ring","_law_some","_law_found","_law_k"] (.str "law_ringloads_k91_whole_sendings_rounded" 698)
noncomputable def Ud(P:Params):List Obj:=bB (top 78) 458 818 ["_law_script","_law_state","_law_source","_law_kind","_law_asks","_law_left","_law_k","_law_place","_law_ends","_law_one","_law_other"] (.str "law_ringloads_k91_whole_sendings_rounded" 698)
noncomputable def Ue(P:Params):List Obj:=bB (top 79) 465 835 ["_law_ring","_law_some","_law_k","_law_l"] (.str "law_ringloads_k91_whole_sendings_rounded" 698)
noncomputable def Ug(P:Params):List Obj:=rm (top 80) 472 845 (.str "law_ringloads_k91_whole_sendings_rounded" 698)
noncomputable def Uh(P:Params):List Obj:=bB (top 81) 477 851 ["_law_ring","_law_sending","_law_loads_here","_law_behind","_law_tie","_law_load","_law_rounding","_law_whole","_law_most","_law_gains","_law_gain"] (.str "law_ringloads_k91_whole_sendings_rounded" 698)
noncomputable def Ui(P:Params):List Obj:=rm (top 82) 484 868 (.str "law_ringloads_k91_whole_sendings_rounded" 698)
noncomputable def Oz(P:Params)(b:Nat):Obj:=(bif b.blt 68 then(bif b.blt 42 then(bif b.blt 22 then(f1 P).getD (b-15) default else(f3 P).getD (b-22) default)else(bif b.blt 61 then(f4 P).getD (b-42) default else(f6 P).getD (b-61) default))else(bif b.blt 82 then(bif b.blt 75 then(f7 P).getD (b-68) default else(f8 P).getD (b-75) default)else(bif b.blt 89 then(f9 P).getD (b-82) default else(SE P).getD (b-89) default)))
noncomputable def OA(P:Params)(b:Nat):Obj:=(bif b.blt 118 then(bif b.blt 104 then(bif b.blt 97 then(SG P).getD (b-90) default else(SH P).getD (b-97) default)else(bif b.blt 111 then(SI P).getD (b-104) default else(SJ P).getD (b-111) default))else(bif b.blt 132 then(bif b.blt 125 then(SK P).getD (b-118) default else(SL P).getD (b-125) default)else(bif b.blt 139 then(SN P).getD (b-132) default else(bif b.blt 146 then(SO P).getD (b-139) default else(SQ P).getD (b-146) default))))
noncomputable def PX(P:Params)(b:Nat):Obj:=bif b.blt 90 then Oz P b else OA P b
noncomputable def OB(P:Params)(b:Nat):Obj:=(bif b.blt 179 then(bif b.blt 167 then(bif b.blt 160 then(SR P).getD (b-153) default else(SS P).getD (b-160) default)else(bif b.blt 172 then(SU P).getD (b-167) default else(SV P).getD (b-172) default))else(bif b.blt 193 then(bif b.blt 186 then(SW P).getD (b-179) default else(SX P).getD (b-186) default)else(bif b.blt 198 then(SY P).getD (b-193) default else(SZ P).getD (b-198) default)))
noncomputable def OC(P:Params)(b:Nat):Obj:=(bif b.blt 227 then(bif b.blt 217 then(bif b.blt 212 then(S9 P).getD (b-205) default else(Ta P).getD (b-212) default)else(bif b.blt 222 then(Tb P).getD (b-217) default else(Tc P).getD (b-222) default))else(bif b.blt 239 then(bif b.blt 232 then(Td P).getD (b-227) default else(Te P).getD (b-232) default)else(bif b.blt 246 then(Tf P).getD (b-239) default else(bif b.blt 253 then(Th P).getD (b-246) default else(Ti P).getD (b-253) default))))
noncomputable def PY(P:Params)(b:Nat):Obj:=bif b.blt 205 then OB P b else OC P b
noncomputable def Uj(P:Params)(b:Nat):Obj:=bif b.blt 153 then PX P b else PY P b
noncomputable def OD(P:Params)(b:Nat):Obj:=(bif b.blt 286 then(bif b.blt 272 then(bif b.blt 265 then(Tj P).getD (b-258) default else(Tn P).getD (b-265) default)else(bif b.blt 279 then(To P).getD (b-272) default else(Tp P).getD (b-279) default))else(bif b.blt 300 then(bif b.blt 293 then(Tq P).getD (b-286) default else(Tr P).getD (b-293) default)else(bif b.blt 307 then(Ts P).getD (b-300) default else(Tt P).getD (b-307) default)))
noncomputable def OE(P:Params)(b:Nat):Obj:=(bif b.blt 336 then(bif b.blt 322 then(bif b.blt 315 then(Tu P).getD (b-308) default else(Tv P).getD (b-315) default)else(bif b.blt 329 then(Tz P).getD (b-322) default else(TB P).getD (b-329) default))else(bif b.blt 350 then(bif b.blt 343 then(TF P).getD (b-336) default else(TH P).getD (b-343) default)else(bif b.blt 357 then(TJ P).getD (b-350) default else(bif b.blt 364 then(TK P).getD (b-357) default else(TL P).getD (b-364) default))))
noncomputable def PZ(P:Params)(b:Nat):Obj:=bif b.blt 308 then OD P b else OE P b
noncomputable def OF(P:Params)(b:Nat):Obj:=(bif b.blt 395 then(bif b.blt 381 then(bif b.blt 376 then(TM P).getD (b-371) default else(TN P).getD (b-376) default)else(bif b.blt 388 then(TQ P).getD (b-381) default else(TR P).getD (b-388) default))else(bif b.blt 409 then(bif b.blt 402 then(TU P).getD (b-395) default else(TV P).getD (b-402) default)else(bif b.blt 416 then(TX P).getD (b-409) default else(bif b.blt 423 then(TY P).getD (b-416) default else(TZ P).getD (b-423) default))))
noncomputable def OG(P:Params)(b:Nat):Obj:=(bif b.blt 458 then(bif b.blt 444 then(bif b.blt 437 then(T9 P).getD (b-430) default else(Ua P).getD (b-437) default)else(bif b.blt 451 then(Ub P).getD (b-444) default else(Uc P).getD (b-451) default))else(bif b.blt 472 then(bif b.blt 465 then(Ud P).getD (b-458) default else(Ue P).getD (b-465) default)else(bif b.blt 477 then(Ug P).getD (b-472) default else(bif b.blt 484 then(Uh P).getD (b-477) default else(Ui P).getD (b-484) default))))
noncomputable def P0(P:Params)(b:Nat):Obj:=bif b.blt 430 then OF P b else OG P b
noncomputable def Uk(P:Params)(b:Nat):Obj:=bif b.blt 371 then PZ P b else P0 P b
noncomputable def ob(P:Params)(b:Nat):Obj:=bif b.blt 258 then Uj P b else Uk P b
noncomputable def Ik(P:Params):List DictEntry:=[(DictEntry.mk (kh P "greatest_shared") (.str "greatest_shared" 197) (.ref 21)),
 (DictEntry.mk (kh P "LoadError") (.str "LoadError" 225) (.ref 38)),
 (DictEntry.mk (kh P "NoSlide") (.str "NoSlide" 250) (.ref 58)),
 (DictEntry.mk (kh P "is_whole") (.str "is_whole" 259) (.ref 67)),
 (DictEntry.mk (kh P "is_number_below") (.str "is_number_below" 267) (.ref 74)),
 (DictEntry.mk (kh P "are_two_wholes") (.str "are_two_wholes" 274) (.ref 81)),
 (DictEntry.mk (kh P "is_ratio") (.str "is_ratio" 281) (.ref 88)),
 (DictEntry.mk (kh P "NOUGHT") (.str "NOUGHT" 286) (.ref 89)),
 (DictEntry.mk (kh P "lowest") (.str "lowest" 295) (.ref 96)),
 (DictEntry.mk (kh P "plus") (.str "plus" 303) (.ref 103)),
 (DictEntry.mk (kh P "minus") (.str "minus" 311) (.ref 110)),
 (DictEntry.mk (kh P "times") (.str "times" 319) (.ref 117)),
 (DictEntry.mk (kh P "under") (.str "under" 327) (.ref 124)),
 (DictEntry.mk (kh P "greater") (.str "greater" 335) (.ref 131)),
 (DictEntry.mk (kh P "lesser") (.str "lesser" 343) (.ref 138)),
 (DictEntry.mk (kh P "sum_of") (.str "sum_of" 352) (.ref 145)),
 (DictEntry.mk (kh P "lesser_place") (.str "lesser_place" 362) (.ref 152)),
 (DictEntry.mk (kh P "greater_place") (.str "greater_place" 370) (.ref 159)),
 (DictEntry.mk (kh P "do_cross") (.str "do_cross" 383) (.ref 166)),
 (DictEntry.mk (kh P "parted_in") (.str "parted_in" 389) (.ref 171)),
 (DictEntry.mk (kh P "first_side_by_side") (.str "first_side_by_side" 400) (.ref 178)),
 (DictEntry.mk (kh P "ON") (.str "ON" 404) (.str "on" 403)),
 (DictEntry.mk (kh P "BACK") (.str "BACK" 406) (.str "back" 405)),
 (DictEntry.mk (kh P "is_way") (.str "is_way" 413) (.ref 185)),
 (DictEntry.mk (kh P "other_way") (.str "other_way" 420) (.ref 192)),
 (DictEntry.mk (kh P "ties_of") (.str "ties_of" 426) (.ref 197)),
 (DictEntry.mk (kh P "is_over") (.str "is_over" 440) (.ref 204)),
 (DictEntry.mk (kh P "sent_over") (.str "sent_over" 452) (.ref 211)),
 (DictEntry.mk (kh P "load_of") (.str "load_of" 458) (.ref 216)),
 (DictEntry.mk (kh P "loads_of") (.str "loads_of" 464) (.ref 221)),
 (DictEntry.mk (kh P "are_ways") (.str "are_ways" 472) (.ref 226)),
 (DictEntry.mk (kh P "sent_by") (.str "sent_by" 478) (.ref 231)),
 (DictEntry.mk (kh P "slid_by") (.str "slid_by" 492) (.ref 238)),
 (DictEntry.mk (kh P "is_slide") (.str "is_slide" 501) (.ref 245)),
 (DictEntry.mk (kh P "has_form_of_slide") (.str "has_form_of_slide" 509) (.ref 252)),
 (DictEntry.mk (kh P "share_no_tie") (.str "share_no_tie" 515) (.ref 257)),
 (DictEntry.mk (kh P "not_sent") (.str "not_sent" 525) (.ref 264)),
 (DictEntry.mk (kh P "most_slid") (.str "most_slid" 534) (.ref 271)),
 (DictEntry.mk (kh P "slid_once") (.str "slid_once" 543) (.ref 278)),
 (DictEntry.mk (kh P "part_behind") (.str "part_behind" 552) (.ref 285)),
 (DictEntry.mk (kh P "slides_for") (.str "slides_for" 564) (.ref 292)),
 (DictEntry.mk (kh P "greatest_slide") (.str "greatest_slide" 576) (.ref 299)),
 (DictEntry.mk (kh P "ways_apart") (.str "ways_apart" 586) (.ref 306)),
 (DictEntry.mk (kh P "HALF") (.str "HALF" 591) (.ref 307)),
 (DictEntry.mk (kh P "lets_rounding") (.str "lets_rounding" 602) (.ref 314)),
 (DictEntry.mk (kh P "keeps_whole_asks") (.str "keeps_whole_asks" 614) (.ref 321)),
 (DictEntry.mk (kh P "nearest_way") (.str "nearest_way" 622) (.ref 328)),
 (DictEntry.mk (kh P "keeps_within") (.str "keeps_within" 635) (.ref 335)),
 (DictEntry.mk (kh P "half_of_greatest") (.str "half_of_greatest" 645) (.ref 342)),
 (DictEntry.mk (kh P "by_lesser_place") (.str "by_lesser_place" 654) (.ref 349)),
 (DictEntry.mk (kh P "rising_way") (.str "rising_way" 662) (.ref 356)),
 (DictEntry.mk (kh P "gain_of") (.str "gain_of" 674) (.ref 363)),
 (DictEntry.mk (kh P "rounding_of") (.str "rounding_of" 683) (.ref 370)),
 (DictEntry.mk (kh P "rounded_ways") (.str "rounded_ways" 689) (.ref 375)),
 (DictEntry.mk (kh P "gains_of") (.str "gains_of" 697) (.ref 380)),
 (DictEntry.mk (kh P "_law_begun") (.str "_law_begun" 708) (.ref 387)),
 (DictEntry.mk (kh P "_law_take") (.str "_law_take" 719) (.ref 394)),
 (DictEntry.mk (kh P "_law_low") (.str "_law_low" 729) (.ref 401)),
 (DictEntry.mk (kh P "_law_amount") (.str "_law_amount" 740) (.ref 408)),
 (DictEntry.mk (kh P "_law_parts") (.str "_law_parts" 755) (.ref 415)),
 (DictEntry.mk (kh P "_law_plus") (.str "_law_plus" 763) (.ref 422)),
 (DictEntry.mk (kh P "_law_minus") (.str "_law_minus" 771) (.ref 429)),
 (DictEntry.mk (kh P "_law_under") (.str "_law_under" 779) (.ref 436)),
 (DictEntry.mk (kh P "_law_ties") (.str "_law_ties" 793) (.ref 443)),
 (DictEntry.mk (kh P "_law_loads") (.str "_law_loads" 807) (.ref 450)),
 (DictEntry.mk (kh P "_law_greatest") (.str "_law_greatest" 817) (.ref 457)),
 (DictEntry.mk (kh P "_law_made") (.str "_law_made" 834) (.ref 464)),
 (DictEntry.mk (kh P "_law_all_cross") (.str "_law_all_cross" 844) (.ref 471)),
 (DictEntry.mk (kh P "_law_bent_fall") (.str "_law_bent_fall" 850) (.ref 476)),
 (DictEntry.mk (kh P "_law_right") (.str "_law_right" 867) (.ref 483)),
 (DictEntry.mk (kh P "law") (.str "law" 873) (.ref 488))]
noncomputable def Ul:List Value:=[(.int 2 0),(.int 0 0),(.ref 20),(.int 9 0),(.int 0 0),(.ref 27),(.int 13 0),(.int 0 0),(.ref 47),(.int 19 0),(.int 0 0),(.ref 66),(.int 21 0),(.int 0 0),(.ref 73),(.int 23 0),(.int 0 0),(.ref 80),(.int 25 0),(.int 0 0),(.ref 87),(.int 29 0),(.int 0 0),(.ref 95),(.int 34 0),(.int 0 0),(.ref 102),(.int 36 0),(.int 0 0),(.ref 109),(.int 38 0),(.int 0 0),(.ref 116),(.int 40 0),(.int 0 0),(.ref 123),(.int 42 0),(.int 0 0),(.ref 130),(.int 44 0),(.int 0 0),(.ref 137),(.int 46 0),(.int 0 0),(.ref 144),(.int 52 0),(.int 0 0),(.ref 151),(.int 54 0),(.int 0 0),(.ref 158),(.int 56 0),(.int 0 0),(.ref 165),(.int 62 0),(.int 0 0),(.ref 170),(.int 64 0),(.int 0 0),(.ref 177),(.int 73 0),(.int 0 0),(.ref 184),(.int 75 0),(.int 0 0),(.ref 191),(.int 77 0),(.int 0 0),(.ref 196),(.int 84 0),(.int 0 0),(.ref 203),(.int 91 0),(.int 0 0),(.ref 210),(.int 95 0),(.int 0 0),(.ref 215),(.int 97 0),(.int 0 0),(.ref 220),(.int 100 0),(.int 0 0),(.ref 225),(.int 104 0),(.int 0 0),(.ref 230),(.int 107 0),(.int 0 0),(.ref 237),(.int 116 0),(.int 0 0),(.ref 244),(.int 122 0),(.int 0 0),(.ref 251),(.int 128 0),(.int 0 0),(.ref 256),(.int 131 0),(.int 0 0),(.ref 263),(.int 133 0),(.int 0 0),(.ref 270),(.int 135 0),(.int 0 0),(.ref 277),(.int 140 0),(.int 0 0),(.ref 284),(.int 142 0),(.int 0 0),(.ref 291),(.int 152 0),(.int 0 0),(.ref 298),(.int 156 0),(.int 0 0),(.ref 305),(.int 163 0),(.int 0 0),(.ref 313),(.int 174 0),(.int 0 0),(.ref 320),(.int 179 0),(.int 0 0),(.ref 327),(.int 181 0),(.int 0 0),(.ref 334),(.int 189 0),(.int 0 0),(.ref 341),(.int 194 0),(.int 0 0),(.ref 348),(.int 196 0),(.int 0 0),(.ref 355),(.int 198 0),(.int 0 0),(.ref 362),(.int 202 0),(.int 0 0),(.ref 369),(.int 205 0),(.int 0 0),(.ref 374),(.int 217 0),(.int 0 0),(.ref 379),(.int 221 0),(.int 0 0),(.ref 386),(.int 226 0),(.int 0 0),(.ref 393),(.int 237 0),(.int 0 0),(.ref 400),(.int 245 0),(.int 0 0),(.ref 407),(.int 249 0),(.int 0 0),(.ref 414),(.int 256 0),(.int 0 0),(.ref 421),(.int 258 0),(.int 0 0),(.ref 428),(.int 260 0),(.int 0 0),(.ref 435),(.int 262 0),(.int 0 0),(.ref 442),(.int 271 0),(.int 0 0),(.ref 449),(.int 278 0),(.int 0 0),(.ref 456),(.int 284 0),(.int 0 0),(.ref 463),(.int 302 0),(.int 0 0),(.ref 470),(.int 308 0),(.int 0 0),(.ref 475),(.int 319 0),(.int 0 0),(.ref 482),(.int 338 0),(.int 0 0),(.ref 487)]
noncomputable def Um(P:Params):List (Nat×Obj):=[(12,Cd (Ul.take 0))]
noncomputable def T0(P:Params):BT:=SD 15 (λb=>G9 [12] P (Um P) ob b 0) 1 0 0
noncomputable abbrev S0(w:World)(os:OsState):SharedT:=⟨T0 w.params,15,p9,#[],⟨0,0,0,0⟩,187,os⟩
noncomputable def Uo(P:Params):List (Nat×Obj):=[(3,xl P (.str "ringloads.errors" 198) ((Ik P).take 2) 11),(12,Cd (Ul.take 6)),(38,(Obj.mk (.type "type") none (.cls (PySem.ClassData.mk "LoadError" [(.type "ValueError")] [(.ref 38),(.type "ValueError"),(.type "Exception"),(.type "BaseException"),(.type "object")] 37 "LoadError" true [] [] false none false)) #[(some (.ref 22)),none,(some (.str "LoadError" 200)),(some (.str "LoadError" 208)),(some (.builtin "ValueError.__new__")),(some (.bool true))]))]
noncomputable def T1(P:Params):BT:=SD 42 (λb=>G9 [3,12,38] P (Uo P) ob b 1) 1 0 1
noncomputable abbrev S1(w:World)(os:OsState):SharedT:=⟨T1 w.params,42,p9,#[],⟨0,0,0,0⟩,226,os⟩
noncomputable def Up(P:Params):List (Nat×Obj):=[(3,xl P (.str "ringloads.ratios" 282) ((Ik P).take 8) 17),(12,Cd (Ul.take 21))]
noncomputable def T2(P:Params):BT:=SD 90 (λb=>G9 [3,12] P (Up P) ob b 2) 1 0 2
noncomputable abbrev S2(w:World)(os:OsState):SharedT:=⟨T2 w.params,90,p9,#[],⟨0,0,0,0⟩,287,os⟩
noncomputable def Uq(P:Params):List (Nat×Obj):=[(3,xl P (.str "ringloads.crossing" 353) ((Ik P).take 20) 29),(12,Cd (Ul.take 57))]
noncomputable def T3(P:Params):BT:=SD 172 (λb=>G9 [3,12] P (Uq P) ob b 3) 1 0 3
noncomputable abbrev S3(w:World)(os:OsState):SharedT:=⟨T3 w.params,172,p9,#[],⟨0,0,0,0⟩,390,os⟩
noncomputable def Ur(P:Params):List (Nat×Obj):=[(3,xl P (.str "ringloads.slides" 479) ((Ik P).take 33) 42),(12,Cd (Ul.take 90))]
noncomputable def T4(P:Params):BT:=SD 239 (λb=>G9 [3,12] P (Ur P) ob b 4) 1 0 4
noncomputable abbrev S4(w:World)(os:OsState):SharedT:=⟨T4 w.params,239,p9,#[],⟨0,0,0,0⟩,493,os⟩
noncomputable def Us(P:Params):List (Nat×Obj):=[(3,xl P (.str "ringloads.rounding" 587) ((Ik P).take 46) 55),(12,Cd (Ul.take 126))]
noncomputable def T5(P:Params):BT:=SD 322 (λb=>G9 [3,12] P (Us P) ob b 5) 1 0 5
noncomputable abbrev S5(w:World)(os:OsState):SharedT:=⟨T5 w.params,322,p9,#[],⟨0,0,0,0⟩,615,os⟩
noncomputable def Ut(P:Params):List (Nat×Obj):=[(3,xl P (.str "law_ringloads_k91_whole_sendings_rounded" 698) ((Ik P).take 58) 67),(12,Cd (Ul.take 162))]
noncomputable def T6(P:Params):BT:=SD 402 (λb=>G9 [3,12] P (Ut P) ob b 6) 1 0 6
noncomputable abbrev S6(w:World)(os:OsState):SharedT:=⟨T6 w.params,402,p9,#[],⟨0,0,0,0⟩,730,os⟩
noncomputable def Uu(P:Params):List (Nat×Obj):=[(3,xl P (.str "law_ringloads_k91_whole_sendings_rounded" 698) ((Ik P).take 70) 79),(12,Cd (Ul.take 198))]
noncomputable def T7(P:Params):BT:=SD 484 (λb=>G9 [3,12] P (Uu P) ob b 7) 1 0 7
noncomputable abbrev S7(w:World)(os:OsState):SharedT:=⟨T7 w.params,484,p9,#[],⟨0,0,0,0⟩,868,os⟩
noncomputable def Uv(P:Params):List (Nat×Obj):=[(3,xl P (.str "law_ringloads_k91_whole_sendings_rounded" 698) ((Ik P).take 71) 80),(12,Cd (Ul.take 201))]
noncomputable def T8(P:Params):BT:=SD 489 (λb=>G9 [3,12] P (Uv P) ob b 8) 1 0 8
noncomputable abbrev S8(w:World)(os:OsState):SharedT:=⟨T8 w.params,489,p9,#[],⟨0,0,0,0⟩,874,os⟩
noncomputable abbrev env:Env:={scope:=pr.main.scope,locals:=mainNs,globals:=mainNs,cells:=[],code:=.ref 13,frame:=some 14}
noncomputable abbrev cE:Code:=.body (behindTheImports pr) env
noncomputable abbrev B:List Frame:=[topFrame ⟨0,0,0,0⟩]
noncomputable def O5:List Stmt:=(pr.main.body.drop 0).take 4
theorem Uw(w:World)(os:OsState):segRunT treeTable pr w 11 (some (.ref 6)) 1 267 (S0 w os) (piecesOf O5 env cE ⟨0,0,0,0⟩ B)=some (.next,S1 w os,cE,⟨9,0,12,39⟩):=pN z_
noncomputable def O6:List Stmt:=(pr.main.body.drop 4).take 8
theorem Ux(w:World)(os:OsState):segRunT treeTable pr w 11 (some (.ref 6)) 1 393 (S1 w os) (piecesOf O6 env cE ⟨9,0,12,39⟩ B)=some (.next,S2 w os,cE,⟨28,0,28,6⟩):=pN z_
noncomputable def O7:List Stmt:=(pr.main.body.drop 12).take 13
theorem Uy(w:World)(os:OsState):segRunT treeTable pr w 11 (some (.ref 6)) 1 373 (S2 w os) (piecesOf O7 env cE ⟨28,0,28,6⟩ B)=some (.next,S3 w os,cE,⟨62,0,63,102⟩):=pN z_
noncomputable def O8:List Stmt:=(pr.main.body.drop 25).take 17
theorem Uz(w:World)(os:OsState):segRunT treeTable pr w 11 (some (.ref 6)) 1 378 (S3 w os) (piecesOf O8 env cE ⟨62,0,63,102⟩ B)=some (.next,S4 w os,cE,⟨107,0,115,15⟩):=pN z_
noncomputable def O9:List Stmt:=(pr.main.body.drop 42).take 14
theorem UA(w:World)(os:OsState):segRunT treeTable pr w 11 (some (.ref 6)) 1 401 (S4 w os) (piecesOf O9 env cE ⟨107,0,115,15⟩ B)=some (.next,S5 w os,cE,⟨174,0,178,15⟩):=pN z_
noncomputable def Pa:List Stmt:=(pr.main.body.drop 56).take 14
theorem UB(w:World)(os:OsState):segRunT treeTable pr w 11 (some (.ref 6)) 1 390 (S5 w os) (piecesOf Pa env cE ⟨174,0,178,15⟩ B)=some (.next,S6 w os,cE,⟨237,0,244,62⟩):=pN z_
noncomputable def Pb:List Stmt:=(pr.main.body.drop 70).take 12
theorem UC(w:World)(os:OsState):segRunT treeTable pr w 11 (some (.ref 6)) 1 401 (S6 w os) (piecesOf Pb env cE ⟨237,0,244,62⟩ B)=some (.next,S7 w os,cE,⟨319,0,337,27⟩):=pN z_
noncomputable def Pc:List Stmt:=(pr.main.body.drop 82).take 1
theorem UD(w:World)(os:OsState):segRunT treeTable pr w 11 (some (.ref 6)) 1 27 (S7 w os) (piecesOf Pc env cE ⟨319,0,337,27⟩ B)=some (.next,S8 w os,cE,⟨338,0,350,39⟩):=pN z_
noncomputable abbrev H1(P:Params):Heap:=absHeap (T8 P) 489 p9
theorem pre(w:World)(os:OsState):topGo treeTable pr w 11 (some (.ref 6)) 12 ⟨boot_heap w.params,#[],boot_drawn,boot_toks,os⟩ (topStub pr)=some (⟨⟨⟨KC w.params⟩,p9⟩,#[],⟨0,0,0,0⟩,187,os⟩,⟨denote treeTable cE,cE,⟨0,0,0,0⟩,B⟩):=by rw[Nj];exact Oy z_
theorem Ip(w:World)(os:OsState):segRun treeTable pr w 11 (some (.ref 6)) 1 1 ⟨⟨⟨KC w.params⟩,p9⟩,#[],⟨0,0,0,0⟩,187,os⟩ (blockOf (behindTheImports pr) env cE ⟨0,0,0,0⟩ B)=some (.next,(S0 w os).abs,cE,⟨0,0,0,0⟩):=by kernel_rfl
theorem Qm(w:World)(os:OsState):topRun treeTable pr w 11 (some (.ref 6)) 2 (S8 w os).abs ⟨doneF .next,cE,⟨338,0,350,39⟩,B⟩=some ⟨H1 w.params,#[],⟨0,0,0,0⟩,874,os⟩:=Ni z_
theorem KF:behindTheImports pr=(O5++(O6++(O7++(O8++(O9++(Pa++(Pb++(Pc++[])))))))):=by kernel_rfl
theorem run(w:World)(os:OsState):topRun treeTable pr w 11 (some (.ref 6)) (12+(1+(267+(393+(373+(378+(401+(390+(401+(27+2)))))))))) ⟨boot_heap w.params,#[],boot_drawn,boot_toks,os⟩ (topStub pr)=some ⟨H1 w.params,#[],⟨0,0,0,0⟩,874,os⟩ :=
 go_top (pre w os) (piece_block (Ip w os) (KD KF (piece_app (segRun_of (Uw w os)) (piece_app (segRun_of (Ux w os)) (piece_app (segRun_of (Uy w os)) (piece_app (segRun_of (Uz w os)) (piece_app (segRun_of (UA w os)) (piece_app (segRun_of (UB w os)) (piece_app (segRun_of (UC w os)) (piece_app (segRun_of (UD w os)) (piece_nil (Qm w os))))))))))))
noncomputable abbrev q:Program:=view pr [59,82]
noncomputable def loose:List Str:=(["greatest_shared","LoadError","NoSlide","is_whole","is_number_below","are_two_wholes","is_ratio","NOUGHT","lowest","plus","minus","times","under","greater","lesser","sum_of","lesser_place","greater_place","do_cross","parted_in","first_side_by_side","ON","BACK","is_way","other_way","ties_of","is_over","sent_over","load_of","loads_of","are_ways","sent_by","slid_by","is_slide","has_form_of_slide","share_no_tie","not_sent","most_slid","slid_once","part_behind","slides_for","greatest_slide","ways_apart","HALF","lets_rounding","keeps_whole_asks","nearest_way","keeps_within","half_of_greatest","rising_way","gain_of","rounding_of","rounded_ways","gains_of","_law_begun","_law_take","_law_low","_law_amount","_law_parts","_law_plus","_law_minus","_law_under","_law_ties","_law_loads","_law_greatest","_law_made","_law_all_cross","_law_bent_fall","_law_right"]:List String).map Str.ofString
noncomputable def Kf(P:Params):Frag:=(3,((Uv P).getD 0 (0,default)).2)::[(2,boot_o_2 P),(20,(f1 P).getD 5 default),(21,(f1 P).getD 6 default),(22,(f3 P).getD 0 default),(23,(f3 P).getD 1 default),(24,(f3 P).getD 2 default),(25,(f3 P).getD 3 default),(26,(f3 P).getD 4 default),(27,(f3 P).getD 5 default),(28,(f3 P).getD 6 default),(29,(f3 P).getD 7 default),(30,(f3 P).getD 8 default),(31,(f3 P).getD 9 default),(32,(f3 P).getD 10 default),(33,(f3 P).getD 11 default),(34,(f3 P).getD 12 default),(35,(f3 P).getD 13 default),(36,(f3 P).getD 14 default),(37,(f3 P).getD 15 default),(38,(f3 P).getD 16 default),(39,(f3 P).getD 17 default),(40,(f3 P).getD 18 default),(41,(f3 P).getD 19 default),(42,(f4 P).getD 0 default),(43,(f4 P).getD 1 default),(44,(f4 P).getD 2 default),(45,(f4 P).getD 3 default),(46,(f4 P).getD 4 default),(47,(f4 P).getD 5 default),(48,(f4 P).getD 6 default),(49,(f4 P).getD 7 default),(50,(f4 P).getD 8 default),(51,(f4 P).getD 9 default),(52,(f4 P).getD 10 default),(53,(f4 P).getD 11 default),(54,(f4 P).getD 12 default),(55,(f4 P).getD 13 default),(56,(f4 P).getD 14 default),(57,(f4 P).getD 15 default),(58,(f4 P).getD 16 default),(59,(f4 P).getD 17 default),(60,(f4 P).getD 18 default),(66,(f6 P).getD 5 default),(67,(f6 P).getD 6 default),(73,(f7 P).getD 5 default),(74,(f7 P).getD 6 default),(80,(f8 P).getD 5 default),(81,(f8 P).getD 6 default),(87,(f9 P).getD 5 default),(88,(f9 P).getD 6 default),(89,(SE P).getD 0 default),(95,(SG P).getD 5 default),(96,(SG P).getD 6 default),(102,(SH P).getD 5 default),(103,(SH P).getD 6 default),(109,(SI P).getD 5 default),(110,(SI P).getD 6 default),(116,(SJ P).getD 5 default),(117,(SJ P).getD 6 default),(123,(SK P).getD 5 default),(124,(SK P).getD 6 default),(130,(SL P).getD 5 default),(131,(SL P).getD 6 default),(137,(SN P).getD 5 default),(138,(SN P).getD 6 default),(144,(SO P).getD 5 default),(145,(SO P).getD 6 default),(151,(SQ P).getD 5 default),(152,(SQ P).getD 6 default),(158,(SR P).getD 5 default),(159,(SR P).getD 6 default),(165,(SS P).getD 5 default),(166,(SS P).getD 6 default),(170,(SU P).getD 3 default),(171,(SU P).getD 4 default),(177,(SV P).getD 5 default),(178,(SV P).getD 6 default),(184,(SW P).getD 5 default),(185,(SW P).getD 6 default),(191,(SX P).getD 5 default),(192,(SX P).getD 6 default),(196,(SY P).getD 3 default),(197,(SY P).getD 4 default),(203,(SZ P).getD 5 default),(204,(SZ P).getD 6 default),(210,(S9 P).getD 5 default),(211,(S9 P).getD 6 default),(215,(Ta P).getD 3 default),(216,(Ta P).getD 4 default),(220,(Tb P).getD 3 default),(221,(Tb P).getD 4 default),(225,(Tc P).getD 3 default),(226,(Tc P).getD 4 default),(230,(Td P).getD 3 default),(231,(Td P).getD 4 default),(237,(Te P).getD 5 default),(238,(Te P).getD 6 default),(244,(Tf P).getD 5 default),(245,(Tf P).getD 6 default),(251,(Th P).getD 5 default),(252,(Th P).getD 6 default),(256,(Ti P).getD 3 default),(257,(Ti P).getD 4 default),(263,(Tj P).getD 5 default),(264,(Tj P).getD 6 default),(270,(Tn P).getD 5 default),(271,(Tn P).getD 6 default),(277,(To P).getD 5 default),(278,(To P).getD 6 default),(284,(Tp P).getD 5 default),(285,(Tp P).getD 6 default),(291,(Tq P).getD 5 default),(292,(Tq P).getD 6 default),(298,(Tr P).getD 5 default),(299,(Tr P).getD 6 default),(305,(Ts P).getD 5 default),(306,(Ts P).getD 6 default),(307,(Tt P).getD 0 default),(313,(Tu P).getD 5 default),(314,(Tu P).getD 6 default),(320,(Tv P).getD 5 default),(321,(Tv P).getD 6 default),(327,(Tz P).getD 5 default),(328,(Tz P).getD 6 default),(334,(TB P).getD 5 default),(335,(TB P).getD 6 default),(341,(TF P).getD 5 default),(342,(TF P).getD 6 default),(348,(TH P).getD 5 default),(349,(TH P).getD 6 default),(355,(TJ P).getD 5 default),(356,(TJ P).getD 6 default),(362,(TK P).getD 5 default),(363,(TK P).getD 6 default),(369,(TL P).getD 5 default),(370,(TL P).getD 6 default),(374,(TM P).getD 3 default),(375,(TM P).getD 4 default),(379,(TN P).getD 3 default),(380,(TN P).getD 4 default),(386,(TQ P).getD 5 default),(387,(TQ P).getD 6 default),(393,(TR P).getD 5 default),(394,(TR P).getD 6 default),(400,(TU P).getD 5 default),(401,(TU P).getD 6 default),(407,(TV P).getD 5 default),(408,(TV P).getD 6 default),(414,(TX P).getD 5 default),(415,(TX P).getD 6 default),(421,(TY P).getD 5 default),(422,(TY P).getD 6 default),(428,(TZ P).getD 5 default),(429,(TZ P).getD 6 default),(435,(T9 P).getD 5 default),(436,(T9 P).getD 6 default),(442,(Ua P).getD 5 default),(443,(Ua P).getD 6 default),(449,(Ub P).getD 5 default),(450,(Ub P).getD 6 default),(456,(Uc P).getD 5 default),(457,(Uc P).getD 6 default),(463,(Ud P).getD 5 default),(464,(Ud P).getD 6 default),(470,(Ue P).getD 5 default),(471,(Ue P).getD 6 default),(475,(Ug P).getD 3 default),(476,(Ug P).getD 4 default),(482,(Uh P).getD 5 default),(483,(Uh P).getD 6 default),(487,(Ui P).getD 3 default),(488,(Ui P).getD 4 default)]
noncomputable abbrev as:List Addr:=[3,2,20,21,22,23,24,25,26,27,28,29,30,31,32,33,34,35,36,37,38,39,40,41,42,43,44,45,46,47,48,49,50,51,52,53,54,55,56,57,58,59,60,66,67,73,74,80,81,87,88,89,95,96,102,103,109,110,116,117,123,124,130,131,137,138,144,145,151,152,158,159,165,166,170,171,177,178,184,185,191,192,196,197,203,204,210,211,215,216,220,221,225,226,230,231,237,238,244,245,251,252,256,257,263,264,270,271,277,278,284,285,291,292,298,299,305,306,307,313,314,320,321,327,328,334,335,341,342,348,349,355,356,362,363,369,370,374,375,379,380,386,387,393,394,400,401,407,408,414,415,421,422,428,429,435,436,442,443,449,450,456,457,463,464,470,471,475,476,482,483,487,488]
noncomputable abbrev Hk:Hook:=kHook Kf as (λ_=>by kernel_rfl)
noncomputable abbrev Xt:Shared→Bool:=fun s=>xlAt q [] s && recOk (RowW.records PySem.Challenge.rw_ringloads_k91_whole_sendings_rounded.row.toRowW) s
theorem size (w:World):((boot_heap w.params).isNs mainGlobals && (#[]:Array GenState).size == 0,(boot_heap w.params).objs.size,(boot_heap w.params).nsMap mainGlobals "__annotations__")=(true,11,some (.ref 6)):=by kernel_rfl
theorem OH(w:World)(os:OsState):(staticsOk (importedModules pr.main.body) (boot_heap w.params) (H1 w.params) && namesBound pr (H1 w.params) && gensDone ⟨H1 w.params,#[],⟨0,0,0,0⟩,874,os⟩ && laidKept (boot_heap w.params) (H1 w.params))=true:=by kernel_rfl
theorem OI(w:World)(os:OsState):openSeen q loose (importedModules pr.main.body) Xt true ⟨H1 w.params,#[],⟨0,0,0,0⟩,874,os⟩=openGood q loose:=by rw[Fast.te4187177175401517315];kernel_rfl
theorem OJ(w:World)(os:OsState):Hk.obs ⟨H1 w.params,#[],⟨0,0,0,0⟩,874,os⟩=Hk.val w:=by kernel_rfl
theorem Nk:opening pr=plainProg pr.main.scope.names:=by kernel_rfl
theorem left:LeftO pr q loose Xt Hk.obs Hk.val 5944:=LeftO.of_pieces (M:=(12+(1+(267+(393+(373+(378+(401+(390+(401+(27+2))))))))))) (boot_open Nk x_ (λs=>by kernel_rfl)) size run y_ (λw=>funext λos=>looks_pair (OH w os) (looks_pair (OI w os) (OJ w os)))
end Hd
namespace My
open PySem L2
local macro_rules | `(tactic| walk_at "w")=>do
 let ids:=("Dv NM MH uS Rp Ds NL qT wW wV RJ BD RI Gq JR Gr F4 De LK FI IY LM FJ I0 FT Mc Jo Jz J1 Gx Mh Oa JC Mi Ob JE Od JY LF LG FH CK yA Mg F0 Jx Da Bz F6 Ga Mp uT pK aV Q4 aO av Q3 aj mY wC bL bO wq cw aB fF bq ar wu aI QX FL m7 Bn oy uG uF HI Q1 m4 N4 CM Ca bG dH wD tE Jm Jl F7 Rp uS d9 F5 Jy Dd List.all_cons List.all_nil Bool.and_true Bool.true_and wB NH C1 pY qL Jc wx uQ Mf K4 Ac yK yL BH bp nD DD GH iS fg Ag pZ bM uH iT Bq uI N6 LQ LR vR uK CO GB GC GD GE GF J4 J5 J6 J7 MS MT Kb Kc Oq Os DI DJ Ke uc nu HU Av DL DB Aw ug cV MU GG List.length_map DC DE DF DG GI BI DH yM yN yO w4 yP uY GJ yQ Br Bs CV CY wz uL p5 GK Kg GL GM GN GO BJ w7 w8 DK Kh FV ub yw beq_self_eq_true String.reduceBEq String.reduceEq reduceCtorEq Jw Bt lx cM iA bH Bw C6 Bx qO Ju Md List.getElem?_cons_zero List.getElem?_cons_succ List.set_cons_zero List.set_cons_succ List.cons_append List.nil_append List.replicate_succ List.replicate_zero List.map_cons List.map_nil List.drop_succ_cons List.drop_zero Option.getD_some true_and decide_eq_true_eq Bool.not_eq_true' decide_eq_false_iff_not ite_true ite_false Bool.false_eq_true Bool.true_eq_false if_true if_false List.length_cons List.length_nil Nat.reduceAdd Nat.reduceSub yG yH Gy MO On PD PF PH Option.some.injEq exists_eq_left' exists_eq_left".splitOn " ").toArray.map fun s=>Lean.mkIdent ((s.splitOn ".").foldl Lean.Name.mkStr Lean.Name.anonymous)
 `(tactic| try simp only [$[$ids:ident],*])
local macro_rules | `(tactic| walk_at "o")=>`(tactic| first | exact Or.inl rfl | exact Or.inr rfl)
theorem v4{a b:Prop}(h:a∨b:=by walk_at "o"):a∨b:=h
noncomputable abbrev eh:Stmt:=Hd.top 1
noncomputable abbrev oK:List Str:=["one","other","rest"]
noncomputable abbrev oM:Stmt:=Hd.top 6
noncomputable abbrev BP:List Str:=["thing"]
noncomputable abbrev eu:Stmt:=Hd.top 7
noncomputable abbrev oN:List Str:=["thing","many"]
noncomputable abbrev fm:Stmt:=Hd.top 8
noncomputable abbrev qa:List Str:=["thing"]
noncomputable abbrev oO:Stmt:=Hd.top 9
noncomputable abbrev BQ:List Str:=["thing"]
noncomputable abbrev vd:Stmt:=Hd.top 12
noncomputable abbrev Ha:List Str:=["top","bottom","shared"]
noncomputable abbrev El:Stmt:=Hd.top 13
noncomputable abbrev Nl:List Str:=["one","other"]
noncomputable abbrev y6:Stmt:=Hd.top 14
noncomputable abbrev KG:List Str:=["one","other"]
noncomputable abbrev y7:Stmt:=Hd.top 15
noncomputable abbrev KH:List Str:=["one","other"]
noncomputable abbrev y9:Stmt:=Hd.top 16
noncomputable abbrev KI:List Str:=["one","other"]
noncomputable abbrev rn:Stmt:=Hd.top 17
noncomputable abbrev Em:List Str:=["one","other"]
noncomputable abbrev ve:Stmt:=Hd.top 18
noncomputable abbrev Hb:List Str:=["one","other"]
noncomputable abbrev vf:Stmt:=Hd.top 19
noncomputable abbrev Hc:List Str:=["some","whole","one"]
noncomputable abbrev hX:Stmt:=Hd.top 21
noncomputable abbrev tJ:List Str:=["ring","k"]
noncomputable abbrev gp:Stmt:=Hd.top 22
noncomputable abbrev rp:List Str:=["ring","k"]
noncomputable abbrev oP:Stmt:=Hd.top 23
noncomputable abbrev BR:List Str:=["ring","k","l","low","high","first","last"]
noncomputable abbrev iZ:Stmt:=Hd.top 24
noncomputable abbrev rq:List Str:=["ring","sending"]
noncomputable abbrev cP:Stmt:=Hd.top 25
noncomputable abbrev ly:List Str:=["ring","some","number","k","l"]
noncomputable abbrev vg:Stmt:=Hd.top 29
noncomputable abbrev He:List Str:=["thing"]
noncomputable abbrev mn:Stmt:=Hd.top 30
noncomputable abbrev zb:List Str:=["way"]
noncomputable abbrev ka:Stmt:=Hd.top 31
noncomputable abbrev rC:List Str:=["ring","k","way","places","one","other"]
noncomputable abbrev rD:Stmt:=Hd.top 32
noncomputable abbrev En:List Str:=["ring","k","way","tie","places","one","other","lies_on"]
noncomputable abbrev mq:Stmt:=Hd.top 34
noncomputable abbrev zd:List Str:=["ring","sending","k","tie"]
noncomputable abbrev nH:Stmt:=Hd.top 35
noncomputable abbrev xm:List Str:=["ring","sending","tie"]
noncomputable abbrev k8:Stmt:=Hd.top 36
noncomputable abbrev uk:List Str:=["ring","sending"]
noncomputable abbrev k9:Stmt:=Hd.top 38
noncomputable abbrev um:List Str:=["ring","thing"]
noncomputable abbrev nI:Stmt:=Hd.top 39
noncomputable abbrev xn:List Str:=["ring","ways"]
noncomputable abbrev i0:Stmt:=Hd.top 48
noncomputable abbrev vh:List Str:=["part","way","amount"]
noncomputable abbrev mr:Stmt:=Hd.top 47
noncomputable abbrev ze:List Str:=["sending","slide","slid"]
noncomputable abbrev eL:Stmt:=Hd.top 44
noncomputable abbrev lJ:List Str:=["ring","k","way","l","other","taken"]
noncomputable abbrev du:Stmt:=Hd.top 43
noncomputable abbrev mv:List Str:=["thing","asks"]
noncomputable abbrev oQ:Stmt:=Hd.top 45
noncomputable abbrev BS:List Str:=["ring","sending","k","way"]
noncomputable abbrev mw:Stmt:=Hd.top 46
noncomputable abbrev zg:List Str:=["ring","sending","slide"]
noncomputable abbrev oR:Stmt:=Hd.top 42
noncomputable abbrev BU:List Str:=["ring","sending","thing"]
noncomputable abbrev rE:Stmt:=Hd.top 41
noncomputable abbrev Eo:List Str:=["ring","sending","thing","slid","number","slide"]
noncomputable abbrev kb:Stmt:=Hd.top 51
noncomputable abbrev xq:List Str:=["ring","k","l","ways"]
noncomputable abbrev ft:Stmt:=Hd.top 50
noncomputable abbrev qc:List Str:=["ring","sending","k","l","ways","slide"]
noncomputable abbrev kc:Stmt:=Hd.top 49
noncomputable abbrev xr:List Str:=["ring","sending","slid","slides","pair","slide"]
noncomputable abbrev i3:Stmt:=Hd.top 56
noncomputable abbrev vi:List Str:=["ask","part"]
noncomputable abbrev dM:Stmt:=Hd.top 55
noncomputable abbrev nJ:List Str:=["ring","slid","parted","ways","k","ask"]
noncomputable abbrev dN:Stmt:=Hd.top 58
noncomputable abbrev nK:List Str:=["ring","some","greatest","k"]
noncomputable abbrev cK:Stmt:=Hd.top 59
noncomputable abbrev oS:List Str:=["ring","some"]
noncomputable abbrev ke:Stmt:=Hd.top 60
noncomputable abbrev xu:List Str:=["ring","k"]
noncomputable abbrev rF:Stmt:=Hd.top 61
noncomputable abbrev Ep:List Str:=["ring","sending","k","way","size","rising"]
noncomputable abbrev ia:Stmt:=Hd.top 57
noncomputable abbrev tK:List Str:=["ring","slid","parted","ways","half","whole","k"]
noncomputable abbrev gu:Stmt:=Hd.top 54
noncomputable abbrev rG:List Str:=["ring","sending","thing","slid","parted"]
noncomputable abbrev eM:Stmt:=Hd.top 63
noncomputable abbrev lK:List Str:=["ring","slid","parted","ways","half","whole","k"]
noncomputable abbrev i4:Stmt:=Hd.top 62
noncomputable abbrev vj:List Str:=["ring","sending","slides"]
noncomputable abbrev lg:Stmt:=Hd.top 65
noncomputable abbrev uo:List Str:=["ring","sending","ways","whole"]
noncomputable abbrev kf:Stmt:=Hd.top 67
noncomputable abbrev xv:List Str:=["_law_script","_law_k","_law_cell"]
noncomputable abbrev mx:Stmt:=Hd.top 68
noncomputable abbrev zh:List Str:=["_law_state","_law_many","_law_digit","_law_drawn","_law_turn"]
noncomputable abbrev oT:Stmt:=Hd.top 69
noncomputable abbrev BV:List Str:=["_law_top","_law_bottom","_law_one","_law_share"]
noncomputable abbrev i5:Stmt:=Hd.top 70
noncomputable abbrev vk:List Str:=["_law_state","_law_least","_law_kind","_law_bottom","_law_top"]
noncomputable abbrev my:Stmt:=Hd.top 78
noncomputable abbrev zi:List Str:=["_law_script","_law_state","_law_source","_law_kind","_law_asks","_law_left","_law_k","_law_place","_law_ends","_law_one","_law_other"]
noncomputable abbrev mz:Stmt:=Hd.top 75
noncomputable abbrev zj:List Str:=["_law_ring","_law_k","_law_way","_law_name","_law_one","_law_other","_law_size","_law_ties_here"]
noncomputable abbrev kg:Stmt:=Hd.top 73
noncomputable abbrev xw:List Str:=["_law_one","_law_other"]
noncomputable abbrev mB:Stmt:=Hd.top 72
noncomputable abbrev zk:List Str:=["_law_one","_law_other"]
noncomputable abbrev ki:Stmt:=Hd.top 76
noncomputable abbrev xx:List Str:=["_law_ring","_law_sending","_law_loads_here","_law_k","_law_part","_law_way","_law_gone","_law_tie"]
noncomputable abbrev kj:Stmt:=Hd.top 74
noncomputable abbrev xy:List Str:=["_law_one","_law_other"]
noncomputable abbrev gv:Stmt:=Hd.top 77
noncomputable abbrev rH:List Str:=["_law_ring","_law_some","_law_found","_law_k"]
noncomputable abbrev cX:Stmt:=Hd.top 80
noncomputable abbrev jz:List Str:=["_law_ring","_law_sending","_law_rounding","_law_slides","_law_ways","_law_parted","_law_whole","_law_k","_law_turned"]
noncomputable abbrev fu:Stmt:=Hd.top 79
noncomputable abbrev qd:List Str:=["_law_ring","_law_some","_law_k","_law_l"]
noncomputable abbrev kq:Stmt:=Hd.top 81
noncomputable abbrev xA:List Str:=["_law_ring","_law_sending","_law_loads_here","_law_behind","_law_tie","_law_load","_law_rounding","_law_whole","_law_most","_law_gains","_law_gain"]
noncomputable abbrev kr:Stmt:=Hd.top 71
noncomputable abbrev xB:List Str:=["_law_state","_law_ring","_law_parts_here","_law_name","_law_one","_law_other","_law_size","_law_way","_law_share"]
noncomputable abbrev Er:Stmt:=Hd.top 82
noncomputable abbrev Nm:List Str:=["_law_script","_law_ring","_law_kept","_law_k","_law_ways","_law_whole","_law_slides","_law_again","_law_turned"]
def ck:FS:=λls so=>∃a b:Int,ls=[.d (.int a),.d (.int b)]/\so (.d (.int (Int.gcd a b))) ls
def mC:W Fl:=(aV (bL 2 (av iT (aj 0) (aj 1)))
  (aV (bL 0 (aj 1))
  (bL 1 (aj 2))))
def eA:W Fl:=(aV (t7 (aO (av uK (aj 1) (wC (.int 0)))) mC)
  (bO (bq Br (ar (aj 0) aI))))
theorem mD:∀ls so,ls.length=2->ck ls so->eA (ls++List.replicate 1 .un) (aP ls so):=by
 rintro ls so - ⟨a,b,rfl,h⟩;unfold eA;walk_at "w";refine⟨λn Z=>∃x y r,Z=[.d (.int x),.d (.int y),r]/\Int.gcd x y=Int.gcd a b/\n=y.natAbs,⟨_,a,b,_,rfl,rfl,rfl⟩,?_⟩;rintro n Z ⟨x,y,r,rfl,hg,rfl⟩;walk_at "w";split
 .
  rename_i hy;have hy:y≠0:=by simpa using hy
  exact⟨hy,_,lG x hy,y,x.fmod y,_,rfl,by rw[z9];exact hg,rfl⟩
 .
  rename_i hy;have hy:y=0:=by simpa using hy
  subst hy;refine⟨_,ai (ai aM),?_⟩
  have e:(if x<0 then -x else x)=((Int.gcd a b:Nat):Int):=by rw[<- hg,Int.gcd_zero_right];split<;>omega
  rw[e];exact h
def gw:FS:=λls so=>(∃i:Int,ls=[.d (.int i)]/\so (.d (.bl true)) ls)∨∃d:D,ls=[.d d]/\(∀i,d≠.int i)/\so (.d (.bl false)) ls
def lj:W Fl:=(bO (m4 (Q3 (p5 "int") (aj 0)) (CM (aO (Q3 (p5 "bool") (aj 0))))))
theorem xC:∀ls so,ls.length=1->gw ls so->lj (ls++List.replicate 0 .un) (aP ls so):=by
 rintro ls so-(⟨i,rfl,h⟩|⟨d,rfl,hd,h⟩)
 . unfold lj;walk_at "w";exact⟨_,ai aM,h⟩
 .
  unfold lj
  cases d with
  |int i=>exact absurd rfl (hd i)
  |_=>walk_at "w"; exact⟨_,ai aM,h⟩
def cm:FS:=λls so=>∃(d:D)(n:Int),ls=[.d d,.d (.int n)]/\so (.d (.bl (rl d n))) ls
def eB:W Fl:=(bO (m4 (aB gw (ar (aj 0) aI)) (Ac N6 uI (wC (.int 0)) (aj 0) (aj 1))))
theorem mE:∀ls so,ls.length=2->cm ls so->eB (ls++List.replicate 0 .un) (aP ls so):=by
 rintro ls so - ⟨d,n,rfl,h⟩;unfold eB;by_cases hd:∃i,d=.int i
 .
  obtain⟨i,rfl⟩:=hd;have h:so (.d (.bl (decide (0<=i/\i<n)))) [.d (.int i),.d (.int n)]:=h;walk_at "w";refine .inl ⟨i,rfl,?_⟩;walk_at "w";by_cases c:0<=i
  .
   rw[if_pos c];have e:decide (0<=i/\i<n)=decide (i<n):=by rw[WM];omega
   rw[e]at h;exact⟨_,ai (ai aM),h⟩
  . rw[if_neg c];have e:decide (0<=i/\i<n)=false:=Va xL;rw[e]at h;exact⟨_,ai (ai aM),h⟩
 .
  have e:rl d n=false:=by
   unfold rl;split
   . exact absurd ⟨_,rfl⟩ hd
   . rfl
  rw[e]at h;walk_at "w";refine .inr ⟨d,rfl,λi e=>hd ⟨i,e⟩,?_⟩;walk_at "w";exact⟨_,ai (ai aM),h⟩
noncomputable def P7:D->Bool
 |.tup [.int _,.int _]=>true
 |_=>false
def eD:FS:=λls so=>(∃i j:Int,ls=[.d (.tup [.int i,.int j])]/\so (.d (.bl true)) ls)∨∃d:D,ls=[.d d]/\(∀i j,d≠.tup [.int i,.int j])/\so (.d (.bl false)) ls
def cY:W Fl:=(bO (m4 (Q3 (p5 "tuple") (aj 0)) (m4 (av vR (bq dX (ar (aj 0) aI)) (wC (.int 2))) (m4 (aB gw (ar (av aJ (aj 0) (wC (.int 0))) aI)) (aB gw (ar (av aJ (aj 0) (wC (.int 1))) aI))))))
theorem nL:∀ls so,ls.length=1->eD ls so->cY (ls++List.replicate 0 .un) (aP ls so):=by
 rintro ls so-(⟨i,j,rfl,h⟩|⟨d,rfl,hd,h⟩)
 . unfold cY;walk_at "w";refine .inl ⟨_,rfl,?_⟩;walk_at "w";refine .inl ⟨_,rfl,?_⟩;walk_at "w";exact⟨_,ai aM,h⟩
 .
  unfold cY;have Qm:aP [.d d] so (.rt (.d (.bl false))) [.d d]:=⟨_,ai aM,h⟩;by_cases ht:∃xs,d=.tup xs
  .
   obtain⟨xs,rfl⟩:=ht;by_cases hl:xs.length=2
   .
    obtain⟨x,y,rfl⟩:∃x y,xs=[x,y]:=by rcases xs with _|⟨x,_|⟨y,_|⟨z,r⟩⟩⟩<;>simp at hl;exact⟨_,_,rfl⟩
    have wh:∀z:D,(∃i,z=.int i)∨(∀i,z≠.int i):=λz=>by cases z<;>simp
    walk_at "w";rcases wh x with⟨i,rfl⟩|hx
    .
     refine .inl ⟨_,rfl,?_⟩;rcases wh y with⟨j,rfl⟩|hy
     . exact absurd rfl (hd i j)
     . walk_at "w";refine .inr ⟨_,rfl,hy,?_⟩;walk_at "w";exact Qm
    . refine .inr ⟨_,rfl,hx,?_⟩;walk_at "w";exact Qm
   .
    walk_at "w";have e:¬((xs.length:Int)=2):=by omega
    simp only[e,decide_false];exact Qm
  .
   have ei:ng "tuple" d=false:=by
    cases d<;>first
     |exact absurd ⟨_,rfl⟩ ht
     |rfl
   walk_at "w";rw[ei];walk_at "w";exact Qm
def mF:FS:=λls so=>∃d:D,ls=[.d d]/\so (.d (.bl (yW d))) ls
def ll:W Fl:=(bO (m4 (aB eD (ar (aj 0) aI)) (m4 (av LR (av aJ (aj 0) (wC (.int 1))) (wC (.int 1))) (av vR (aB ck (ar (av aJ (aj 0) (wC (.int 0))) (ar (av aJ (aj 0) (wC (.int 1))) aI))) (wC (.int 1))))))
theorem xD:∀ls so,ls.length=1->mF ls so->ll (ls++List.replicate 0 .un) (aP ls so):=by
 rintro ls so - ⟨d,rfl,h⟩;by_cases hd:∃i j,d=.tup [.int i,.int j]
 .
  obtain⟨i,j,rfl⟩:=hd;unfold ll;walk_at "w";refine .inl ⟨_,_,rfl,?_⟩;walk_at "w";have e:yW (.tup [.int i,.int j])=(decide (1<=j) && decide ((Int.gcd i j:Int)=1)):=rfl;rw[e]at h;split
  . rename_i hj;refine⟨_,_,rfl,?_⟩;walk_at "w";have hj':(1:Int)<=j:=hj;rw[Vm hj',Wx]at h;exact⟨_,ai aM,h⟩
  . rename_i hj;have hj':¬(1:Int)<=j:=hj;rw[Va hj',Wz]at h;exact⟨_,ai aM,h⟩
 . have hn:∀i j,d≠.tup [.int i,.int j]:=λi j e=>hd ⟨i,j,e⟩;rw[DX hn]at h;unfold ll;walk_at "w";refine .inr ⟨_,rfl,hn,?_⟩;walk_at "w";exact⟨_,ai aM,h⟩
def ku:FS:=λls so=>∃t b:Int,ls=[.d (.int t),.d (.int b)]/\b≠0/\b.natAbs<2^9000/\so (.d (Rl (Rat.divInt t b))) ls
def vm:W Fl:=(aV (bL 2 (bG (aB ck (ar (aj 0) (ar (aj 1) aI)))))
  (aV (Q4 (aO (av uI (aj 1) (wC (.int 0)))) (bL 2 (Q3 CO (aj 2))) cw)
  (bO (oy (ar (av uH (aj 0) (aj 2)) (ar (av uH (aj 1) (aj 2)) aI))))))
theorem BW:∀ls so,ls.length=2->ku ls so->vm (ls++List.replicate 1 .un) (aP ls so):=by
 rintro ls so - ⟨t,b,rfl,hb,hz,h⟩;unfold vm;walk_at "w";refine⟨t,b,rfl,?_⟩;walk_at "w";have h1:=Aa (t:=t) hb;have h2:=Ve (Ab (t:=t) hb) hz
 have Qm:∀{g:Int}{Z:Ev},g=cN t b->g≠0/\g.natAbs<2^9000/\g≠0/\g.natAbs<2^9000/\2<=sizeLine/\aP [.d (.int t),.d (.int b)] so (.rt (.d (.tup [.int (t.fdiv g),.int (b.fdiv g)]))) Z:=λ{g Z} e=>by
  have e1:g≠0:=by rw[e];exact h1
  have e2:g.natAbs<2^9000:=by rw[e];exact h2
  refine⟨e1,e2,e1,e2,x_,_,ai (ai aM),?_⟩;rw[As hb e];exact h
 split
 . rename_i hlt;exact Qm (by simp[cN,hlt])
 . rename_i hlt;exact Qm (by simp[cN,hlt])
def i6:FS:=λls so=>∃p q:Rat,ls=[.d (Rl p),.d (Rl q)]/\RB 400000 p/\RB 400000 q/\p.den*q.den<2^9000/\so (.d (Rl (p+q))) ls
def Es:W Fl:=(bO (aB ku (ar (bG (av fg (av bM (av aJ (aj 0) (wC (.int 0))) (av aJ (aj 1) (wC (.int 1)))) (av bM (av aJ (aj 1) (wC (.int 0))) (av aJ (aj 0) (wC (.int 1)))))) (ar (bG (av bM (av aJ (aj 0) (wC (.int 1))) (av aJ (aj 1) (wC (.int 1))))) aI))))
theorem Hf:∀ls so,ls.length=2->i6 ls so->Es (ls++List.replicate 0 .un) (aP ls so):=by rintro ls so - ⟨p,q,rfl,hp,hq,hz,h⟩;unfold Es;simp only[Rl];walk_at "w";refine⟨hp.bn x_,hq.bd x_,hq.bn x_,hp.bd x_,hp.bd x_,hq.bd x_,_,_,rfl,oH p q,by rw[k7];exact hz,_,ai (ai aM),?_⟩;rw[wO];exact h
theorem Hg{p q:Rat}{so:L->List L->Prop}(hp:RB 4400 p)(hq:RB 4400 q)(h:so (.d (Rl (p+q))) [.d (Rl p),.d (Rl q)]):i6 [.d (Rl p),.d (Rl q)] so :=
 ⟨p,q,rfl,hp.mono x_,hq.mono x_,U2 (bo hp.2 hq.2) (Vg x_ x_),h⟩
def cZ:FS:=λls so=>∃p q:Rat,ls=[.d (Rl p),.d (Rl q)]/\RB 400000 p/\RB 400000 q/\p.den*q.den<2^9000/\so (.d (Rl (p-q))) ls
def zl:W Fl:=(bO (aB ku (ar (av pZ (av bM (av aJ (aj 0) (wC (.int 0))) (av aJ (aj 1) (wC (.int 1)))) (av bM (av aJ (aj 1) (wC (.int 0))) (av aJ (aj 0) (wC (.int 1))))) (ar (bG (av bM (av aJ (aj 0) (wC (.int 1))) (av aJ (aj 1) (wC (.int 1))))) aI))))
theorem Et:∀ls so,ls.length=2->cZ ls so->zl (ls++List.replicate 0 .un) (aP ls so):=by rintro ls so - ⟨p,q,rfl,hp,hq,hz,h⟩;unfold zl;simp only[Rl];walk_at "w";refine⟨hp.bn x_,hq.bd x_,hq.bn x_,hp.bd x_,hp.bd x_,hq.bd x_,_,_,rfl,oH p q,by rw[k7];exact hz,_,ai (ai aM),?_⟩;rw[HQ];exact h
theorem eZ{p q:Rat}{so:L->List L->Prop}(hp:RB 4400 p)(hq:RB 4400 q)(h:so (.d (Rl (p-q))) [.d (Rl p),.d (Rl q)]):cZ [.d (Rl p),.d (Rl q)] so :=
 ⟨p,q,rfl,hp.mono x_,hq.mono x_,U2 (bo hp.2 hq.2) (Vg x_ x_),h⟩
def vn:FS:=λls so=>∃p q:Rat,ls=[.d (Rl p),.d (Rl q)]/\RB 4400 p/\RB 4400 q/\so (.d (Rl (p*q))) ls
def zm:W Fl:=(bO (aB ku (ar (bG (av bM (av aJ (aj 0) (wC (.int 0))) (av aJ (aj 1) (wC (.int 0))))) (ar (bG (av bM (av aJ (aj 0) (wC (.int 1))) (av aJ (aj 1) (wC (.int 1))))) aI))))
theorem Eu:∀ls so,ls.length=2->vn ls so->zm (ls++List.replicate 0 .un) (aP ls so):=by
 rintro ls so - ⟨p,q,rfl,hp,hq,h⟩;unfold zm;walk_at "w";refine⟨hp.bn x_,hq.bn x_,hp.bd x_,hq.bd x_,_,_,rfl,oH p q,?_,_,ai (ai aM),?_⟩
 . rw[k7];exact U2 (bo hp.2 hq.2) (Vg x_ x_)
 . rw[HS];exact h
def dO:FS:=λls so=>∃p q:Rat,ls=[.d (Rl p),.d (Rl q)]/\RB 400000 p/\RB 400000 q/\so (.d (.bl (decide (p<q)))) ls
def zo:W Fl:=(bO (av uI (av bM (av aJ (aj 0) (wC (.int 0))) (av aJ (aj 1) (wC (.int 1)))) (av bM (av aJ (aj 1) (wC (.int 0))) (av aJ (aj 0) (wC (.int 1))))))
theorem Ew:∀ls so,ls.length=2->dO ls so->zo (ls++List.replicate 0 .un) (aP ls so):=by rintro ls so - ⟨p,q,rfl,hp,hq,h⟩;unfold zo;walk_at "w";refine⟨hp.bn x_,hq.bd x_,hq.bn x_,hp.bd x_,_,ai (ai aM),?_⟩;rw[MQ];exact h
def oU:FS:=λls so=>∃p q:Rat,ls=[.d (Rl p),.d (Rl q)]/\RB 400000 p/\RB 400000 q/\so (.d (Rl (if p<q then q else p))) ls
def rJ:W Fl:=(bO (Ca (aO (aB dO (ar (aj 0) (ar (aj 1) aI)))) (aj 1) (aj 0)))
theorem zp:∀ls so,ls.length=2->oU ls so->rJ (ls++List.replicate 0 .un) (aP ls so):=by
 rintro ls so - ⟨p,q,rfl,hp,hq,h⟩;unfold rJ;walk_at "w";refine⟨p,q,rfl,hp,hq,?_⟩;walk_at "w";split
 . rename_i hl;rw[if_pos hl]at h;exact⟨_,ai (ai aM),h⟩
 . rename_i hl;rw[if_neg hl]at h;exact⟨_,ai (ai aM),h⟩
def rK:FS:=λls so=>∃p q:Rat,ls=[.d (Rl p),.d (Rl q)]/\RB 400000 p/\RB 400000 q/\so (.d (Rl (if q<p then q else p))) ls
def vo:W Fl:=(bO (Ca (aO (aB dO (ar (aj 1) (ar (aj 0) aI)))) (aj 1) (aj 0)))
theorem BX:∀ls so,ls.length=2->rK ls so->vo (ls++List.replicate 0 .un) (aP ls so):=by
 rintro ls so - ⟨p,q,rfl,hp,hq,h⟩;unfold vo;walk_at "w";refine⟨q,p,rfl,hq,hp,?_⟩;walk_at "w";split
 . rename_i hl;rw[if_pos hl]at h;exact⟨_,ai (ai aM),h⟩
 . rename_i hl;rw[if_neg hl]at h;exact⟨_,ai (ai aM),h⟩
def rL:FS:=λls so=>∃(qs:List Rat)(x:D),ls=[.d x]/\(x=.lst (qs.map Rl)∨x=.tup (qs.map Rl))/\qs.length<=63/\(∀q∈qs,RB 4400 q)/\M0 qs/\so (.d (Rl (gN qs))) ls
def iE:W Fl:=(bL 1 (aB i6 (ar (aj 1) (ar (aj 2) aI))))
def vp:W Fl:=(aV (bL 1 (wC (.tup [(.int 0),(.int 1)])))
  (aV (pY (wx (aj 0)) (bp 2) iE)
  (bO (mY 1))))
theorem vq{x:D}{so:Fl->Ev->Prop}:∀(qs:List Rat)(acc:Rat)(n:Nat)(r:L),qs.length<=63->n+4401*qs.length<=400000->RB n acc->(∀q∈qs,RB 4400 q)->acc.den*MR qs<2^9000->(∀r',so .nx [.d x,.d (Rl (qs.foldl (·+·) acc)),r']) ->
  dh (bp 2) iE (qs.map Rl) [.d x,.d (Rl acc),r] so
 |[],acc,n,r,_,_,_,_,_,h=>h r
 | q::qs,acc,n,r,hl,hn,ha,hq,hd,h=>by have hd':acc.den*(q.den*MR qs)<2^9000:=hd;have hq1:=hq q UZ;have hlc:(q::qs).length=qs.length+1:=rfl;have dpos:0<MR qs:=Au qs;have hz:acc.den*q.den<2^9000:=Ve (by rw[<- Nat.mul_assoc];exact Nat.le_mul_of_pos_right _ dpos) hd';show dh _ _ (Rl q::qs.map Rl) _ _;unfold dh iE;walk_at "w";refine⟨acc,q,rfl,ha.mono xL,hq1.mono x_,hz,?_⟩;refine vq qs (acc+q) (n+4400+1) _ xL xL (ha.add hq1) (λz hz=>hq z (UW _ hz)) (Ve ?_ hd') h;rw[<- Nat.mul_assoc];exact Nat.mul_le_mul_right _ (Bv acc q)
theorem rM{x:D}{E:Nat}(e0:0<E)(e1:E<2^4400){so:Fl->Ev->Prop}:∀(qs:List Rat)(acc:Rat)(n:Nat)(r:L),qs.length<=63->n+4401*qs.length<=400000->RB n acc->(∀q∈qs,RB 4400 q)->acc.den∣E->(∀q∈qs,q.den∣E)->(∀r',so .nx [.d x,.d (Rl (qs.foldl (·+·) acc)),r']) ->
  dh (bp 2) iE (qs.map Rl) [.d x,.d (Rl acc),r] so
 |[],acc,n,r,_,_,_,_,_,_,h=>h r
 | q::qs,acc,n,r,hl,hn,ha,hq,hd,hds,h=>by have hq1:=hq q UZ;have hq2:=hds q UZ;have hlc:(q::qs).length=qs.length+1:=rfl;have hz:acc.den*q.den<2^9000:=U2 (bo (m:=4400) (n:=4400) (Ve (Wy e0 hd) e1) (Ve (Wy e0 hq2) e1)) (Vg x_ x_);show dh _ _ (Rl q::qs.map Rl) _ _;unfold dh iE;walk_at "w";refine⟨acc,q,rfl,ha.mono xL,hq1.mono x_,hz,?_⟩;exact rM e0 e1 qs (acc+q) (n+4400+1) _ xL xL (ha.add hq1) (λz hz=>hq z (UW _ hz)) (DP e0 hd hq2) (λz hz=>hds z (UW _ hz)) h
theorem BY:∀ls so,ls.length=1->rL ls so->vp (ls++List.replicate 2 .un) (aP ls so):=by
 rintro ls so - ⟨qs,x,rfl,hx,hl,hq,hd,h⟩;unfold vp;have Qm:∀r',aP [.d x] so (.rt (.d (Rl (gN qs)))) [.d x,.d (Rl (gN qs)),r']:=λr'=>⟨_,ai aM,h⟩;rcases hx with rfl|rfl
 .
  walk_at "w";rcases hd with hd|⟨E,e0,e1,hd⟩
  . exact vq qs 0 1 .un hl xL ⟨x_,x_⟩ hq (by show 1*_<_;rw[Nat.one_mul];exact hd) λr'=>Qm r'
  . exact rM e0 e1 qs 0 1 .un hl xL ⟨x_,x_⟩ hq (Nat.one_dvd _) hd λr'=>Qm r'
 .
  walk_at "w";rcases hd with hd|⟨E,e0,e1,hd⟩
  . exact vq qs 0 1 .un hl xL ⟨x_,x_⟩ hq (by show 1*_<_;rw[Nat.one_mul];exact hd) λr'=>Qm r'
  . exact rM e0 e1 qs 0 1 .un hl xL ⟨x_,x_⟩ hq (Nat.one_dvd _) hd λr'=>Qm r'
noncomputable def UE(a:RT):Nat:=max a.one a.other
def cA:FS:=λls so=>∃(R:aL)(k:Nat)(hk:k<R.asks.length),ls=[.d (aH R),.d (.int k)]/\so (.d (.int (So R.asks[k]))) ls
def ib:W Fl:=(bO (bq Bs (ar (av aJ (av aJ (av aJ (aj 0) (wC (.int 1))) (aj 1)) (wC (.int 1))) (ar (av aJ (av aJ (av aJ (aj 0) (wC (.int 1))) (aj 1)) (wC (.int 2))) aI))))
theorem qe:∀ls so,ls.length=2->cA ls so->ib (ls++List.replicate 0 .un) (aP ls so):=by
 rintro ls so - ⟨R,k,hk,rfl,h⟩;unfold ib;walk_at "w";refine⟨_,aR hk,?_⟩;walk_at "w";refine⟨_,aR hk,?_⟩;walk_at "w"
 have e:(if((R.asks[k].other:Nat):Int)<(R.asks[k].one:Int)then((R.asks[k].other:Nat):Int)else(R.asks[k].one:Int))=((So R.asks[k]:Nat):Int):=by unfold So;split<;>omega
 first|rw[e] | skip
 exact⟨_,ai (ai aM),h⟩
def c7:FS:=λls so=>∃(R:aL)(k:Nat)(hk:k<R.asks.length),ls=[.d (aH R),.d (.int k)]/\so (.d (.int ((max R.asks[k].one R.asks[k].other:Nat):Int))) ls
def gy:W Fl:=(bO (bq CV (ar (av aJ (av aJ (av aJ (aj 0) (wC (.int 1))) (aj 1)) (wC (.int 1))) (ar (av aJ (av aJ (av aJ (aj 0) (wC (.int 1))) (aj 1)) (wC (.int 2))) aI))))
theorem oV:∀ls so,ls.length=2->c7 ls so->gy (ls++List.replicate 0 .un) (aP ls so):=by
 rintro ls so - ⟨R,k,hk,rfl,h⟩;unfold gy;walk_at "w";refine⟨_,aR hk,?_⟩;walk_at "w";refine⟨_,aR hk,?_⟩;walk_at "w"
 have e:(if((R.asks[k].other:Nat):Int) > (R.asks[k].one:Int)then((R.asks[k].other:Nat):Int)else(R.asks[k].one:Int))=((max R.asks[k].one R.asks[k].other:Nat):Int):=by split<;>omega
 first|rw[e] | skip
 exact⟨_,ai (ai aM),h⟩
noncomputable def uq(a b:RT):Bool:=decide (min a.one a.other<min b.one b.other/\min b.one b.other<max a.one a.other/\max a.one a.other<max b.one b.other) ||decide (min b.one b.other<min a.one a.other/\min a.one a.other<max b.one b.other/\max b.one b.other<max a.one a.other)
def i7:FS:=λls so=>∃(R:aL)(k l:Nat)(hk:k<R.asks.length)(hl:l<R.asks.length),ls=[.d (aH R),.d (.int k),.d (.int l)]/\so (.d (.bl (uq R.asks[k] R.asks[l]))) ls
def oW:W Fl:=(aV (bL 3 (bG (aB cA (ar (aj 0) (ar (aj 1) aI)))))
  (aV (bL 4 (bG (aB c7 (ar (aj 0) (ar (aj 1) aI)))))
  (aV (bL 5 (bG (aB cA (ar (aj 0) (ar (aj 2) aI)))))
  (aV (bL 6 (bG (aB c7 (ar (aj 0) (ar (aj 2) aI)))))
  (bO (N4 (uT (aj 3) [(uI,(aj 5)),(uI,(aj 4)),(uI,(aj 6))]) (uT (aj 5) [(uI,(aj 3)),(uI,(aj 6)),(uI,(aj 4))])))))))
theorem Hh(a b:RT){A B C D':Int}(hA:A=((min a.one a.other:Nat):Int))(hB:B=((min b.one b.other:Nat):Int))(hC:C=((max a.one a.other:Nat):Int))(hD:D'=((max b.one b.other:Nat):Int)):uq a b=(decide (A<B/\B<C/\C<D') ||decide (B<A/\A<D'/\D' < C)):=by subst hA hB hC hD;unfold uq;simp only[Int.ofNat_lt]
theorem xE:∀ls so,ls.length=3->i7 ls so->oW (ls++List.replicate 4 .un) (aP ls so):=by
 rintro ls so - ⟨R,k,l,hk,hl,rfl,h⟩;unfold oW;walk_at "w";refine⟨R,k,hk,rfl,?_⟩;walk_at "w";refine⟨R,k,hk,rfl,?_⟩;walk_at "w";refine⟨R,l,hl,rfl,?_⟩;walk_at "w";refine⟨R,l,hl,rfl,?_⟩;walk_at "w";have Qm:∀b:Bool,b=uq R.asks[k] R.asks[l]->∀x3 x4 x5 x6:L,aP [.d (aH R),.d (.int k),.d (.int l)] so (.rt (.d (.bl b))) [.d (aH R),.d (.int k),.d (.int l),x3,x4,x5,x6]:=λb hb x3 x4 x5 x6=>by subst hb;exact⟨_,ai (ai (ai aM)),h⟩
 have ec:=Hh R.asks[k] R.asks[l] (A:=(So R.asks[k]:Int)) (B:=(So R.asks[l]:Int)) rfl rfl rfl rfl;generalize hA:((So R.asks[k]:Nat):Int)=A at *;generalize hB:((So R.asks[l]:Nat):Int)=B at *;generalize hC:((max R.asks[k].one R.asks[k].other:Nat):Int)=C at *;generalize hD:((max R.asks[l].one R.asks[l].other:Nat):Int)=D' at *
 by_cases c1:A<B<;>by_cases c2:B<C<;>by_cases c3:C<D'<;>by_cases c4:B<A<;>by_cases c5:A<D'<;>by_cases c6:D' < C <;>
  simp only[c1,c2,c3,c4,c5,c6,W5,WX,ite_true,ite_false,decide_true,decide_false,Bn,Wl]<;>refine Qm _ ?_ _ _ _ _<;>rw[ec]<;>simp only[c1,c2,c3,c4,c5,c6]<;>decide
noncomputable def KJ(R:aL)(ps:List Rat)(k:Nat):Bool:=decide (0<ps.getD k 0) && decide (ps.getD k 0<R.sz k)
noncomputable def cB(R:aL)(ps:List Rat):List Nat:=(List.range ps.length).filter (KJ R ps)
def bC:FS:=λls so=>∃(R:aL)(ps:List Rat)(c:Nat),ls=[.d (aH R),.d (.lst (ps.map Rl))]/\R.Ok/\ps.length=R.asks.length/\(∀p∈ps,RB c p)/\c<=400000/\∀a,so (.own a ((cB R ps).map λ(k:Nat)=>D.int (k:Int))) ls
def nM:W L:=(aj 0)
def mG:W Fl:=(bO (lx 2 [0] (uQ (aj 1)) (eX [0,1]) (HI (aO (aB dO (ar (wC (.tup [(.int 0),(.int 1)])) (ar (aj 1) aI)))) (aO (aB dO (ar (aj 1) (ar (av aJ (av aJ (av aJ (aj 2) (wC (.int 1))) (aj 0)) (wC (.int 3))) aI))))) nM))
theorem Ey{α:Type}{e1 e2:α->D}{p:α->Bool}{caps:Ev}{ti:W Bool}{te:W L}{k:List D->Ev->Prop}{g:α->D}(as:List α)(acc:List D)(l m:L)
  (h1:∀a∈as,∀Q:Bool->Ev->Prop,Q (p a) (.d (e1 a)::.d (e2 a)::caps)->ti (.d (e1 a)::.d (e2 a)::caps) Q)
  (h2:∀a∈as,p a=true->∀Q:L->Ev->Prop,Q (.d (g a)) (.d (e1 a)::.d (e2 a)::caps)->te (.d (e1 a)::.d (e2 a)::caps) Q)
  (hk:∀l m,k (acc++(as.filter p).map g) (l::m::caps)):fh (eX [0,1]) ti te (as.map λa=>D.tup [e1 a,e2 a]) (l::m::caps) acc k:=by
 induction as generalizing acc l m with
 |nil=>simpa[fh]using hk l m
 | cons a as ih =>
  rw[Vo];unfold fh;rw[nD];refine h1 a UZ _ ?_
  cases hp:p a with
  | false =>
   rw[if_neg (by decide)];refine ih acc _ _ (λb hb=>h1 b (UW _ hb)) (λb hb=>h2 b (UW _ hb)) λl m=>?_;have:=hk l m;rw[Wd,if_neg (by rw[hp];decide)]at this;exact this
  | true =>
   rw[if_pos rfl];refine h2 a UZ hp _ ?_;refine ih _ _ _ (λb hb=>h1 b (UW _ hb)) (λb hb=>h2 b (UW _ hb)) λl m=>?_;have:=hk l m;rw[Wd,if_pos hp,Vo]at this;rw[VT];exact this
theorem vt:∀ls so,ls.length=2->bC ls so->mG (ls++List.replicate 0 .un) (aP ls so):=by
 rintro ls so - ⟨R,ps,c,rfl,hR,hl,hb,hc,h⟩;unfold mG;walk_at "w";rw[AJ];refine⟨by rw[U4,Vu,hl];exact U8 hR.few x_,?_⟩;refine Ey (p:=KJ R ps) (g:=λ(k:Nat)=>D.int (k:Int)) _ _ _ _ (λk hk Q hq=>?_) (λk hk hp Q hq=>?_) λl m=>?_
 .
  have hk':k<ps.length:=by simpa using hk
  have hb':=hb _ (U3 hk');rw[<- oJ hk']at hb';walk_at "w";refine⟨0,_,rfl,RB.zero.mono x_,hb'.mono hc,?_⟩;walk_at "w";unfold KJ at hq;by_cases h0:0<ps.getD k 0
  . rw[if_pos h0];refine⟨_,aR xL,?_⟩;walk_at "w";refine⟨_,_,rfl,hb'.mono hc,(hR.rb (U3 _)).mono x_,?_⟩;walk_at "w";rw[BN xL]at hq;simpa only[h0,decide_true,Wx]using hq
  . rw[if_neg h0];simpa only[h0,decide_false,Wz]using hq
 . unfold nM;walk_at "w";exact hq
 . intro a;walk_at "w";exact⟨_,ai (ai aM),h a⟩
def aU:FS:=λls so=>∃(R:aL)(ks:List Nat),ls=[.d (aH R),.d (.lst (ks.map λ(k:Nat)=>D.int (k:Int)))]/\ks.length<=20/\(∀k∈ks,k<R.asks.length)/\so (.d (yY (Si (Sh R) ks))) ls
def bu:W Fl:=(Q4 (uF (aO (aB i7 (ar (aj 0) (ar (aj 3) (ar (aj 4) aI)))))) (bO (oy (ar (aj 3) (ar (aj 4) aI)))) cw)
def d5:W Fl:=(pY (wx (Jw (aj 1) (some (av fg (aj 2) (wC (.int 1)))) none)) (bp 4) bu)
def cQ:W Fl:=(aV (pY (uQ (aj 1)) (eX [2,3]) d5)
  (bO (wC .non)))
theorem xF{R:aL}{X:D}{x2:L}{k:Nat}(hk:k<R.asks.length){Q:Fl->Ev->Prop}:∀(ls:List Nat)(x4:L),(∀l∈ls,l<R.asks.length) ->
  (∀l,ls.find? (λl=>!Sh R k l)=some l->∀Z,yd Z [.d (aH R),.d X] [.d (aH R),.d X]->Q (.rt (.d (.tup [.int (k:Int),.int (l:Int)]))) Z)->(ls.find? (λl=>!Sh R k l)=none->∀x4,Q .nx [.d (aH R),.d X,x2,.d (.int (k:Int)),x4]) ->
  dh (bp 4) bu (ls.map λ(k:Nat)=>D.int (k:Int)) [.d (aH R),.d X,x2,.d (.int (k:Int)),x4] Q
 |[],x4,_,_,h2=>h2 rfl x4
 | l::ls,x4,hl,h1,h2=>by
  have hl0:=hl l UZ;show dh (bp 4) bu (D.int (l:Int)::ls.map λ(k:Nat)=>D.int (k:Int)) _ Q;unfold dh;show bu [.d (aH R),.d X,x2,.d (.int (k:Int)),.d (.int (l:Int))] _;unfold bu;walk_at "w";refine⟨R,k,l,hk,hl0,rfl,?_⟩;have ec:uq R.asks[k] R.asks[l]=Sh R k l:=by unfold Sh;rw[bU hk,bU hl0];rfl
  walk_at "w";rw[ec]
  cases e:Sh R k l with
  | false =>
   walk_at "w";exact⟨x_,h1 l (by rw[List.find?_cons,e];rfl) _ (ai (ai aM))⟩
  | true =>
   walk_at "w";exact xF hk ls _ (λm hm=>hl m (UW _ hm)) (λm hm=>h1 m (by rw[List.find?_cons,e];exact hm)) (λhm=>h2 (by rw[List.find?_cons,e];exact hm))
theorem Hi{cr:Nat->Nat->Bool}{ks:List Nat}{j:Nat}(h:j<ks.length):Si cr (ks.drop j)=match (ks.drop (j+1)).find? (λl=>!cr ks[j] l)with
  |some l=>some (ks[j],l)
  |none=>Si cr (ks.drop (j+1)):=by
 rw[VD h];rfl
theorem jM:∀ls so,ls.length=2->aU ls so->cQ (ls++List.replicate 3 .un) (aP ls so):=by
 rintro ls so - ⟨R,ks,rfl,h20,hks,h⟩;unfold cQ;walk_at "w";refine dJ _ (λj Z=>(∃x2 x3 x4,Z=[.d (aH R),.d (.lst (ks.map λ(k:Nat)=>D.int (k:Int))),x2,x3,x4])/\Si (Sh R) (ks.drop j)=Si (Sh R) ks) _ ⟨⟨_,_,_,rfl⟩,rfl⟩ ?_ ?_
 .
  rintro j x Z hj ⟨⟨x2,x3,x4,rfl⟩,hf⟩ Q h1 h2 h3 h4;have hj':j<ks.length:=by have:=(U1.mp hj).1;simpa[d8]using this
  have ex:x=.tup [.int (j:Int),.int (ks[j]:Int)]:=by
   have:(d8 (ks.map λ(k:Nat)=>D.int (k:Int)))[j]?=some (.tup [.int (j:Int),.int (ks[j]:Int)]):=by simp[d8,hj']
   rw[this]at hj;exact(Vq hj).symm
  subst ex;unfold d5;walk_at "w";rw[show(j:Int)+1=((j+1:Nat):Int) by omega,uX,Ax (show j+1<=ks.length by omega)];rw[Hi hj']at hf;refine λ_=>xF (hks _ (U3 hj')) _ _ (λl hl=>hks l (List.mem_of_mem_drop hl)) (λl e Z b=>h4 _ _ ?_) λe x4=>h1 _ ⟨⟨_,_,_,rfl⟩,?_⟩
  . rw[e]at hf;rw[<- hf]at h;exact⟨_,b,h⟩
  . rw[e]at hf;exact hf
 .
  rintro Z ⟨⟨x2,x3,x4,rfl⟩,hf⟩;have e:ks.drop (d8 (ks.map λ(k:Nat)=>D.int (k:Int))).length=[]:=by simp[d8]
  rw[e]at hf;rw[<- hf]at h;exact⟨_,ai (ai aM),h⟩
def kx:FS:=λls so=>∃d:D,ls=[.d d]/\so (.d (.bl (vT d))) ls
def vw:W Fl:=(bO (m4 (Q3 (p5 "str") (aj 0)) (av (yw false) (aj 0) (oy (ar (wC (.str "on")) (ar (wC (.str "back")) aI))))))
theorem BZ:∀ls so,ls.length=1->kx ls so->vw (ls++List.replicate 0 .un) (aP ls so):=by
 rintro ls so - ⟨d,rfl,h⟩;unfold vw
 cases d with
 | str z =>
  walk_at "w";rw[Kt];exact⟨x_,rfl,rfl,_,ai aM,h⟩
 | _ =>
  walk_at "w";exact⟨_,ai aM,h⟩
def ky:FS:=λls so=>∃w:Bool,ls=[.d (.str (fK w))]/\so (.d (.str (fK !w))) ls
def mH:W Fl:=(bO (Ca (aO (av vR (aj 0) (wC (.str "on")))) (wC (.str "back")) (wC (.str "on"))))
theorem vx:∀ls so,ls.length=1->ky ls so->mH (ls++List.replicate 0 .un) (aP ls so):=by
 rintro ls so - ⟨w,rfl,h⟩;unfold mH;walk_at "w";cases w
 . exact⟨_,ai aM,h⟩
 . exact⟨_,ai aM,h⟩
def lp:FS:=λls so=>∃(R:aL)(k:Nat)(w:Bool)(hk:k<R.asks.length),ls=[.d (aH R),.d (.int k),.d (.str (fK w))]/\R.Ok/\∀c,so (.own c ((AA R.n R.asks[k] w).map λ(t:Nat)=>D.int (t:Int))) ls
def rN:W L:=(av iT (av pZ (av pZ (aj 1) (wC (.int 1))) (aj 0)) (aj 2))
def rO:W L:=(av iT (av fg (aj 1) (aj 0)) (aj 2))
def rP:W Fl:=(bO (lx 1 [4,3] (qL (av iT (av pZ (aj 4) (aj 5)) (aj 3))) (bp 0) ma rN))
def rQ:W Fl:=(aV (Q4 (aO (av vR (aj 2) (wC (.str "on")))) (bO (lx 1 [4,3] (qL (av iT (av pZ (aj 5) (aj 4)) (aj 3))) (bp 0) ma rO)) cw)
  rP)
def rR:W Fl:=(aV (bL 5 (av aJ (av aJ (av aJ (aj 0) (wC (.int 1))) (aj 1)) (wC (.int 2))))
  rQ)
def rS:W Fl:=(aV (bL 4 (av aJ (av aJ (av aJ (aj 0) (wC (.int 1))) (aj 1)) (wC (.int 1))))
  rR)
def rT:W Fl:=(aV (bL 3 (bG (bq dX (ar (av aJ (aj 0) (wC (.int 0))) aI))))
  rS)
theorem zr:∀ls so,ls.length=3->lp ls so->rT (ls++List.replicate 3 .un) (aP ls so):=by
 rintro ls so - ⟨R,k,w,hk,rfl,hR,h⟩;have ha:=hR.ask _ (U3 hk);have h1:=ha.one;have h2:=ha.other;have hlo:=hR.lo;have hhi:=hR.hi;unfold rT;walk_at "w";unfold rS;walk_at "w";refine⟨_,aR hk,?_⟩;walk_at "w";unfold rR;walk_at "w";refine⟨_,aR hk,?_⟩;walk_at "w";unfold rQ;walk_at "w";have f1:=u0 h1 h2;have f2:=u0 h2 h1;have b1:=Xb (R.asks[k].other+R.n-R.asks[k].one) (y:=R.n) xL;have b2:=Xb (R.asks[k].one+R.n-R.asks[k].other) (y:=R.n) xL;split
 .
  rename_i hw;subst hw;rw[f1];refine⟨xL,⟨xL,xL⟩,?_⟩;rw[gM,VB];refine⟨by rw[U4,Vu];exact U8 (show _<=12 by omega) x_,?_⟩;refine k6 (h:=λs=>D.int (((R.asks[k].one+s) % R.n:Nat):Int)) _ _ _ (λs hs Q q=>?_) λl'=>?_
  . unfold rO;walk_at "w";refine⟨xL,?_⟩;rw[AB];exact q
  . walk_at "w";intro c;refine⟨_,ai (ai (ai aM)),?_⟩;have:=h c;simp only[AA,RV,W5,VM]at this;exact this
 .
  rename_i hw;have hw:w=false:=by simpa using hw
  subst hw;unfold rP;walk_at "w";rw[f2];refine⟨xL,⟨xL,xL⟩,?_⟩;rw[gM,VB];refine⟨by rw[U4,Vu];exact U8 (show _<=12 by omega) x_,?_⟩;refine k6 (h:=λs=>D.int (((R.asks[k].one+R.n-1-s) % R.n:Nat):Int)) _ _ _ (λs hs Q q=>?_) λl'=>?_
  . unfold rN;walk_at "w";refine⟨xL,?_⟩;have hs:=Vl.mp hs;rw[GQ xL xL];exact q
  . walk_at "w";intro c;refine⟨_,ai (ai (ai aM)),?_⟩;have:=h c;simp only[AA,tG,Wl,WX,VM]at this;exact this
def oX:FS:=λls so=>∃(R:aL)(k:Nat)(w:Bool)(t:Nat)(hk:k<R.asks.length),ls=[.d (aH R),.d (.int k),.d (.str (fK w)),.d (.int t)]/\R.Ok/\t<R.n/\so (.d (.bl (me R.n R.asks[k] t == w))) ls
def rV:W Fl:=(bO (av vR (aj 7) (av vR (aj 2) (wC (.str "on")))))
def rW:W Fl:=(aV (bL 7 (av uI (av iT (av pZ (aj 3) (aj 5)) (aj 4)) (av iT (av pZ (aj 6) (aj 5)) (aj 4))))
  rV)
def rX:W Fl:=(aV (bL 6 (av aJ (av aJ (av aJ (aj 0) (wC (.int 1))) (aj 1)) (wC (.int 2))))
  rW)
def rY:W Fl:=(aV (bL 5 (av aJ (av aJ (av aJ (aj 0) (wC (.int 1))) (aj 1)) (wC (.int 1))))
  rX)
def rZ:W Fl:=(aV (bL 4 (bG (bq dX (ar (av aJ (aj 0) (wC (.int 0))) aI))))
  rY)
theorem zu:∀ls so,ls.length=4->oX ls so->rZ (ls++List.replicate 4 .un) (aP ls so):=by
 rintro ls so - ⟨R,k,w,t,hk,rfl,hR,ht,h⟩;have ha:=hR.ask _ (U3 hk);have h1:=ha.one;have h2:=ha.other;unfold rZ;walk_at "w";unfold rY;walk_at "w";refine⟨_,aR hk,?_⟩;walk_at "w";unfold rX;walk_at "w";refine⟨_,aR hk,?_⟩;walk_at "w";unfold rW;walk_at "w";rw[u0 h1 h2,u0 h1 ht];refine⟨xL,xL,?_⟩;unfold rV;walk_at "w";refine⟨_,ai (ai (ai (ai aM))),?_⟩
 have e:decide (decide ((((t+R.n-R.asks[k].one) % R.n:Nat):Int)<(((R.asks[k].other+R.n-R.asks[k].one) % R.n:Nat):Int))=decide (w=true))=(me R.n R.asks[k] t == w):=by
  have e1:decide ((((t+R.n-R.asks[k].one) % R.n:Nat):Int)<(((R.asks[k].other+R.n-R.asks[k].one) % R.n:Nat):Int))=me R.n R.asks[k] t:=by unfold me RW;rw[WM];omega
  rw[e1];cases me R.n R.asks[k] t<;>cases w<;>rfl
 rw[e];exact h
def kB:FS:=λls so=>∃(R:aL)(ps:List Rat)(k t:Nat)(hk:k<R.asks.length)(hp:k<ps.length),ls=[.d (aH R),.d (.lst (ps.map Rl)),.d (.int k),.d (.int t)]/\R.Ok/\RB 4400 ps[k]/\t<R.n/\so (.d (Rl (mf R.n R.asks[k] ps[k] t))) ls
def mI:W Fl:=(aV (Q4 (aO (aB oX (ar (aj 0) (ar (aj 2) (ar (wC (.str "on")) (ar (aj 3) aI)))))) (bO (av aJ (aj 1) (aj 2))) cw)
  (bO (aB cZ (ar (av aJ (av aJ (av aJ (aj 0) (wC (.int 1))) (aj 2)) (wC (.int 3))) (ar (av aJ (aj 1) (aj 2)) aI)))))
theorem vz:∀ls so,ls.length=4->kB ls so->mI (ls++List.replicate 0 .un) (aP ls so):=by
 rintro ls so - ⟨R,ps,k,t,hk,hp,rfl,hR,hb,ht,h⟩;have ha:=hR.ask _ (U3 hk);unfold mI;walk_at "w";refine⟨R,k,true,t,hk,rfl,hR,ht,?_⟩;walk_at "w";unfold mf at h;cases e:me R.n R.asks[k] t
 . rw[e]at h;walk_at "w";refine⟨_,aR hk,?_⟩;walk_at "w";refine⟨_,aR hp,?_⟩;exact eZ ((hR.rb (U3 hk)).mono x_) (hb.mono x_) ⟨_,ai (ai (ai (ai aM))),h⟩
 . rw[e]at h;walk_at "w";exact⟨_,aR hp,_,ai (ai (ai (ai aM))),h⟩
def oY:FS:=λls so=>∃(R:aL)(ps:List Rat)(t:Nat),ls=[.d (aH R),.d (.lst (ps.map Rl)),.d (.int t)]/\R.Ok/\ps.length=R.asks.length/\LB R ps/\t<R.n/\so (.d (Rl (aZ R.n R.asks ps t))) ls
def r6:W L:=(aB kB (ar (aj 1) (ar (aj 2) (ar (aj 0) (ar (aj 3) aI)))))
def r9:W Fl:=(bO (aB rL (ar (bG (lx 1 [0,1,2] (qL (bq dX (ar (av aJ (aj 0) (wC (.int 1))) aI))) (bp 0) ma r6)) aI)))
theorem zv:∀ls so,ls.length=3->oY ls so->r9 (ls++List.replicate 0 .un) (aP ls so):=by
 rintro ls so - ⟨R,ps,t,rfl,hR,hl,hb,ht,h⟩;have hfew:=hR.few;unfold r9;walk_at "w";refine⟨⟨xL,xL⟩,?_⟩;rw[VB,gM];refine⟨by rw[U4,Vu];exact U8 hfew x_,?_⟩;refine k6 (h:=λk=>Rl (((R.asks.zip ps).map λx=>mf R.n x.1 x.2 t).getD k 0)) _ _ _ (λk hk Q q=>?_) λl' a=>?_
 .
  have hk:=Vl.mp hk;unfold r6;walk_at "w";refine⟨R,ps,k,t,hk,xL,rfl,hR,(hb.p _ (U3 _)).mono x_,ht,?_⟩;walk_at "w";have e:(((R.asks.zip ps).map λx=>mf R.n x.1 x.2 t).getD k 0)=mf R.n R.asks[k] (ps[k]'(by omega)) t:=by rw[U0,Vf,tu (by rw[Vy];omega),V1];rfl
  rw[e]at q;exact q
 .
  walk_at "w";have e:(List.range R.asks.length).map (λk=>Rl (((R.asks.zip ps).map λx=>mf R.n x.1 x.2 t).getD k 0))=((R.asks.zip ps).map λx=>mf R.n x.1 x.2 t).map Rl:=by refine DO _ (by rw[U4,Vy];omega) _ λk hk=>?_;rw[U0,tu hk];rfl
  rw[e];refine⟨_,_,rfl,.inl rfl,by rw[U4,Vy];omega,λq hq=>?_,hb.sm t,⟨_,ai (ai (ai aM)),h⟩⟩;obtain⟨x,hx,rfl⟩:=VO.mp hq;obtain⟨j,hj,e⟩:=List.mem_iff_getElem.mp hx;have hj':j<R.asks.length:=by rw[Vy]at hj;omega
  rw[V1]at e;rw[<- e];exact(hb.st j hj' xL t).mono x_
def i8:FS:=λls so=>∃(R:aL)(ps:List Rat),ls=[.d (aH R),.d (.lst (ps.map Rl))]/\R.Ok/\ps.length=R.asks.length/\LB R ps/\∀a,so (.own a (RU R.n (aZ R.n R.asks ps))) ls
def pO:W L:=(aB oY (ar (aj 1) (ar (aj 2) (ar (aj 0) aI))))
def oZ:W Fl:=(bO (lx 1 [0,1] (qL (bq dX (ar (av aJ (aj 0) (wC (.int 0))) aI))) (bp 0) ma pO))
theorem xG:∀ls so,ls.length=2->i8 ls so->oZ (ls++List.replicate 0 .un) (aP ls so):=by
 rintro ls so - ⟨R,ps,rfl,hR,hl,hb,h⟩;have hhi:=hR.hi;unfold oZ;walk_at "w";refine⟨⟨xL,xL⟩,?_⟩;rw[VB,gM];refine⟨by rw[U4,Vu];exact U8 hhi x_,?_⟩;refine k6 (h:=λt=>Rl (aZ R.n R.asks ps t)) _ _ _ (λt ht Q q=>?_) λl' a=>?_
 . unfold pO;walk_at "w";refine⟨R,ps,t,rfl,hR,hl,hb,Vl.mp ht,?_⟩;walk_at "w";exact q
 . walk_at "w";exact⟨_,ai (ai aM),h a⟩
def i9:FS:=λls so=>∃(R:aL)(d:D),ls=[.d (aH R),.d d]/\(∀xs,d=.lst xs->xs.length<=99)/\so (.d (.bl (Ih R.asks.length d))) ls
def pP:W L:=(aB kx (ar (aj 0) aI))
def o4:W Fl:=(aV (Q4 (Q1 (uF (aO (Q3 (p5 "list") (aj 1)))) (aO (av uK (bq dX (ar (aj 1) aI)) (bq dX (ar (av aJ (aj 0) (wC (.int 1))) aI))))) (bO (wC (.bl false))) cw)
  (bO (bq Mj (ar (bG (lx 1 [] (wx (aj 1)) (bp 0) ma pP)) aI))))
theorem Nn(xs:List D):(xs.map λx=>vT x).all id=xs.all vT:=by rw[List.all_map];rfl
theorem xH:∀ls so,ls.length=2->i9 ls so->o4 (ls++List.replicate 0 .un) (aP ls so):=by
 rintro ls so - ⟨R,d,rfl,hl,h⟩;have bk:∀b:Bool,so (.d (.bl b)) [.d (aH R),.d d]->aP [.d (aH R),.d d] so (.rt (.d (.bl b))) [.d (aH R),.d d]:=λb h=>⟨_,ai (ai aM),h⟩;have h:=bk _ h;unfold o4;by_cases ht:∃xs,d=.lst xs
 .
  obtain⟨xs,rfl⟩:=ht;have hl:=hl xs rfl;unfold Ih at h;walk_at "w";by_cases e:xs.length=R.asks.length
  .
   rw[if_neg (by omega)];refine⟨HX hl,D4 (h:=λx=>D.bl (vT x)) xs _ _ (λx hx Q hQ=>?_) λl c=>?_⟩
   . unfold pP;walk_at "w";exact⟨x,rfl,hQ⟩
   rw[Wk];refine⟨xs.map λx=>vT x,by rw[VM];rfl,?_⟩;walk_at "w";rw[Nn];simp only[e,decide_true,Wx]at h;exact h
  . rw[if_pos (by omega)];simp only[e,decide_false,Wz]at h;exact h
 .
  have ei:ng "list" d=false:=by
   cases d<;>first
    |exact absurd ⟨_,rfl⟩ ht
    |rfl
  have ea:Ih R.asks.length d=false:=by
   cases d<;>first
    |exact absurd ⟨_,rfl⟩ ht
    |rfl
  rw[ea]at h;walk_at "w";rw[ei];exact h
noncomputable def bz(as:List RT)(ws:List Bool):List Rat:=(as.zip ws).map λx=>if x.2 then x.1.size else 0
def iF:FS:=λls so=>∃(R:aL)(ws:List Bool),ls=[.d (aH R),.d (.lst (ws.map λw=>D.str (fK w)))]/\R.asks.length<=20/\ws.length=R.asks.length/\∀c,so (.own c ((bz R.asks ws).map Rl)) ls
def se:W L:=(Ca (aO (av vR (aj 1) (wC (.str "on")))) (av aJ (aj 0) (wC (.int 3))) (wC (.tup [(.int 0),(.int 1)])))
def sf:W Fl:=(bO (lx 2 [] (Mf (av aJ (aj 0) (wC (.int 1))) (aj 1)) (eX [0,1]) ma se))
theorem zw:∀ls so,ls.length=2->iF ls so->sf (ls++List.replicate 0 .un) (aP ls so):=by
 rintro ls so - ⟨R,ws,rfl,hfew,hl,h⟩;unfold sf;walk_at "w";have e:Cb (R.asks.map iy) (ws.map λw=>D.str (fK w))=(R.asks.zip ws).map λx=>D.tup [iy x.1,D.str (fK x.2)]:=by unfold Cb;rw[List.zip_map,VM];rfl
 rw[e];refine⟨by rw[U4,Vy];exact U8 (show min R.asks.length ws.length<=20 by omega) x_,?_⟩
 refine qV (h:=λx=>Rl (if x.2 then x.1.size else 0)) _ _ _ _ (λx hx Q q=>?_) λl m a=>?_
 .
  unfold se;walk_at "w";split
  . rename_i c;rw[if_pos c]at q;exact q
  . rename_i c;rw[if_neg c]at q;exact q
 . walk_at "w";have:=h a;unfold bz at this;rw[VM]at this;exact⟨_,ai (ai aM),this⟩
def eN:FS:=λls so=>∃(p am:Rat)(w:Bool),ls=[.d (Rl p),.d (.str (fK w)),.d (Rl am)]/\RB 4400 p/\RB 4400 am/\so (.d (Rl (Sb p w am))) ls
def ja:W Fl:=(bO (Ca (aO (av vR (aj 1) (wC (.str "on")))) (aB i6 (ar (aj 0) (ar (aj 2) aI))) (aB cZ (ar (aj 0) (ar (aj 2) aI)))))
theorem si:∀ls so,ls.length=3->eN ls so->ja (ls++List.replicate 0 .un) (aP ls so):=by
 rintro ls so - ⟨p,am,w,rfl,hp,ha,h⟩;unfold ja;unfold Sb at h;walk_at "w"
 cases w with
 | true =>
  walk_at "w";exact Hg hp ha ⟨_,ai (ai (ai aM)),h⟩
 | false =>
  walk_at "w";exact eZ hp ha ⟨_,ai (ai (ai aM)),h⟩
def gO:FS:=λls so=>∃(ps:List Rat)(s:fk),ls=[.d (.lst (ps.map Rl)),.d (R7 s)]/\ps.length<=20/\s.k<ps.length/\s.l<ps.length/\s.k≠s.l/\(∀p∈ps,RB 4000 p)/\RB 4000 s.am/\∀a,so (.own a ((Sd ps s).map Rl)) ls
def mJ:W Fl:=(aV (bL 2 (bq wz (ar (aj 0) aI)))
  (aV (tE 2 (av aJ (aj 1) (wC (.int 0))) (aB eN (ar (dH 2 (wD 2 (av aJ (aj 1) (wC (.int 0)))) (av aJ (aj 2) (av aJ (aj 1) (wC (.int 0))))) (ar (av aJ (aj 1) (wC (.int 1))) (ar (av aJ (aj 1) (wC (.int 4))) aI)))))
  (aV (tE 2 (av aJ (aj 1) (wC (.int 2))) (aB eN (ar (dH 2 (wD 2 (av aJ (aj 1) (wC (.int 2)))) (av aJ (aj 2) (av aJ (aj 1) (wC (.int 2))))) (ar (av aJ (aj 1) (wC (.int 3))) (ar (av aJ (aj 1) (wC (.int 4))) aI)))))
  (bO (mY 2)))))
theorem Ez{n k:Nat}(h:k<n):QG n (k:Int)=some k:=by unfold QG;rw[if_pos (by omega),if_pos (by omega)];simp
theorem vA:∀ls so,ls.length=2->gO ls so->mJ (ls++List.replicate 1 .un) (aP ls so):=by
 rintro ls so - ⟨ps,s,rfl,h20,hk,hl,hkl,hp,ha,h⟩;unfold mJ;simp only[R7];walk_at "w";have r1:=hp _ (U3 hk);have r2:=hp _ (U3 hl);refine λa=>⟨_,aR hk,ps[s.k],s.am,s.kw,rfl,r1.mono x_,ha.mono x_,?_⟩;walk_at "w";have hl':s.l<(ps.set s.k (Sb ps[s.k] s.kw s.am)).length:=by rw[Wc];exact hl
 have e1:(ps.set s.k (Sb ps[s.k] s.kw s.am))[s.l]=ps[s.l]:=by rw[List.getElem_set_ne hkl]
 refine⟨s.k,Ez hk,?_⟩;rw[<- List.map_set];refine⟨_,aR hl',_,s.am,s.lw,rfl,by rw[e1];exact r2.mono x_,ha.mono x_,?_⟩;walk_at "w";refine⟨s.l,Ez (by simpa using hl),_,ai (ai aM),?_⟩;have h:=h a;unfold Sd at h;rw[bj hk,bj hl',List.map_set]at h;exact h
def dP:FS:=λls so=>∃(R:aL)(k l:Nat)(kw lw:Bool)(hk:k<R.asks.length)(hl:l<R.asks.length),ls=[.d (aH R),.d (.int (k:Int)),.d (.str (fK kw)),.d (.int (l:Int)),.d (.str (fK lw))]/\R.Ok/\so (.d (.bl (jK R.n R.asks[k] kw R.asks[l] lw))) ls
def jA:W L:=(av (yw false) (aj 0) (aj 1))
def ic:W Fl:=(aV (bL 5 (bG (aB lp (ar (aj 0) (ar (aj 3) (ar (aj 4) aI))))))
  (bO (CM (aO (bq Ml (ar (bG (lx 1 [5] (wx (aB lp (ar (aj 0) (ar (aj 1) (ar (aj 2) aI))))) (bp 0) ma jA)) aI))))))
theorem qf:∀ls so,ls.length=5->dP ls so->ic (ls++List.replicate 1 .un) (aP ls so):=by
 rintro ls so - ⟨R,k,l,kw,lw,hk,hl,rfl,hR,h⟩;unfold ic;walk_at "w";refine⟨R,l,lw,hl,rfl,hR,λc=>?_⟩;walk_at "w";refine⟨R,k,kw,hk,rfl,hR,λc2=>?_⟩;walk_at "w";have p4:=Ki (hR.ask _ (U3 hk)) kw;have hhi:=hR.hi;refine⟨HX xL,k6 (h:=λt=>.bl (decide (t∈AA R.n R.asks[l] lw))) (AA R.n R.asks[k] kw) [] _ (λt hm Q hq=>?_) λl' a0=>?_⟩
 . unfold jA;walk_at "w";refine⟨rfl,by simp[p7],?_⟩;rw[qz];exact hq
 . rw[Wk];refine⟨(AA R.n R.asks[k] kw).map λt=>decide (t∈AA R.n R.asks[l] lw),by rw[VM];rfl,?_⟩;walk_at "w";refine⟨_,ai (ai (ai (ai (ai aM)))),?_⟩;unfold jK at h;simpa[List.any_map]using h
def cR:FS:=λls so=>∃(d:D)(n:Nat),ls=[.d d,.d (.int (n:Int))]/\so (.d (.bl (tH n d))) ls
def cD:W Fl:=(bO (m4 (aB kx (ar (av aJ (aj 0) (wC (.int 1))) aI)) (m4 (aB kx (ar (av aJ (aj 0) (wC (.int 3))) aI)) (aB mF (ar (av aJ (aj 0) (wC (.int 4))) aI)))))
def cF:W Fl:=(aV (Q4 (Q1 (uF (aO (aB cm (ar (av aJ (aj 0) (wC (.int 0))) (ar (aj 1) aI))))) (uF (aO (aB cm (ar (av aJ (aj 0) (wC (.int 2))) (ar (aj 1) aI)))))) (bO (wC (.bl false))) cw)
  cD)
def dz:W Fl:=(aV (Q4 (Q1 (uF (aO (Q3 (p5 "tuple") (aj 0)))) (aO (av uK (bq dX (ar (aj 0) aI)) (wC (.int 5))))) (bO (wC (.bl false))) cw)
  cF)
theorem Np{a b c d e:D}{z:L}{so:Fl->Ev->Prop}(h:so (.rt (.d (.bl (vT b && (vT d && yW e))))) [.d (.tup [a,b,c,d,e]),z]):cD [.d (.tup [a,b,c,d,e]),z] so:=by
 unfold cD;walk_at "w";refine⟨_,rfl,?_⟩
 cases e3:vT b with
 | false =>
  rw[e3]at h;exact h
 | true =>
  rw[e3,Wx]at h;refine⟨_,rfl,?_⟩
  cases e4:vT d with
  | false =>
   rw[e4]at h;exact h
  | true =>
   rw[e4,Wx]at h;exact⟨_,rfl,h⟩
theorem Nq{a b c d e:D}{n:Nat}{so:Fl->Ev->Prop}(h:so (.rt (.d (.bl (rl a n && (rl c n && (vT b && (vT d && yW e))))))) [.d (.tup [a,b,c,d,e]),.d (.int (n:Int))]):cF [.d (.tup [a,b,c,d,e]),.d (.int (n:Int))] so:=by
 unfold cF;walk_at "w";refine⟨_,_,rfl,?_⟩
 cases e1:rl a n with
 | false =>
  rw[e1]at h;exact h
 | true =>
  rw[e1,Wx]at h;refine⟨_,_,rfl,?_⟩
  cases e2:rl c n with
  | false =>
   rw[e2]at h;exact h
  | true =>
   rw[e2,Wx]at h;exact Np h
theorem kC:∀ls so,ls.length=2->cR ls so->dz (ls++List.replicate 0 .un) (aP ls so):=by
 rintro ls so - ⟨d,n,rfl,h⟩;have bk:∀b:Bool,so (.d (.bl b)) [.d d,.d (.int (n:Int))]->aP [.d d,.d (.int (n:Int))] so (.rt (.d (.bl b))) [.d d,.d (.int (n:Int))]:=λb h=>⟨_,ai (ai aM),h⟩;have h:=bk _ h;unfold dz;by_cases ht:∃xs,d=.tup xs
 .
  obtain⟨xs,rfl⟩:=ht;by_cases h5:xs.length=5
  . obtain⟨a,b,c,d,e,rfl⟩:=PQ h5;rw[Kv]at h;walk_at "w";exact Nq h
  .
   rw[D7 h5]at h;walk_at "w";have:¬((xs.length:Int)=5):=by omega
   simp only[this,not_false_eq_true,decide_true,W5,ite_true];exact h
 .
  rw[G5 (λxs e=>ht ⟨xs,e⟩)]at h
  have ei:ng "tuple" d=false:=by
   cases d<;>first
    |exact absurd ⟨_,rfl⟩ ht
    |rfl
  walk_at "w";rw[ei];exact h
def jb:FS:=λls so=>∃(R:aL)(ps:List Rat)(k:Nat)(w:Bool),ls=[.d (aH R),.d (.lst (ps.map Rl)),.d (.int (k:Int)),.d (.str (fK w))]/\cW R ps/\k<ps.length/\so (.d (Rl (R8 R ps k w))) ls
def o5:W Fl:=(bO (Ca (aO (av vR (aj 3) (wC (.str "on")))) (aB cZ (ar (av aJ (av aJ (av aJ (aj 0) (wC (.int 1))) (aj 2)) (wC (.int 3))) (ar (av aJ (aj 1) (aj 2)) aI))) (av aJ (aj 1) (aj 2))))
theorem xI:∀ls so,ls.length=4->jb ls so->o5 (ls++List.replicate 0 .un) (aP ls so):=by
 rintro ls so - ⟨R,ps,k,w,rfl,hS,hk,h⟩;have hk':k<R.asks.length:=by rw[<- hS.len];exact hk
 have r1:=hS.sz_rb hk;have r2:=hS.rb hk;rw[jL hk']at r1;rw[bj hk]at r2;unfold R8 at h;rw[jL hk',bj hk]at h;unfold o5;walk_at "w"
 cases w with
 | true =>
  walk_at "w";refine⟨_,aR hk',?_⟩;walk_at "w";refine⟨_,aR hk,?_⟩;walk_at "w";exact eZ (r1.mono x_) (r2.mono x_) ⟨_,ai (ai (ai (ai aM))),h⟩
 | false =>
  walk_at "w";exact⟨_,aR hk,_,ai (ai (ai (ai aM))),h⟩
def gQ:FS:=λls so=>∃(R:aL)(ps:List Rat)(k l:Nat)(kw lw:Bool)(more:List D),ls=[.d (aH R),.d (.lst (ps.map Rl)),.d (.tup (.int (k:Int)::.str (fK kw)::.int (l:Int)::.str (fK lw)::more))]/\cW R ps/\k<ps.length/\l<ps.length/\so (.d (Rl (R9 R ps k kw l lw))) ls
def mK:W Fl:=(bO (aB rK (ar (bG (aB jb (ar (aj 0) (ar (aj 1) (ar (av aJ (aj 2) (wC (.int 0))) (ar (av aJ (aj 2) (wC (.int 1))) aI)))))) (ar (bG (aB jb (ar (aj 0) (ar (aj 1) (ar (av aJ (aj 2) (wC (.int 2))) (ar (av aJ (aj 2) (wC (.int 3))) aI)))))) aI))))
theorem vB:∀ls so,ls.length=3->gQ ls so->mK (ls++List.replicate 0 .un) (aP ls so):=by rintro ls so - ⟨R,ps,k,l,kw,lw,more,rfl,hS,hk,hl,h⟩;unfold mK;walk_at "w";refine⟨R,ps,k,kw,rfl,hS,hk,?_⟩;walk_at "w";refine⟨R,ps,l,lw,rfl,hS,hl,?_⟩;walk_at "w";exact⟨_,_,rfl,(xh hS hk kw).mono x_,(xh hS hl lw).mono x_,_,ai (ai (ai aM)),h⟩
noncomputable def P8(R:aL)(ps:List Rat)(s:fk):Bool:=!decide (s.k=s.l) && (jK R.n (aN R s.k) s.kw (aN R s.l) s.lw && (decide (0<s.am) && !decide (R9 R ps s.k s.kw s.l s.lw<s.am)))
def mL:FS:=λls so=>∃(R:aL)(ps:List Rat)(d:D),ls=[.d (aH R),.d (.lst (ps.map Rl)),.d d]/\cW R ps/\(∀s,qD d=some s->s.k<ps.length->s.l<ps.length->RB 400000 s.am)/\so (.d (.bl (Sm R ps d))) ls
def o6:W Fl:=(aV (Q4 (Q1 (uF (aO (aB cR (ar (aj 2) (ar (bG (bq dX (ar (av aJ (aj 0) (wC (.int 1))) aI))) aI))))) (aO (av vR (av aJ (aj 2) (wC (.int 0))) (av aJ (aj 2) (wC (.int 2)))))) (bO (wC (.bl false))) cw)
  (aV (Q4 (uF (aO (aB dP (ar (aj 0) (ar (av aJ (aj 2) (wC (.int 0))) (ar (av aJ (aj 2) (wC (.int 1))) (ar (av aJ (aj 2) (wC (.int 2))) (ar (av aJ (aj 2) (wC (.int 3))) aI)))))))) (bO (wC (.bl false))) cw)
  (bO (m4 (aB dO (ar (wC (.tup [(.int 0),(.int 1)])) (ar (av aJ (aj 2) (wC (.int 4))) aI))) (CM (aO (aB dO (ar (bG (aB gQ (ar (aj 0) (ar (aj 1) (ar (aj 2) aI))))) (ar (av aJ (aj 2) (wC (.int 4))) aI)))))))))
theorem OK{R:aL}{ps:List Rat}(h:cW R ps){k l:Nat}(hk:k<ps.length)(hl:l<ps.length)(kw lw:Bool):RB 400000 (R9 R ps k kw l lw):=by
 rcases(h.ms hk hl kw lw).2.2.2 with e|e
 . rw[e];exact(xh h hk _).mono x_
 . rw[e];exact(xh h hl _).mono x_
theorem xJ:∀ls so,ls.length=3->mL ls so->o6 (ls++List.replicate 0 .un) (aP ls so):=by
 rintro ls so - ⟨R,ps,d,rfl,hS,ha,h⟩;unfold o6;walk_at "w";refine⟨_,R.asks.length,rfl,?_⟩
 cases ef:tH R.asks.length d with
 | false =>
  have e:Sm R ps d=false:=by
   unfold tH at ef;unfold Sm;rw[hS.len];split
   . rename_i s e;rw[e]at ef;have ef:(decide (s.k<R.asks.length) && decide (s.l<R.asks.length))=false:=ef;rw[<- Bool.and_assoc,ef];rfl
   . rfl
  rw[e]at h;walk_at "w";exact⟨_,ai (ai (ai aM)),h⟩
 |true =>
 obtain⟨s,es,hk',hl'⟩:∃s,qD d=some s/\s.k<R.asks.length/\s.l<R.asks.length:=by
  unfold tH at ef;split at ef
  . rename_i s e;rw[U7,U5,U5]at ef;exact⟨s,e,ef.1,ef.2⟩
  . cases ef
 have hk:s.k<ps.length:=by rw[hS.len];exact hk'
 have hl:s.l<ps.length:=by rw[hS.len];exact hl'
 have ha2:=ha s es hk hl;have:=D6 es;subst this;rw[Ig hk hl]at h;unfold Rh at h;rw[bU hk',bU hl']at h;simp only[R7]at h ⊢;walk_at "w";by_cases e:s.k=s.l
 . rw[if_pos (by omega)];rw[Vm e]at h;exact⟨_,ai (ai (ai aM)),h⟩
 rw[if_neg (by omega)];rw[Va e]at h;refine⟨R,s.k,s.l,s.kw,s.lw,hk',hl',rfl,hS.ok,?_⟩;walk_at "w"
 cases e1:jK R.n R.asks[s.k] s.kw R.asks[s.l] s.lw with
 | false =>
  rw[e1]at h;walk_at "w";exact⟨_,ai (ai (ai aM)),h⟩
 | true =>
  rw[e1]at h;walk_at "w";refine⟨0,s.am,rfl,RB.zero.mono x_,ha2,?_⟩;walk_at "w";by_cases e2:0<s.am
  . rw[Vm e2]at h;rw[if_pos e2];refine⟨R,ps,s.k,s.l,s.kw,s.lw,_,rfl,hS,hk,hl,?_⟩;walk_at "w";refine⟨_,s.am,rfl,OK hS hk hl _ _,ha2,?_⟩;walk_at "w";refine⟨_,ai (ai (ai aM)),?_⟩;simpa using h
  . rw[Va e2]at h;rw[if_neg e2];exact⟨_,ai (ai (ai aM)),h⟩
noncomputable def UF(ps:List Rat)(d:D):List Rat:=match qD d with
 |some s=>Sd ps s
 |none=>ps
noncomputable def og(R:aL)(ps:List Rat)(ss:List D):List Rat:=ss.foldl UF ps
noncomputable def vC(R:aL):Nat->List Rat->List D->Option Nat
 |_,_,[]=>none
 |i,ps,d::ss=>if Sm R ps d then vC R (i+1) (UF ps d) ss else some i
def dE:RG:=λds so xp=>∃(R:aL)(ps:List Rat)(ss:List D)(D:Nat),ds=[aH R,.lst (ps.map Rl),.lst ss]/\cW R ps/\ss.length<=99/\(∀d∈ss,∀s,qD d=some s->RB 4000 s.am/\s.am.den∣D)/\(0<D/\D<2^1500/\(∀a∈R.asks,a.size.den∣D)/\(∀p∈ps,p.den∣D)) /\
 (vC R 0 ps ss=none->∀ a,so (.own a ((og R ps ss).map Rl)))/\∀ i,vC R 0 ps ss=some i->xp ⟨"NoSlide",["number"],[.int (i:Int)]⟩
def sj(xp:Xc->Prop):W Fl:=(aV (Q4 (uF (aO (aB mL (ar (aj 0) (ar (aj 3) (ar (aj 5) aI)))))) (wV "NoSlide" ["number"] xp (ar (aj 4) aI)) cw)
  (bL 3 (aB gO (ar (aj 3) (ar (aj 5) aI)))))
def sq(xp:Xc->Prop):W Fl:=(aV (Q4 (uF (aO (Q3 (p5 "list") (aj 2)))) (wV "NoSlide" ["number"] xp (ar (wC .non) aI)) cw)
  (aV (bL 3 (bq wz (ar (aj 1) aI)))
  (aV (pY (uQ (aj 2)) (eX [4,5]) (sj xp))
  (bO (mY 3)))))
theorem zx{R:aL}{ps:List Rat}{s:fk}(h:cW R ps)(hk:s.k<ps.length)(hl:s.l<ps.length)(e:Rh R ps s=true):M8 R ps s:=by unfold Rh at e;simp only[U7,Wr,VZ,U5]at e;obtain⟨e1,_,e3,e4⟩:=e;obtain⟨m1,m2,m3,_⟩:=h.ms hk hl s.kw s.lw;have le:=W3.mp e4;exact⟨hk,hl,e1,Rat.le_of_lt e3,WJ le m2,WJ le m3⟩
structure UG (R:aL) (ps:List Rat) (D:Nat):Prop where
 ok:cW R ps
 d0:0<D
 d1:D<2^1500
 da:∀a∈R.asks,a.size.den∣D
 dp:∀p∈ps,p.den∣D
theorem UG.slid{R:aL}{ps:List Rat}{D:Nat}{s:fk}(h:UG R ps D)(hs:M8 R ps s)(dm:s.am.den∣D):UG R (Sd ps s) D:=by
 have dk:∀k,k<ps.length->(ps.getD k 0).den∣D:=λk hk=>h.dp _ (by rw[bj hk];exact U3 hk)
 have db:∀(k:Nat)(w:Bool),k<ps.length->(Sb (ps.getD k 0) w s.am).den∣D:=λk w hk=>by
  unfold Sb;cases w
  . exact mi h.d0 (dk k hk) dm
  . exact rf h.d0 (dk k hk) dm
 have dp':∀p∈Sd ps s,p.den∣D:=λp hp=>by
  obtain⟨i,hi,rfl⟩:=VF hp;rw[<- bj hi,xg hs.k hs.l hs.kl];rw[j9]at hi;split
  . exact db _ _ hs.k
  .
   split
   . exact db _ _ hs.l
   . exact dk i hi
 refine⟨⟨h.ok.ok,by rw[j9];exact h.ok.len,λi hi=>?_,D,h.d0,h.d1,h.da,dp'⟩,h.d0,h.d1,h.da,dp'⟩;rw[j9]at hi;rw[xg hs.k hs.l hs.kl];split
 . rename_i e;subst e;exact AN (h.ok.lo _ hs.k).1 (h.ok.lo _ hs.k).2 hs.nn hs.kn
 .
  split
  . rename_i e;subst e;exact AN (h.ok.lo _ hs.l).1 (h.ok.lo _ hs.l).2 hs.nn hs.ln
  . exact h.ok.lo i hi
theorem xK{R:aL}{ps:List Rat}(h:cW R ps):∀p∈ps,RB 4000 p:=λp hp=>by obtain⟨i,hi,rfl⟩:=VF hp;rw[<- bj hi];exact(h.rb hi).mono x_
theorem EC{R:aL}{ss:List D}{j:Nat}{qs:List Rat}(h:j<ss.length):vC R j qs (ss.drop j)=if Sm R qs ss[j]then vC R (j+1) (UF qs ss[j]) (ss.drop (j+1))else some j:=by rw[VD h];rfl
theorem Hj{ss:List D}{j:Nat}{x:D}(hj:(d8 ss)[j]?=some x):∃h:j<ss.length,x=.tup [.int (j:Int),ss[j]]:=by
 have hj':j<ss.length:=by have:=(U1.mp hj).1;simpa[d8]using this
 refine⟨hj',?_⟩;have:(d8 ss)[j]?=some (.tup [.int (j:Int),ss[j]]):=by simp[d8,hj']
 rw[this]at hj;exact(Vq hj).symm
theorem zy:∀ds so xp,ds.length=3->dE ds so xp->sq xp (ds.map .d++List.replicate 3 .un) (RI so):=by
 rintro ds so xp - ⟨R,ps,ss,D,rfl,hS,h20,hs,⟨d0,d1,da,dp⟩,h,hx⟩;unfold sq;walk_at "w";refine λa0=>dJ _ (λj Z=>∃(qs:List Rat)(a:Addr)(x4 x5:L),Z=[.d (aH R),.d (.lst (ps.map Rl)),.d (.lst ss),.own a (qs.map Rl),x4,x5]/\UG R qs D/\qs.length=ps.length/\vC R j qs (ss.drop j)=vC R 0 ps ss/\og R qs (ss.drop j)=og R ps ss) _ ⟨ps,_,_,_,rfl,⟨hS,d0,d1,da,dp⟩,rfl,rfl,rfl⟩ ?_ ?_
 .
  rintro j x Z hj ⟨qs,a,x4,x5,rfl,hD,hl,hb,hr⟩ Q h1 h2 h3' h4;obtain⟨hj',ex⟩:=Hj hj;subst ex;have hm:=U3 hj';have s3:=hs _ hm;rw[EC hj']at hb;have hr':og R (UF qs ss[j]) (ss.drop (j+1))=og R ps ss:=by rw[<- hr,VD hj'];rfl
  unfold sj;walk_at "w";refine⟨R,qs,ss[j],rfl,hD.ok,λs e _ _=>(s3 s e).1.mono x_,?_⟩;walk_at "w"
  cases e:Sm R qs ss[j]with
  | false =>
   rw[e,if_neg (by decide)]at hb;walk_at "w";exact⟨.inr trivial,x_,hx j hb.symm⟩
  | true =>
   rw[e,if_pos rfl]at hb;obtain⟨s,es,hk,hl',e'⟩:=D8 e;have dd:=zx hD.ok hk hl' e';have es':qD ss[j]=some s:=by rw[es];exact ml s
   obtain⟨s4,s5⟩:=s3 s es';have est:UF qs ss[j]=Sd qs s:=by unfold UF;rw[es']
   rw[est]at hb hr';rw[es];walk_at "w";refine⟨qs,s,rfl,by rw[hD.ok.len];exact hD.ok.ok.few,hk,hl',dd.kl,xK hD.ok,s4,λc=>?_⟩;walk_at "w";exact h1 _ ⟨_,_,_,_,rfl,hD.slid dd s5,by rw[j9];exact hl,hb,hr'⟩
 .
  rintro Z ⟨qs,a,x4,x5,rfl,hD,hl,hb,hr⟩;have e:ss.drop (d8 ss).length=[]:=by simp[d8]
  rw[e]at hb hr;walk_at "w";have h:=h hb.symm a;rw[<- hr]at h;exact h
def jc:FS:=λls so=>∃(R:aL)(k l:Nat)(hk:k<R.asks.length)(hl:l<R.asks.length),ls=[.d (aH R),.d (.int (k:Int)),.d (.int (l:Int))]/\R.Ok/\so (.d (.tup [.str (fK (bQ R.n R.asks[k] R.asks[l]).1),.str (fK (bQ R.n R.asks[k] R.asks[l]).2)])) ls
def ie:W Fl:=(Q4 (aO (aB dP (ar (aj 0) (ar (aj 1) (ar (av aJ (aj 3) (wC (.int 0))) (ar (aj 2) (ar (av aJ (aj 3) (wC (.int 1))) aI))))))) (bO (mY 3)) cw)
def kD:W Fl:=(aV (pY (wx (oy (ar (oy (ar (wC (.str "on")) (ar (wC (.str "on")) aI))) (ar (oy (ar (wC (.str "on")) (ar (wC (.str "back")) aI))) (ar (oy (ar (wC (.str "back")) (ar (wC (.str "on")) aI))) aI))))) (bp 3) ie)
  (bO (oy (ar (wC (.str "back")) (ar (wC (.str "back")) aI)))))
theorem zz{R:aL}{k l:Nat}(hk:k<R.asks.length)(hl:l<R.asks.length)(hR:R.Ok)(aw bw:Bool){Q:Fl->Ev->Prop}(h1:jK R.n R.asks[k] aw R.asks[l] bw=true->∀Z,yd Z [.d (aH R),.d (.int (k:Int)),.d (.int (l:Int))] [.d (aH R),.d (.int (k:Int)),.d (.int (l:Int))]->Q (.rt (.d (.tup [.str (fK aw),.str (fK bw)]))) Z)
  (h2:jK R.n R.asks[k] aw R.asks[l] bw=false->Q .nx [.d (aH R),.d (.int (k:Int)),.d (.int (l:Int)),.d (.tup [.str (fK aw),.str (fK bw)])]) :
  ie [.d (aH R),.d (.int (k:Int)),.d (.int (l:Int)),.d (.tup [.str (fK aw),.str (fK bw)])] Q:=by
 unfold ie;walk_at "w";refine⟨R,k,l,aw,bw,hk,hl,rfl,hR,?_⟩;walk_at "w"
 cases e:jK R.n R.asks[k] aw R.asks[l] bw with
 |true=>exact h1 e _ (ai (ai (ai aM)))
 |false=>exact h2 e
theorem tM:∀ls so,ls.length=3->jc ls so->kD (ls++List.replicate 1 .un) (aP ls so):=by
 rintro ls so - ⟨R,k,l,hk,hl,rfl,hR,h⟩;unfold kD;walk_at "w";have e1:Str.ofString "on"=fK true:=rfl;have e2:Str.ofString "back"=fK false:=rfl;rw[e1,e2];refine⟨x_,x_,x_,x_,?_⟩;unfold bQ at h;unfold dh;refine zz hk hl hR true true (λe Z b=>?_) λe=>?_
 . rw[if_pos e]at h;exact⟨_,b,h⟩
 rw[if_neg (by simp[e])]at h;unfold dh;refine zz hk hl hR true false (λe Z b=>?_) λe=>?_
 . rw[if_pos e]at h;exact⟨_,b,h⟩
 rw[if_neg (by simp[e])]at h;unfold dh;refine zz hk hl hR false true (λe Z b=>?_) λe=>?_
 . rw[if_pos e]at h;exact⟨_,b,h⟩
 rw[if_neg (by simp[e])]at h;unfold dh;exact⟨x_,_,ai (ai (ai aM)),h⟩
def eE:FS:=λls so=>∃(R:aL)(ps:List Rat)(k l:Nat)(hk:k<R.asks.length)(hl:l<R.asks.length),ls=[.d (aH R),.d (.lst (ps.map Rl)),.d (.int (k:Int)),.d (.int (l:Int))]/\cW R ps/\so (.d (R7 (Sg R ps k l (bQ R.n R.asks[k] R.asks[l])))) ls
def fv:W Fl:=(aV (bL 4 (bG (aB jc (ar (aj 0) (ar (aj 2) (ar (aj 3) aI))))))
  (aV (bL 5 (oy (ar (aj 2) (ar (av aJ (aj 4) (wC (.int 0))) (ar (aj 3) (ar (av aJ (aj 4) (wC (.int 1))) aI))))))
  (bO (av Ag (aj 5) (oy (ar (bG (aB gQ (ar (aj 0) (ar (aj 1) (ar (aj 5) aI))))) aI))))))
theorem nN:∀ls so,ls.length=4->eE ls so->fv (ls++List.replicate 2 .un) (aP ls so):=by rintro ls so - ⟨R,ps,k,l,hk,hl,rfl,hS,h⟩;unfold fv;walk_at "w";refine⟨R,k,l,hk,hl,rfl,hS.ok,?_⟩;walk_at "w";refine⟨x_,R,ps,k,l,_,_,[],rfl,hS,by rw[hS.len];exact hk,by rw[hS.len];exact hl,?_⟩;walk_at "w";refine⟨x_,v6,v6,x_,_,ai (ai (ai (ai aM))),h⟩
def fR:FS:=λls so=>∃(R:aL)(ps:List Rat),ls=[.d (aH R),.d (.lst (ps.map Rl))]/\cW R ps/\∀a,so (.own a ((nF R 20 ps).map R7)) ls
def lL:W Fl:=(aV (bL 5 (bG (aB eE (ar (aj 0) (ar (aj 2) (ar (av aJ (aj 4) (wC (.int 0))) (ar (av aJ (aj 4) (wC (.int 1))) aI)))))))
  (aV (wq (Jl 3 (aj 5)))
  (aV (bL 2 (bG (aB gO (ar (aj 2) (ar (aj 5) aI)))))
  (bL 4 (bG (aB aU (ar (aj 0) (ar (bG (aB bC (ar (aj 0) (ar (aj 2) aI)))) aI))))))))
def kE:W Fl:=(aV (bL 2 (aj 1))
  (aV (bL 3 (uG aI))
  (aV (bL 4 (bG (aB aU (ar (aj 0) (ar (bG (aB bC (ar (aj 0) (ar (aj 2) aI)))) aI)))))
  (aV (t7 (aO (av ub (aj 4) (wC .non))) lL)
  (bO (mY 3))))))
theorem xM{R:aL}{ps:List Rat}(h:cW R ps){so:L->List L->Prop}(q:so (.d (yY (Si (Sh R) (Sl R ps)))) [.d (aH R),.d (.lst ((Sl R ps).map λ(k:Nat)=>D.int (k:Int)))]):aU [.d (aH R),.d (.lst ((Sl R ps).map λ(k:Nat)=>D.int (k:Int)))] so:=by refine⟨R,Sl R ps,rfl,?_,λk hk=>by rw[<- h.len];exact(iD hk).1,q⟩;refine U8 (V8 _ _) ?_;rw[Vu,h.len];exact h.ok.few
theorem ur{R:aL}{ps:List Rat}(h:cW R ps){so:L->List L->Prop}(q:∀a,so (.own a ((Sl R ps).map λ(k:Nat)=>D.int (k:Int))) [.d (aH R),.d (.lst (ps.map Rl))]):bC [.d (aH R),.d (.lst (ps.map Rl))] so:=by refine⟨R,ps,1800,rfl,h.ok,h.len,λp hp=>?_,x_,q⟩;obtain⟨i,hi,rfl⟩:=VF hp;rw[<- bj hi];exact h.rb hi
theorem OL{R:aL}{ps:List Rat}(h:cW R ps){k l:Nat}(hk:k<ps.length)(hl:l<ps.length)(w:Bool×Bool):RB 4000 (Sg R ps k l w).am:=by
 show RB 4000 (R9 R ps k w.1 l w.2);rcases(h.ms hk hl w.1 w.2).2.2.2 with e|e
 . rw[e];exact(xh h hk _).mono x_
 . rw[e];exact(xh h hl _).mono x_
theorem OM{R:aL}{ps:List Rat}(h:cW R ps):∀p∈ps,RB 4000 p:=λp hp=>by obtain⟨i,hi,rfl⟩:=VF hp;rw[<- bj hi];exact(h.rb hi).mono x_
theorem tN:∀ls so,ls.length=2->fR ls so->kE (ls++List.replicate 4 .un) (aP ls so):=by
 rintro ls so - ⟨R,ps,rfl,hS,h⟩;unfold kE;walk_at "w";refine⟨x_,λa=>ur hS λb=>?_⟩;walk_at "w";refine xM hS ?_;walk_at "w";have h20:(Sl R ps).length<=20:=by refine U8 (V8 _ _) ?_;rw[Vu,hS.len];exact hS.ok.few
 refine⟨λn Z=>∃(qs:List Rat)(done:List fk)(m:Nat)(x5:L),Z=[.d (aH R),.d (.lst (ps.map Rl)),.d (.lst (qs.map Rl)),.own a (done.map R7),.d (yY (Si (Sh R) (Sl R qs))),x5]/\cW R qs/\(Sl R qs).length=n/\n<=m/\done.length+m=20/\done++nF R m qs=nF R 20 ps,
  ⟨_,ps,[],20,_,rfl,hS,rfl,h20,rfl,rfl⟩,?_⟩
 rintro n Z ⟨qs,done,m,x5,rfl,hQ,hn,hm,hd,hs⟩
 cases e:Si (Sh R) (Sl R qs)with
 | none =>
  unfold yY;walk_at "w"
  have e0:nF R m qs=[]:=by
   cases m with
   |zero=>rfl
   |succ m=>unfold nF u7;rw[e];rfl
  rw[e0,VR]at hs;subst hs;exact⟨_,ai (ai aM),h a⟩
 | some p =>
  obtain⟨k,l⟩:=p;obtain⟨hk,hl,hkl,hc⟩:=qC (rg R qs) e;obtain⟨hk1,hk2⟩:=iD hk;obtain⟨hl1,hl2⟩:=iD hl;have hk':k<R.asks.length:=by rw[<- hQ.len];exact hk1
  have hl':l<R.asks.length:=by rw[<- hQ.len];exact hl1
  have hkl':k≠l:=by omega
  simp only[yY];walk_at "w";unfold lL;walk_at "w";refine⟨R,qs,k,l,hk',hl',rfl,hQ,?_⟩;have en:u7 R qs=some (Sg R qs k l (bQ R.n R.asks[k] R.asks[l])):=by unfold u7;rw[e];show some (Sg R qs k l (bQ R.n (aN R k) (aN R l)))=_;rw[bU hk',bU hl']
  have ok2:=Ib hQ hk1 hl1 hkl' (bQ R.n R.asks[k] R.asks[l]);have less:=AQ hQ hk hl hkl' (bQ R.n R.asks[k] R.asks[l]);have arb:=OL hQ hk1 hl1 (bQ R.n R.asks[k] R.asks[l]);generalize hs':Sg R qs k l (bQ R.n R.asks[k] R.asks[l])=s at *;have sk:s.k=k:=by rw[<- hs'];rfl
  have sl:s.l=l:=by rw[<- hs'];rfl
  walk_at "w";refine⟨?_,qs,s,rfl,by rw[hQ.len];exact hQ.ok.few,by rw[sk];exact hk1,by rw[sl];exact hl1,by rw[sk,sl];exact hkl',OM hQ,arb,λc=>?_⟩
  . exact Ve (show done.length<=20 by omega) x_
  walk_at "w";refine ur ok2 λd=>?_;walk_at "w";refine xM ok2 ?_;walk_at "w"
  cases m with
  |zero=>omega
  | succ m =>
   refine⟨_,by rw[<- hn];exact less,Sd qs s,done++[s],m,_,by rw[Wb];rfl,ok2,rfl,xL,by simp;omega,?_⟩;rw[<- hs,VT]
   congr 1
   show s::nF R m (Sd qs s)=nF R (m+1) qs
   conv=>rhs;unfold nF
   rw[en]
def eO:FS:=λls so=>∃(a:RT)(p:Rat),ls=[.d (iy a),.d (Rl p)]/\so (.d (.str (fK (decide (p=a.size))))) ls
def jd:W Fl:=(bO (Ca (aO (av vR (aj 1) (av aJ (aj 0) (wC (.int 3))))) (wC (.str "on")) (wC (.str "back"))))
theorem su:∀ls so,ls.length=2->eO ls so->jd (ls++List.replicate 0 .un) (aP ls so):=by
 rintro ls so - ⟨a,p,rfl,h⟩;unfold jd;have es:iy a=.tup [.str a.nm,.int a.one,.int a.other,Rl a.size]:=rfl;rw[es]at h ⊢;walk_at "w";by_cases hp:p=a.size
 . rw[if_pos hp];rw[Vm hp]at h;exact⟨_,ai (ai aM),h⟩
 . rw[if_neg hp];rw[Va hp]at h;exact⟨_,ai (ai aM),h⟩
def dA:FS:=λls so=>∃(R:aL)(ps:List Rat)(ks:List Nat)(ws:List Bool),ls=[.d (aH R),.d (.lst (ps.map Rl)),.d (.lst (ks.map λ(k:Nat)=>D.int (k:Int))),.d (.lst (ws.map fV))]/\ps.length=R.asks.length/\ws.length=R.asks.length/\ks.length<=20/\R.asks.length<=20 /\
 so (.d (.bl ((List.range R.asks.length).all (Sw R ps ks ws)))) ls
def fM:W Fl:=(Q4 (HI (aO (av (yw true) (aj 4) (aj 2))) (HI (aO (av uK (av aJ (aj 5) (wC (.int 3))) (wC (.tup [(.int 0),(.int 1)])))) (aO (av uK (av aJ (aj 3) (aj 4)) (aB eO (ar (aj 5) (ar (av aJ (aj 1) (aj 4)) aI))))))) (bO (wC (.bl false))) cw)
def dQ:W Fl:=(aV (pY (uQ (av aJ (aj 0) (wC (.int 1)))) (eX [4,5]) fM)
  (bO (wC (.bl true))))
theorem Nr(v w:Bool):Ra (fV v) (.str (fK w))=decide (v=w):=by cases v<;>cases w<;>decide +kernel
theorem lz:∀ls so,ls.length=4->dA ls so->dQ (ls++List.replicate 2 .un) (aP ls so):=by
 rintro ls so - ⟨R,ps,ks,ws,rfl,hl,hw,h20,hn,h⟩;unfold dQ;walk_at "w";rw[D3];refine gL (enc:=λ(k:Nat)=>D.tup [.int (k:Int),iy (aN R k)]) (List.range R.asks.length) (λpre Z=>pre.all (Sw R ps ks ws)=true/\∃x4 x5,Z=[.d (aH R),.d (.lst (ps.map Rl)),.d (.lst (ks.map λ(k:Nat)=>D.int (k:Int))),.d (.lst (ws.map fV)),x4,x5]) _ ⟨rfl,_,_,rfl⟩ ?_ ?_
 .
  rintro pre k suf Z hsp ⟨hp,x4,x5,rfl⟩ Q h1 h2 h3 h4
  have hk:k<R.asks.length:=by
   have:k∈List.range R.asks.length:=by rw[hsp];simp
   simpa using this
  unfold fM;walk_at "w";have ek:Sw R ps ks ws k=(decide (k∈ks) ||decide (R.asks[k].size=0) ||decide (ws[k]=decide (ps[k]=R.asks[k].size))):=by unfold Sw;rw[BN hk,oJ (show k<ps.length by omega),U0,tu (show k<ws.length by omega)];rfl
  have go:Sw R ps ks ws k=true->(pre++[k]).all (Sw R ps ks ws)=true:=λz=>by rw[List.all_append,hp,List.all_cons,z];rfl
  have no:Sw R ps ks ws k=false->(List.range R.asks.length).all (Sw R ps ks ws)=false:=λz=>by rw[hsp,List.all_append,List.all_cons,z,Wz,Bool.and_false]
  refine⟨rfl,w9 ks,?_⟩;rw[qz,GS hk];by_cases c1:k∈ks
  . rw[if_neg (by simp[c1])];exact h1 _ ⟨go (by rw[ek];simp[c1]),_,_,rfl⟩
  rw[if_pos (by simp[c1])];refine⟨nu 0,?_⟩;have ez:Ra (Rl R.asks[k].size) (.tup [.int 0,.int 1])=decide (R.asks[k].size=0):=uc _ 0;rw[ez];by_cases c2:R.asks[k].size=0
  . rw[if_neg (by simp[c2])];exact h1 _ ⟨go (by rw[ek];simp[c2]),_,_,rfl⟩
  rw[if_pos (by simp[c2])];refine⟨_,aR xL,_,aR xL,_,_,rfl,cV _,cV _,?_⟩;rw[Nr];by_cases c3:ws[k]=decide (ps[k]=R.asks[k].size)
  . rw[if_neg (by rw[Vm c3];decide)];exact h1 _ ⟨go (by rw[ek,Vm c3,Bool.or_true]),_,_,rfl⟩
  . rw[if_pos (Va c3)];refine h4 _ _ ⟨_,ai (ai (ai (ai aM))),?_⟩;rw[no (by rw[ek,Va c1,Va c2,Va c3];rfl)]at h;exact h
 . rintro Z ⟨hp,x4,x5,rfl⟩;rw[hp]at h;exact⟨_,ai (ai (ai (ai aM))),h⟩
def bZ:FS:=λls so=>∃(R:aL)(ks:List Nat),ls=[.d (aH R),.d (.lst (ks.map λ(k:Nat)=>D.int (k:Int)))]/\R.Ok/\(∀k∈ks,k<R.asks.length)/\so (.d (Rl (bI R ks))) ls
def fN:W Fl:=(bL 2 (bG (aB oU (ar (aj 2) (ar (av aJ (av aJ (av aJ (aj 0) (wC (.int 1))) (aj 3)) (wC (.int 3))) aI)))))
def dR:W Fl:=(aV (bL 2 (wC (.tup [(.int 0),(.int 1)])))
  (aV (pY (wx (aj 1)) (bp 3) fN)
  (bO (aB vn (ar (aj 2) (ar (wC (.tup [(.int 1),(.int 2)])) aI))))))
theorem ED:RB 2 (1 / 2:Rat):=by
 have e:(1 / 2:Rat).num=1/\(1 / 2:Rat).den=2:=by decide +kernel
 unfold RB;rw[e.1,e.2];decide
theorem Hl:Rl (1 / 2:Rat)=.tup [.int 1,.int 2]:=by
 have e:(1 / 2:Rat).num=1/\(1 / 2:Rat).den=2:=by decide +kernel
 unfold Rl;rw[e.1,e.2];rfl
theorem EE{R:aL}(hR:R.Ok):∀(ks:List Nat)(g:Rat),(∀k∈ks,k<R.asks.length)->RB 1540 g->RB 1540 (Sr R ks g)
 |[],g,_,h=>h
 | k::ks,g,hk,h=>by
  show RB 1540 (Sr R ks _);refine EE hR ks _ (λx hx=>hk x (UW _ hx)) ?_;dsimp only;split
  . rw[jL (hk k UZ)];exact hR.rb (U3 _)
  . exact h
theorem EF{R:aL}(hR:R.Ok){ks:List Nat}(hk:∀k∈ks,k<R.asks.length):RB 1542 (bI R ks):=(EE hR ks 0 hk (RB.zero.mono x_)).mul ED
theorem lA:∀ls so,ls.length=2->bZ ls so->dR (ls++List.replicate 2 .un) (aP ls so):=by
 rintro ls so - ⟨R,ks,rfl,hR,hk,h⟩;unfold dR;walk_at "w";refine dJ _ (λj Z=>∃(g:Rat)(x:L),Z=[.d (aH R),.d (.lst (ks.map λ(k:Nat)=>D.int (k:Int))),.d (Rl g),x]/\RB 1540 g/\Sr R (ks.drop j) g=Sr R ks 0) _ ⟨0,_,rfl,RB.zero.mono x_,rfl⟩ ?_ ?_
 .
  rintro j x Z hj ⟨g,x3,rfl,hg,e⟩ Q h1 h2 h3 h4;rw[Vf]at hj
  have hj':j<ks.length:=by
   rcases Nat.lt_or_ge j ks.length with q|q
   . exact q
   . rw[Wu q]at hj;exact absurd hj v6
  rw[tu hj']at hj;cases hj;have hk':=hk _ (U3 hj');have rb:=hR.rb (U3 hk');rw[VD hj']at e;unfold fN;walk_at "w";refine⟨_,aR hk',?_⟩;walk_at "w";refine⟨_,_,rfl,hg.mono x_,rb.mono x_,?_⟩;walk_at "w";refine h1 _ ⟨_,_,rfl,?_,?_⟩
  .
   split
   . exact rb
   . exact hg
  .
   rw[<- e]
   show _=Sr R _ (if g<R.sz ks[j]then R.sz ks[j]else g)
   rw[BN hk']
 . rintro Z ⟨g,x,rfl,hg,e⟩;rw[U4,W6]at e;walk_at "w";refine⟨g,1 / 2,by rw[Hl],hg.mono x_,ED.mono x_,?_⟩;walk_at "w";have e':g=Sr R ks 0:=e;rw[e'];exact⟨_,ai (ai aM),h⟩
def cj:FS:=λls so=>∃(R:aL)(k:Nat)(hk:k<R.asks.length),ls=[.d (.int (k:Int)),.d (aH R)]/\so (.d (.int (So R.asks[k]))) []
def cG:W L:=(aB cA (ar (aj 1) (ar (aj 0) aI)))
theorem je:∀a d so,cj [.d a,.d d] so->cG [.d a,.d d] (λr _=>so r []):=by rintro a d so ⟨R,k,hk,e,h⟩;cases e;unfold cG;walk_at "w";exact⟨R,k,hk,rfl,h⟩
def cn:FS:=λls so=>∃(R:aL)(ks:List Nat),ls=[.d (aH R),.d (.lst (ks.map λ(k:Nat)=>D.int (k:Int)))]/\ks.length<=20/\(∀k∈ks,k<R.asks.length) /\
 ∀(a:Addr)(os:List Nat),os.Perm ks->os.Pairwise (λi j=>Sq R i<=Sq R j)->so (.own a (os.map λ(k:Nat)=>D.int (k:Int))) ls
def eF:W Fl:=(bO (Dv cj 0 (aj 1)))
theorem mM:∀ls so,ls.length=2->cn ls so->eF (ls++List.replicate 0 .un) (aP ls so):=by
 rintro ls so - ⟨R,ks,rfl,hl,hk,h⟩;unfold eF;walk_at "w";refine⟨ks.map λ(k:Nat)=>(k:Int),λn=>(Sq R n.toNat:Int),by rw[VM];rfl,by rw[U4];omega,λn hn=>?_,λa out op os=>?_⟩
 . obtain⟨k,hkm,rfl⟩:=VO.mp hn;have hk':=hk k hkm;refine⟨R,k,hk',rfl,?_⟩;show D.int _=D.int ((Sq R ((k:Int)).toNat:Nat):Int);rw[VB];unfold Sq;rw[U0,tu hk'];rfl
 .
  obtain⟨ms,rfl⟩:∃ms:List Nat,out=ms.map λ(k:Nat)=>(k:Int):=by
   refine⟨out.map Int.toNat,?_⟩;rw[VM]
   conv=>lhs;rw[<- List.map_id out]
   refine Ws λn hn=>?_;obtain⟨k,_,rfl⟩:=VO.mp (op.mem_iff.mp hn);simp
  have inj:∀{l1 l2:List Nat},(l1.map λ(k:Nat)=>(k:Int)).Perm (l2.map λ(k:Nat)=>(k:Int))->l1.Perm l2:=λ{l1 l2} p=>by have:=p.map Int.toNat;rw[VM,VM]at this;simpa[Function.comp_def]using this
  refine⟨_,ai (ai aM),?_⟩
  have:=h a ms (inj op) (by
   rw[List.pairwise_map]at os
   exact os.imp λ{i j} q=>by
    simp only[VB]at q
    omega)
  rw[VM];exact this
def dS:FS:=λls so=>∃(R:aL)(k:Nat),ls=[.d (aH R),.d (.int (k:Int))]/\k<R.asks.length/\so (.d (.str (fK (tI R k)))) ls
def kF:W Fl:=(bO (Ca (aO (av uI (av aJ (av aJ (av aJ (aj 0) (wC (.int 1))) (aj 1)) (wC (.int 1))) (av aJ (av aJ (av aJ (aj 0) (wC (.int 1))) (aj 1)) (wC (.int 2))))) (wC (.str "on")) (wC (.str "back"))))
theorem tO:∀ls so,ls.length=2->dS ls so->kF (ls++List.replicate 0 .un) (aP ls so):=by
 rintro ls so - ⟨R,k,rfl,hk,h⟩;have e:tI R k=decide (R.asks[k].one<R.asks[k].other):=by unfold tI;rw[U0,tu hk];rfl
 rw[e]at h;unfold kF;walk_at "w";refine⟨_,aR hk,?_⟩;walk_at "w";refine⟨_,aR hk,?_⟩;walk_at "w";by_cases c:R.asks[k].one<R.asks[k].other
 . rw[if_pos (by omega)];rw[Vm c]at h;exact⟨_,ai (ai aM),h⟩
 . rw[if_neg (by omega)];rw[Va c]at h;exact⟨_,ai (ai aM),h⟩
def fW:FS:=λls so=>∃(R:aL)(ps:List Rat)(k:Nat)(w:Bool),ls=[.d (aH R),.d (.lst (ps.map Rl)),.d (.int (k:Int)),.d (fV w)]/\k<R.asks.length/\k<ps.length/\RB 1900 (R.sz k)/\RB 1900 (ps.getD k 0)/\so (.d (Rl (cz R ps k w))) ls
def sx:W Fl:=(aV (bL 4 (av aJ (av aJ (av aJ (aj 0) (wC (.int 1))) (aj 2)) (wC (.int 3))))
  (aV (bL 5 (bG (Ca (aO (av vR (aB dS (ar (aj 0) (ar (aj 2) aI))) (wC (.str "on")))) (av aJ (aj 1) (aj 2)) (aB cZ (ar (aj 4) (ar (av aJ (aj 1) (aj 2)) aI))))))
  (bO (aB cZ (ar (Ca (aO (av vR (aj 3) (aB dS (ar (aj 0) (ar (aj 2) aI))))) (aj 4) (wC (.tup [(.int 0),(.int 1)]))) (ar (aj 5) aI))))))
theorem Nu(v w:Bool):Ra (fV v) (.str (fK w))=decide (v=w):=by cases v<;>cases w<;>decide +kernel
theorem A0{p q:Rat}{b c:Bool}{e:Ev}{so:L->List L->Prop}(hp:RB 1900 p)(hq:RB 3802 q)(h:so (.d (Rl ((if b=c then p else 0)-q))) e)(K:L->Prop)(hK:∀r,so r e->K r) :
  (if decide (b=c)=true then cZ [.d (Rl p),.d (Rl q)] λr _=>K r else cZ [.d (.tup [.int 0,.int 1]),.d (Rl q)] λr _=>K r):=by
 by_cases x:b=c
 . rw[if_pos x]at h;rw[if_pos (Vm x)];exact eZ (hp.mono x_) (hq.mono x_) (hK _ h)
 . rw[if_neg x]at h;rw[if_neg (by simp[x])];exact eZ (p:=0) (RB.zero.mono x_) (hq.mono x_) (hK _ h)
theorem EG{R:aL}{ps:List Rat}(h:cW R ps){k:Nat}(hk:k<ps.length)(w:Bool):RB 5703 (cz R ps k w):=by
 have a:RB 1900 (if w=tI R k then R.sz k else 0):=by
  split
  . exact(h.sz_rb hk).mono x_
  . exact RB.zero.mono x_
 have b:RB 3802 (if tI R k=true then ps.getD k 0 else R.sz k-ps.getD k 0):=by
  split
  . exact(h.rb hk).mono x_
  . exact((h.sz_rb hk).sub (h.rb hk)).mono x_
 exact(a.sub b).mono x_
theorem A1{R:aL}{ps:List Rat}{D:Nat}(hl:ps.length=R.asks.length)(d0:0<D)(da:∀a∈R.asks,a.size.den∣D)(dp:∀p∈ps,p.den∣D){k:Nat}(hk:k<ps.length)(w:Bool):(cz R ps k w).den∣D:=by
 have s:(R.sz k).den∣D:=by rw[jL xL];exact da _ (U3 _)
 have p:(ps.getD k 0).den∣D:=by rw[bj hk];exact dp _ (U3 _)
 unfold cz;refine mi d0 ?_ ?_
 .
  split
  . exact s
  . exact⟨D,(Nat.one_mul D).symm⟩
 .
  split
  . exact p
  . exact mi d0 s p
theorem zA:∀ls so,ls.length=4->fW ls so->sx (ls++List.replicate 2 .un) (aP ls so):=by
 rintro ls so - ⟨R,ps,k,w,rfl,hk,hp,b1,b2,h⟩;unfold sx;walk_at "w";refine⟨_,aR hk,?_⟩;walk_at "w";refine⟨R,k,rfl,hk,?_⟩;walk_at "w";unfold cz at h;rw[<- BN hk];by_cases c:tI R k=true
 . rw[if_pos c]at h ⊢;refine⟨_,aR hp,?_⟩;rw[<- oJ hp];refine⟨R,k,rfl,hk,?_⟩;refine⟨cV _,cV _,?_⟩;rw[Nu];exact A0 b1 (b2.mono x_) h _ λr hr=>⟨_,ai (ai (ai (ai aM))),hr⟩
 . rw[if_neg c]at h ⊢;refine⟨_,aR hp,?_⟩;rw[<- oJ hp];refine eZ (b1.mono x_) (b2.mono x_) ?_;refine⟨R,k,rfl,hk,?_⟩;refine⟨cV _,cV _,?_⟩;rw[Nu];exact A0 b1 ((b1.sub b2).mono x_) h _ λr hr=>⟨_,ai (ai (ai (ai aM))),hr⟩
def gz:FS:=λls so=>∃(R:aL)(ps:List Rat)(ks:List Nat)(ws:List Bool),ls=[.d (aH R),.d (.lst (ps.map Rl)),.d (.lst (ks.map λ(k:Nat)=>D.int (k:Int))),.d (.lst (ws.map fV))]/\cW R ps/\ws.length=R.asks.length/\ks.length<=20/\(∀k∈ks,k<R.asks.length) /\
 ∀os:List Nat,os.Perm ks->os.Pairwise (λi j=>Sq R i<=Sq R j)->so (.d (.bl (Sx (bI R ks) 0 (Sy R ps ws os)))) ls
def jB:W Fl:=(aV (bL 5 (bG (aB i6 (ar (aj 5) (ar (bG (aB fW (ar (aj 0) (ar (aj 1) (ar (aj 6) (ar (av aJ (aj 3) (aj 6)) aI)))))) aI)))))
  (Q4 (Q1 (aO (aB dO (ar (aj 4) (ar (aj 5) aI)))) (aO (aB dO (ar (aj 5) (ar (bG (aB cZ (ar (wC (.tup [(.int 0),(.int 1)])) (ar (aj 4) aI)))) aI))))) (bO (wC (.bl false))) cw))
def ig:W Fl:=(aV (bL 4 (bG (aB bZ (ar (aj 0) (ar (aj 2) aI)))))
  (aV (bL 5 (wC (.tup [(.int 0),(.int 1)])))
  (aV (pY (wx (aB cn (ar (aj 0) (ar (aj 2) aI)))) (bp 6) jB)
  (bO (wC (.bl true))))))
theorem Hm(hf t g:Rat)(gs:List Rat):Sx hf t (g::gs)=(!(decide (hf<t+g) ||decide (t+g<0-hf)) && Sx hf (t+g) gs):=rfl
theorem qg:∀ls so,ls.length=4->gz ls so->ig (ls++List.replicate 3 .un) (aP ls so):=by
 rintro ls so - ⟨R,ps,ks,ws,rfl,hS,hw,h20,hk,h⟩;have hb:=EF hS.ok hk;obtain⟨M,d0,d1,da,dp⟩:=hS.cd;have hl:=hS.len;unfold ig;walk_at "w";refine⟨R,ks,rfl,hS.ok,hk,?_⟩;walk_at "w";refine⟨R,ks,rfl,h20,hk,λa os op ow=>?_⟩;walk_at "w";have h:=h os op ow;have hko:∀k∈os,k<R.asks.length:=λk m=>hk k (op.mem_iff.mp m);have hol:os.length<=20:=by rw[op.length_eq];exact h20
 refine dJ _ (λj Z=>∃(t:Rat)(x:L),Z=[.d (aH R),.d (.lst (ps.map Rl)),.d (.lst (ks.map λ(k:Nat)=>D.int (k:Int))),.d (.lst (ws.map fV)),.d (Rl (bI R ks)),.d (Rl t),x]/\RB (5704*j+1) t/\t.den∣M/\Sx (bI R ks) t (Sy R ps ws (os.drop j))=Sx (bI R ks) 0 (Sy R ps ws os)) _ ⟨0,_,rfl,RB.zero,⟨M,(Nat.one_mul M).symm⟩,rfl⟩ ?_ ?_
 .
  rintro j x Z hj ⟨t,x6,rfl,ht,td,e⟩ Q h1 h2 h3 h4;rw[Vf]at hj
  have hj':j<os.length:=by
   rcases Nat.lt_or_ge j os.length with q|q
   . exact q
   . rw[Wu q]at hj;exact absurd hj v6
  rw[tu hj']at hj;cases hj;have hk':=hko _ (U3 hj');have hkp:os[j]<ps.length:=by omega
  rw[VD hj']at e;have gr:=EG hS hkp (ws.getD os[j] true);have gd:=A1 hl d0 da dp hkp (ws.getD os[j] true);have sr:=ht.add gr;have sd:=rf d0 td gd;unfold jB;walk_at "w";have ew:ws[os[j]]'(by omega)=ws.getD os[j] true:=by rw[U0,tu xL];rfl
  refine⟨_,aR xL,?_⟩;rw[ew];have b6:5704*(j+1)+1<=114081:=by omega
  have tn:t.den*(cz R ps os[j] (ws.getD os[j] true)).den<2^9000 :=
   U2 (bo (Ve (Wy d0 td) d1) (Ve (Wy d0 gd) d1)) (Vg x_ x_)
  refine⟨R,ps,_,_,rfl,hk',hkp,(hS.sz_rb hkp).mono x_,(hS.rb hkp).mono x_,?_⟩;refine⟨t,_,rfl,ht.mono xL,gr.mono x_,tn,?_⟩;have e:Sx (bI R ks) t (cz R ps os[j] (ws.getD os[j] true)::Sy R ps ws (os.drop (j+1)))=Sx (bI R ks) 0 (Sy R ps ws os):=e;rw[Hm]at e;refine⟨_,_,rfl,hb.mono x_,sr.mono xL,?_⟩
  show if _ then _ else _
  by_cases c1:bI R ks<t+cz R ps os[j] (ws.getD os[j] true)
  . rw[if_pos (Vm c1)];rw[Vm c1,Bool.true_or,Bool.not_true,Wz]at e;refine h4 _ _ ⟨_,ai (ai (ai (ai aM))),?_⟩;rw[<- e]at h;exact h
  rw[if_neg (by rw[Va c1];decide)];refine eZ (p:=0) (RB.zero.mono x_) (hb.mono x_) ?_;have mb:RB 1544 (0-bI R ks):=(RB.zero.sub hb).mono x_;refine⟨_,_,rfl,sr.mono xL,mb.mono x_,?_⟩
  show if _ then _ else _
  by_cases c2:t+cz R ps os[j] (ws.getD os[j] true)<0-bI R ks
  . rw[if_pos (Vm c2)];rw[Vm c2,Bool.or_true,Bool.not_true,Wz]at e;refine h4 _ _ ⟨_,ai (ai (ai (ai aM))),?_⟩;rw[<- e]at h;exact h
  . rw[if_neg (by rw[Va c2];decide)];rw[Va c1,Va c2,Bool.or_self,Bool.not_false,Wx]at e;exact h1 _ ⟨_,_,rfl,sr.mono xL,sd,e⟩
 . rintro Z ⟨t,x,rfl,_,_,e⟩;rw[U4,W6]at e;walk_at "w";rw[<- e]at h;exact⟨_,ai (ai (ai (ai aM))),h⟩
def bF:FS:=λls so=>∃(R:aL)(ps:List Rat)(d:D)(M:Nat),ls=[.d (aH R),.d (.lst (ps.map Rl)),.d d]/\cW R ps/\(0<M/\M<2^1500/\(∀a∈R.asks,a.size.den∣M)/\(∀p∈ps,p.den∣M)) /\
 (∀x y,d=.tup [x,y]->(∀xs,y=.lst xs->xs.length<=99)/\∃ss,x=.lst ss/\ss.length<=99/\∀u∈ss,∀s,qD u=some s->RB 4000 s.am/\s.am.den∣M) /\
 ((∀(ss:List D)(ws:List Bool),d=.tup [.lst ss,.lst (ws.map fV)]->ws.length=R.asks.length->vC R 0 ps ss=none->Si (Sh R) (Sl R (og R ps ss))=none->False)->so (.d (.bl false)) ls) /\
 ∀(ss:List D)(ws:List Bool)(os:List Nat),d=.tup [.lst ss,.lst (ws.map fV)]->ws.length=R.asks.length->vC R 0 ps ss=none->Si (Sh R) (Sl R (og R ps ss))=none->os.Perm (Sl R (og R ps ss))->os.Pairwise (λi j=>Sq R i<=Sq R j) ->
  so (.d (.bl ((List.range R.asks.length).all (Sw R (og R ps ss) (Sl R (og R ps ss)) ws) && Sx (bI R (Sl R (og R ps ss))) 0 (Sy R (og R ps ss) ws os)))) ls
def iG:W Fl:=(bO (m4 (aB dA (ar (aj 0) (ar (aj 3) (ar (aj 4) (ar (av aJ (aj 2) (wC (.int 1))) aI))))) (aB gz (ar (aj 0) (ar (aj 3) (ar (aj 4) (ar (av aJ (aj 2) (wC (.int 1))) aI)))))))
def iH:W Fl:=(aV (Q4 (aO (av ub (aB aU (ar (aj 0) (ar (aj 4) aI))) (wC .non))) (bO (wC (.bl false))) cw)
  iG)
def iI:W Fl:=(aV (bL 4 (bG (aB bC (ar (aj 0) (ar (aj 3) aI)))))
  iH)
def iJ:W Fl:=(aV (NL (λxt=>(bL 3 (bG (wW dE xt (ar (aj 0) (ar (aj 1) (ar (av aJ (aj 2) (wC (.int 0))) aI))))))) "NoSlide" (bO (wC (.bl false))))
  iI)
def gA:W Fl:=(aV (Q4 (Q1 (uF (aO (Q3 (p5 "tuple") (aj 2)))) (Q1 (aO (av uK (bq dX (ar (aj 2) aI)) (wC (.int 2)))) (uF (aO (aB i9 (ar (aj 0) (ar (av aJ (aj 2) (wC (.int 1))) aI))))))) (bO (wC (.bl false))) cw)
  iJ)
theorem KL{n:Nat}{d:D}(h:Ih n d=true):∃ws:List Bool,d=.lst (ws.map fV)/\ws.length=n:=by
 unfold Ih at h
 cases d with
 | lst xs =>
  rw[U7,U5]at h;obtain⟨h1,h2⟩:=h;refine⟨xs.map λx=>(mj x).getD true,?_,by rw[U4];exact h1⟩
  congr 1
  rw[VM]
  conv=>lhs;rw[<- List.map_id xs]
  refine Ws λx hx=>?_;have:=VI.mp h2 x hx;rw[va]at this;obtain⟨w,e⟩:=Option.isSome_iff_exists.mp this;show x=fV ((mj x).getD true);rw[e];exact u9 e
 |_=>cases h
theorem Hn{n:Nat}{ws:List Bool}(h:ws.length=n):Ih n (.lst (ws.map fV))=true:=by unfold Ih;rw[U7,U5,U4];refine⟨h,?_⟩;rw[List.all_map,VI];intro w _;show vT (.str (fK w))=true;rw[va,rj];rfl
theorem Il{R:aL}{M:Nat}:∀(ss:List D)(i:Nat)(ps:List Rat),UG R ps M->(∀u∈ss,∀s,qD u=some s->RB 4000 s.am/\s.am.den∣M)->vC R i ps ss=none->UG R (og R ps ss) M
 |[],_,_,h,_,_=>h
 | d::ss,i,ps,h,ha,hb=>by
  unfold vC at hb
  cases e:Sm R ps d with
  |false=>rw[e]at hb;cases hb
  | true =>
   rw[e,if_pos rfl]at hb;obtain⟨s,es,hk,hl,e'⟩:=D8 e;have es':qD d=some s:=by rw[es];exact ml s
   have st:UF ps d=Sd ps s:=by unfold UF;rw[es']
   show UG R (og R (UF ps d) ss) M;rw[st]at hb ⊢;exact Il ss (i+1) _ (h.slid (zx h.ok hk hl e') (ha d UZ s es').2) (λu hu=>ha u (UW _ hu)) hb
theorem zB{as bs:List D}{x y:D}(e:D.tup [.lst as,x]=.tup [.lst bs,y]):as=bs:=by injection e with e;injection e with e _;injection e
theorem Nv(R:aL)(ks:List Nat):∃os:List Nat,os.Perm ks/\os.Pairwise λi j=>Sq R i<=Sq R j:=by refine⟨ks.mergeSort λi j=>decide (Sq R i<=Sq R j),List.mergeSort_perm _ _,?_⟩;have:=List.pairwise_mergeSort (le:=λi j=>decide (Sq R i<=Sq R j)) (λa b c h1 h2=>by simp only[U5]at *;omega) (λa b=>by simp only[Bool.or_eq_true,U5];omega) ks;exact this.imp λh=>by simpa using h
theorem OO{k:W Fl}{R:aL}{P d x3 x4:D}{so:Fl->Ev->Prop}(hy:∀x y,d=.tup [x,y]->∀xs,y=.lst xs->xs.length<=99)
  (h1:(∀(x:D)(ws:List Bool),d=.tup [x,.lst (ws.map fV)]->ws.length=R.asks.length->False)->so (.rt (.d (.bl false))) [.d (aH R),.d P,.d d,.un,.un])
  (h2:∀(x:D)(ws:List Bool),d=.tup [x,.lst (ws.map fV)]->ws.length=R.asks.length->k [.d (aH R),.d P,.d d,.un,.un] so) :
  aV (Q4 (Q1 (uF (aO (Q3 (p5 "tuple") (aj 2)))) (Q1 (aO (av uK (bq dX (ar (aj 2) aI)) (wC (.int 2)))) (uF (aO (aB i9 (ar (aj 0) (ar (av aJ (aj 2) (wC (.int 1))) aI))))))) (bO (wC (.bl false))) cw) k [.d (aH R),.d P,.d d,.un,.un] so:=by
 by_cases ht:∃xs,d=.tup xs
 .
  obtain⟨xs,rfl⟩:=ht;by_cases hl:xs.length=2
  .
   match xs,hl with
   | [x,y],_ =>
    walk_at "w";refine⟨R,y,rfl,hy x y rfl,?_⟩;walk_at "w"
    cases e:Ih R.asks.length y with
    | false =>
     walk_at "w";refine h1 λx' ws ed hw=>?_;cases ed;rw[Hn hw]at e;cases e
    | true =>
     obtain⟨ws,ew,hw⟩:=KL e;walk_at "w";exact h2 x ws (by rw[ew]) hw
  .
   have hn:¬((xs.length:Int)=2):=by omega
   walk_at "w";rw[if_pos (by simpa using hn)];refine h1 λx' ws ed hw=>?_;cases ed;exact hl rfl
 .
  have ei:ng "tuple" d=false:=by
   cases d<;>first
    |exact absurd ⟨_,rfl⟩ ht
    |rfl
  walk_at "w";rw[ei];walk_at "w";refine h1 λx' ws ed hw=>ht ⟨_,ed⟩
theorem Nw{k:W Fl}{R:aL}{ps:List Rat}{ss:List D}{y:D}{M:Nat}{so:Fl->Ev->Prop}(hS:cW R ps)(h99:ss.length<=99)(ha:∀u∈ss,∀s,qD u=some s->RB 4000 s.am/\s.am.den∣M)(hD:0<M/\M<2^1500/\(∀a∈R.asks,a.size.den∣M)/\(∀p∈ps,p.den∣M))
  (h1:vC R 0 ps ss=none->k [.d (aH R),.d (.lst (ps.map Rl)),.d (.tup [.lst ss,y]),.d (.lst ((og R ps ss).map Rl)),.un] so) (h2:∀i,vC R 0 ps ss=some i->so (.rt (.d (.bl false))) [.d (aH R),.d (.lst (ps.map Rl)),.d (.tup [.lst ss,y]),.un,.un]) :
  aV (NL (λxt=>(bL 3 (bG (wW dE xt (ar (aj 0) (ar (aj 1) (ar (av aJ (aj 2) (wC (.int 0))) aI))))))) "NoSlide" (bO (wC (.bl false)))) k [.d (aH R),.d (.lst (ps.map Rl)),.d (.tup [.lst ss,y]),.un,.un] so:=by
 walk_at "w";refine⟨R,ps,ss,M,rfl,hS,h99,ha,hD,λe a=>?_,λi e=>⟨by rw[beq_self_eq_true,Bool.true_or],h2 i e⟩⟩;walk_at "w";exact h1 e
theorem KM{k:W Fl}{R:aL}{ps qs:List Rat}{d:D}{so:Fl->Ev->Prop}(hS:cW R qs)
  (h:k [.d (aH R),.d (.lst (ps.map Rl)),.d d,.d (.lst (qs.map Rl)),.d (.lst ((Sl R qs).map λ(k:Nat)=>D.int (k:Int)))] so) :
  aV (bL 4 (bG (aB bC (ar (aj 0) (ar (aj 3) aI))))) k [.d (aH R),.d (.lst (ps.map Rl)),.d d,.d (.lst (qs.map Rl)),.un] so:=by
 walk_at "w";refine⟨R,qs,4000,rfl,hS.ok,hS.len,xK hS,x_,λa=>?_⟩;walk_at "w";exact h
theorem A2{R:aL}{qs:List Rat}(hS:cW R qs):(Sl R qs).length<=20/\∀k∈Sl R qs,k<R.asks.length:=by refine⟨?_,λk hk=>by rw[<- hS.len];exact(iD hk).1⟩;unfold Sl;refine U8 (V8 _ _) ?_;rw[Vu,hS.len];exact hS.ok.few
theorem KN{k:W Fl}{R:aL}{ps qs:List Rat}{d:D}{so:Fl->Ev->Prop}(hS:cW R qs)
  (h1:Si (Sh R) (Sl R qs)=none->k [.d (aH R),.d (.lst (ps.map Rl)),.d d,.d (.lst (qs.map Rl)),.d (.lst ((Sl R qs).map λ(k:Nat)=>D.int (k:Int)))] so)
  (h2:Si (Sh R) (Sl R qs)≠none->so (.rt (.d (.bl false))) [.d (aH R),.d (.lst (ps.map Rl)),.d d,.d (.lst (qs.map Rl)),.d (.lst ((Sl R qs).map λ(k:Nat)=>D.int (k:Int)))]) :
  aV (Q4 (aO (av ub (aB aU (ar (aj 0) (ar (aj 4) aI))) (wC .non))) (bO (wC (.bl false))) cw) k [.d (aH R),.d (.lst (ps.map Rl)),.d d,.d (.lst (qs.map Rl)),.d (.lst ((Sl R qs).map λ(k:Nat)=>D.int (k:Int)))] so:=by
 walk_at "w";refine⟨R,_,rfl,(A2 hS).1,(A2 hS).2,?_⟩
 cases e:Si (Sh R) (Sl R qs)with
 | none =>
  unfold yY;walk_at "w";exact h1 e
 | some p =>
  obtain⟨a,b⟩:=p;unfold yY;walk_at "w";exact h2 (by rw[e];exact λz=>nomatch z)
theorem sy{R:aL}{D:Nat}:∀(m i:Nat)(qs:List Rat),UG R qs D->vC R i qs ((nF R m qs).map R7)=none/\og R qs ((nF R m qs).map R7)=dj R m qs/\UG R (dj R m qs) D
 |0,_,_,h=>⟨rfl,rfl,h⟩
 | m+1,i,qs,h=>by
  unfold nF dj
  cases e:u7 R qs with
  |none=>exact⟨rfl,rfl,h⟩
  | some u =>
   obtain⟨h1,h2,_⟩:=nG h.ok e;have ha:=Eb h.ok e h.d0 h.da h.dp;have st:UF qs (R7 u)=Sd qs u:=by unfold UF;rw[ml]
   obtain⟨r1,r2,r3⟩:=sy m (i+1) (Sd qs u) (h.slid h1 ha);refine⟨?_,?_,r3⟩
   .
    show(if Sm R qs (R7 u)then vC R (i+1) (UF qs (R7 u)) _ else some i)=none
    rw[Ig h1.k h1.l,h2,if_pos rfl,st];exact r1
   . show og R (UF qs (R7 u)) _=_;rw[st];exact r2
theorem xN{R:aL}{D:Nat}:∀(m:Nat)(qs:List Rat),UG R qs D->∀s∈nF R m qs,RB 4000 s.am/\s.am.den∣D
 |0,_,_,s,hs=>by cases hs
 | m+1,qs,h,s,hs=>by
  unfold nF at hs
  cases e:u7 R qs with
  |none=>rw[e]at hs;cases hs
  | some u =>
   rw[e]at hs;obtain⟨h1,_,_,_,h5,_⟩:=nG h.ok e;have ha:=Eb h.ok e h.d0 h.da h.dp;rcases Vc.mp hs with rfl|hs
   . exact⟨h5,ha⟩
   . exact xN m (Sd qs u) (h.slid h1 ha) s hs
theorem KO{as bs:List Bool}(h:as.map fV=bs.map fV):as=bs:=by
 have e:∀l:List Bool,(l.map fV).map (λd=>(mj d).getD true)=l:=λl=>by
  rw[VM]
  conv=>rhs;rw[<- List.map_id l]
  exact Ws λw _=>by show(mj (.str (fK w))).getD true=w;rw[rj];rfl
 rw[<- e as,<- e bs,h]
theorem Ho{x y:D}{as bs:List Bool}(e:D.tup [x,.lst (as.map fV)]=.tup [y,.lst (bs.map fV)]):as=bs:=by injection e with e;injection e with _ e;injection e with e _;injection e with e;exact KO e
theorem A3{R:aL}{ps:List Rat}{ss:List D}{ws:List Bool}{M:Nat}{so:L->List L->Prop}(hD:UG R ps M)(h99:ss.length<=99)(ha:∀u∈ss,∀s,qD u=some s->RB 4000 s.am/\s.am.den∣M)(hw:ws.length=R.asks.length)
  (h0:(vC R 0 ps ss=none->Si (Sh R) (Sl R (og R ps ss))=none->False)->so (.d (.bl false)) [.d (aH R),.d (.lst (ps.map Rl)),.d (.tup [.lst ss,.lst (ws.map fV)])])
  (h1:∀os:List Nat,vC R 0 ps ss=none->Si (Sh R) (Sl R (og R ps ss))=none->os.Perm (Sl R (og R ps ss))->os.Pairwise (λi j=>Sq R i<=Sq R j) ->
   so (.d (.bl ((List.range R.asks.length).all (Sw R (og R ps ss) (Sl R (og R ps ss)) ws) && Sx (bI R (Sl R (og R ps ss))) 0 (Sy R (og R ps ss) ws os)))) [.d (aH R),.d (.lst (ps.map Rl)),.d (.tup [.lst ss,.lst (ws.map fV)])]) :
  bF [.d (aH R),.d (.lst (ps.map Rl)),.d (.tup [.lst ss,.lst (ws.map fV)])] so:=by
 refine⟨R,ps,_,M,rfl,hD.ok,⟨hD.d0,hD.d1,hD.da,hD.dp⟩,λx y e=>?_,λno=>h0 λa b=>no ss ws rfl hw a b,λss' ws' os e hw' hb hc op ow=>?_⟩
 . cases e;have:=hD.ok.ok.few;exact⟨λxs e=>by cases e;rw[U4];omega,ss,rfl,h99,ha⟩
 . obtain rfl:=Ho e;obtain rfl:=zB e;exact h1 os hb hc op ow
theorem sD{R:aL}{ps:List Rat}(hS:cW R ps):Si (Sh R) (Sl R (dj R 20 ps))=none:=by refine G0 (AV 20 ps hS ?_);refine U8 (V8 _ _) ?_;rw[Vu,hS.len];exact hS.ok.few
theorem EH{R:aL}{ps:List Rat}(hS:cW R ps):(nF R 20 ps).length<=20:=by refine U8 (y3 20 ps hS) (U8 (V8 _ _) ?_);rw[Vu,hS.len];exact hS.ok.few
theorem EJ{ss:List fk}{M:Nat}(h:∀s∈ss,RB 4000 s.am/\s.am.den∣M):∀u∈ss.map R7,∀s,qD u=some s->RB 4000 s.am/\s.am.den∣M:=λu hu s es=>by obtain⟨x,hx,rfl⟩:=VO.mp hu;rw[ml]at es;cases es;exact h _ hx
theorem Hq{R:aL}{ps:List Rat}{M:Nat}{os:List Nat}{so:L->List L->Prop}(hD:UG R ps M)(op:os.Perm (Sl R (dj R 20 ps)))(ow:os.Pairwise λi j=>Sq R i<=Sq R j)
  (h:so (.d (.bl true)) [.d (aH R),.d (.lst (ps.map Rl)),.d (.tup [.lst ((nF R 20 ps).map R7),.lst ((Su R (dj R 20 ps) (bI R (Sl R (dj R 20 ps))) 0 (Sv R (dj R 20 ps)) os).map fV)])]) :
  bF [.d (aH R),.d (.lst (ps.map Rl)),.d (.tup [.lst ((nF R 20 ps).map R7),.lst ((Su R (dj R 20 ps) (bI R (Sl R (dj R 20 ps))) 0 (Sv R (dj R 20 ps)) os).map fV)])] so:=by
 obtain⟨r1,r2,r3⟩:=sy 20 0 ps hD;have hc:=sD hD.ok;refine A3 hD (by rw[U4];exact U8 (EH hD.ok) x_) (EJ (xN 20 ps hD)) (by rw[AW,xk r3.ok]) (λno=>(no r1 (by rw[r2];exact hc)).elim) λos' _ _ op' ow'=>?_;rw[r2]at op' ⊢;obtain rfl:=KB hc op ow op' ow';rw[y4 r3.ok op,Ej r3.ok op];exact h
theorem vD{R:aL}{M:Nat}{t:Nat}(ht:t<R.n):∀(ss:List D)(i:Nat)(ps:List Rat),UG R ps M->(∀u∈ss,∀s,qD u=some s->RB 4000 s.am/\s.am.den∣M)->vC R i ps ss=none->aZ R.n R.asks (og R ps ss) t<=aZ R.n R.asks ps t
 |[],_,_,_,_,_=>W9
 | d::ss,i,ps,h,ha,hb=>by
  unfold vC at hb
  cases e:Sm R ps d with
  |false=>rw[e]at hb;cases hb
  | true =>
   rw[e,if_pos rfl]at hb;obtain⟨s,es,hk,hl,e'⟩:=D8 e;have es':qD d=some s:=by rw[es];exact ml s
   have st:UF ps d=Sd ps s:=by unfold UF;rw[es']
   show aZ R.n R.asks (og R (UF ps d) ss) t<=_;rw[st]at hb ⊢;have ln:=h.ok.len;refine WJ (vD ht ss (i+1) _ (h.slid (zx h.ok hk hl e') (ha d UZ s es').2) (λu hu=>ha u (UW _ hu)) hb) (W3.mp (Ea h.ok xL xL e' ht))
theorem o7:∀ls so,ls.length=3->bF ls so->gA (ls++List.replicate 2 .un) (aP ls so):=by
 rintro ls so - ⟨R,ps,d,M,rfl,hS,hM,hd,hf,ht⟩;have bk:∀(b:Bool)(x y:L),so (.d (.bl b)) [.d (aH R),.d (.lst (ps.map Rl)),.d d]->aP [.d (aH R),.d (.lst (ps.map Rl)),.d d] so (.rt (.d (.bl b))) [.d (aH R),.d (.lst (ps.map Rl)),.d d,x,y]:=λb x y h=>⟨_,ai (ai (ai aM)),h⟩;unfold gA;refine OO (x3:=.non) (x4:=.non) (λx y e=>(hd x y e).1) (λno=>bk _ _ _ (hf λss ws e hw _ _=>no _ ws e hw)) λx ws e hw=>?_;subst e;obtain⟨_,ss,rfl,h99,ha⟩:=hd _ _ rfl;unfold iJ;refine Nw hS h99 ha hM (λhb=>?_) λi hb=>bk _ _ _ (hf λss' ws' e hw' hb' _=>?_)
 .
  have hQ:cW R (og R ps ss):=(Il ss 0 ps ⟨hS,hM.1,hM.2.1,hM.2.2.1,hM.2.2.2⟩ ha hb).ok;unfold iI;refine KM hQ ?_;unfold iH;refine KN hQ (λhc=>?_) λhc=>bk _ _ _ (hf λss' ws' e hw' hb' hc'=>?_)
  .
   unfold iG;walk_at "w";obtain⟨p1,p2⟩:=A2 hQ;refine⟨R,_,_,ws,rfl,hQ.len,hw,p1,hQ.ok.few,?_⟩;have ht:=ht ss ws;generalize og R ps ss=qs at *
   cases e:(List.range R.asks.length).all (Sw R qs (Sl R qs) ws)with
   | false =>
    walk_at "w";obtain⟨os,op,ow⟩:=Nv R (Sl R qs);have:=ht os rfl hw hb hc op ow;rw[e,Wz]at this;exact bk _ _ _ this
   | true =>
    walk_at "w";refine⟨R,_,_,ws,rfl,hQ,hw,p1,p2,λos op ow=>?_⟩;have:=ht os rfl hw hb hc op ow;rw[e,Wx]at this;exact bk _ _ _ this
  . obtain rfl:=zB e;exact hc hc'
 . obtain rfl:=zB e;rw[hb]at hb';cases hb'
def gB:FS:=λls so=>∃(R:aL)(ps:List Rat),ls=[.d (aH R),.d (.lst (ps.map Rl))]/\cW R ps /\
 ∀(a:Addr)(os:List Nat),os.Perm (cB R ps)->os.Pairwise (λi j=>Sq R i<=Sq R j)->so (.own a ((Su R ps (bI R (cB R ps)) 0 (Sv R ps) os).map fV)) ls
def jC:W Fl:=(aV (tE 3 (aj 6) (aB dS (ar (aj 0) (ar (aj 6) aI))))
  (aV (Q4 (aO (aB dO (ar (aj 4) (ar (bG (aB i6 (ar (aj 5) (ar (bG (aB fW (ar (aj 0) (ar (aj 1) (ar (aj 6) (ar (dH 3 (wD 3 (aj 6)) (av aJ (aj 3) (aj 6))) aI)))))) aI)))) aI)))) (tE 3 (aj 6) (aB ky (ar (dH 3 (wD 3 (aj 6)) (av aJ (aj 3) (aj 6))) aI))) cw)
  (bL 5 (bG (aB i6 (ar (aj 5) (ar (bG (aB fW (ar (aj 0) (ar (aj 1) (ar (aj 6) (ar (dH 3 (wD 3 (aj 6)) (av aJ (aj 3) (aj 6))) aI)))))) aI)))))))
def jD:W L:=(aB eO (ar (aj 0) (ar (aj 1) aI)))
def ij:W Fl:=(aV (bL 2 (bG (aB bC (ar (aj 0) (ar (aj 1) aI)))))
  (aV (bL 3 (lx 2 [] (Mf (av aJ (aj 0) (wC (.int 1))) (aj 1)) (eX [0,1]) ma jD))
  (aV (bL 4 (bG (aB bZ (ar (aj 0) (ar (aj 2) aI)))))
  (aV (bL 5 (wC (.tup [(.int 0),(.int 1)])))
  (aV (pY (wx (aB cn (ar (aj 0) (ar (aj 2) aI)))) (bp 6) jC)
  (bO (mY 3)))))))
theorem qh:∀ls so,ls.length=2->gB ls so->ij (ls++List.replicate 5 .un) (aP ls so):=by
 rintro ls so - ⟨R,ps,rfl,hS,h⟩;have hl:=hS.len;have few:=hS.ok.few;have prb:∀p∈ps,RB 1800 p:=λp hp=>by obtain⟨i,hi,rfl⟩:=VF hp;rw[<- bj hi];exact hS.rb hi
 unfold ij;walk_at "w";refine⟨R,ps,1800,rfl,hS.ok,hl,prb,x_,λa0=>?_⟩;walk_at "w";have e:Cb (R.asks.map iy) (ps.map Rl)=(R.asks.zip ps).map λx=>D.tup [iy x.1,Rl x.2]:=by unfold Cb;rw[List.zip_map,VM];rfl
 rw[e];refine⟨by rw[U4,Vy];exact U8 (show min R.asks.length ps.length<=20 by omega) x_,?_⟩;refine qV (h:=λx=>fV (decide (x.2=x.1.size))) _ _ _ _ (λx hx Q q=>?_) λl m a=>?_
 . unfold jD;walk_at "w";exact⟨_,_,rfl,q⟩
 have hkp:∀k∈cB R ps,k<ps.length:=λk hk=>by unfold cB at hk;simpa using(V3.mp hk).1
 have pl:(cB R ps).length<=20:=by unfold cB;refine U8 (V8 _ _) ?_;rw[Vu];omega
 have hkr:∀k∈cB R ps,k<R.asks.length:=λk hk=>by have:=hkp k hk;omega
 refine⟨R,_,rfl,hS.ok,hkr,?_⟩;refine⟨R,_,rfl,pl,hkr,λb os op ow=>?_⟩;walk_at "w";have h:=h a os op ow;have hko:∀k∈os,k<R.asks.length:=λk m=>hkr k (op.mem_iff.mp m);have hol:os.length<=20:=by rw[op.length_eq];exact pl
 have hb:=EF hS.ok hkr;obtain⟨M,d0,d1,da,dp⟩:=hS.cd;have en:(R.asks.zip ps).map (λx=>fV (decide (x.snd=x.fst.size)))=(Sv R ps).map fV:=by unfold Sv;rw[VM];rfl
 rw[en];have nl:(Sv R ps).length=R.asks.length:=by unfold Sv;rw[U4,Vy];omega
 generalize bI R (cB R ps)=hf at hb h ⊢;refine dJ _ (λj Z=>∃(t:Rat)(ws:List Bool)(x:L),Z=[.d (aH R),.d (.lst (ps.map Rl)),.d (.lst ((cB R ps).map λ(k:Nat)=>D.int (k:Int))),.own a (ws.map fV),.d (Rl hf),.d (Rl t),x]/\ws.length=R.asks.length/\RB (5704*j+1) t/\t.den∣M/\Su R ps hf t ws (os.drop j)=Su R ps hf 0 (Sv R ps) os) _ ⟨0,_,_,rfl,nl,RB.zero,⟨M,(Nat.one_mul M).symm⟩,rfl⟩ ?_ ?_
 .
  rintro j x Z hj ⟨t,ws,x6,rfl,wl,ht,td,e⟩ Q h1 h2 h3 h4;rw[Vf]at hj
  have hj':j<os.length:=by
   rcases Nat.lt_or_ge j os.length with q|q
   . exact q
   . rw[Wu q]at hj;exact absurd hj v6
  rw[tu hj']at hj;cases hj;have hk':=hko _ (U3 hj');rw[VD hj']at e;generalize os[j]=k at hk' e ⊢;have hkp:k<ps.length:=by omega
  have gr:=λw=>EG hS hkp w;have gd:=λw=>A1 hl d0 da dp hkp w;have sr:=λw=>ht.add (gr w);have sd:=λw=>rf d0 td (gd w);have b6:5704*(j+1)+1<=114081:=by omega
  have tn:∀w,t.den*(cz R ps k w).den<2^9000:=λw =>
   U2 (bo (Ve (Wy d0 td) d1) (Ve (Wy d0 (gd w)) d1)) (Vg x_ x_)
  have kl:k<ws.length:=by omega
  have ix:∀{n:Nat},k<n->QG n (k:Int)=some k:=λ{n} hn=>by unfold QG;rw[if_pos (by omega),if_pos (by omega),VB]
  have st:∀(us:List Bool)(w:Bool),(us.map fV).set k (.str (fK w))=(us.set k w).map fV:=λus w=>by rw[List.map_set];rfl
  have at1:∀(us:List Bool)(w:Bool),k<us.length->QH ((us.set k w).map fV) (k:Int)=some (fV w):=λus w hu=>by rw[aR (by rw[Wc];exact hu),List.getElem_set_self]
  have pls:∀(w:Bool)(so:L->List L->Prop),so (.d (Rl (t+cz R ps k w))) [.d (Rl t),.d (Rl (cz R ps k w))]->i6 [.d (Rl t),.d (Rl (cz R ps k w))] so:=λw so q=>⟨t,_,rfl,ht.mono xL,(gr w).mono x_,tn w,q⟩;have gns:∀(w:Bool)(so:L->List L->Prop),so (.d (Rl (cz R ps k w))) [.d (aH R),.d (.lst (ps.map Rl)),.d (.int (k:Int)),.d (fV w)]->fW [.d (aH R),.d (.lst (ps.map Rl)),.d (.int (k:Int)),.d (fV w)] so:=λw so q=>⟨R,ps,k,w,rfl,hk',hkp,(hS.sz_rb hkp).mono x_,(hS.rb hkp).mono x_,q⟩;have e:Su R ps hf (t+cz R ps k (Ss R ps hf t k)) (ws.set k (Ss R ps hf t k)) (os.drop (j+1))=_:=e;unfold jC;walk_at "w";refine⟨R,k,rfl,hk',?_⟩;dsimp only;refine⟨k,ix kl,?_⟩;rw[st];refine⟨_,at1 _ _ kl,gns _ _ (pls _ _ ⟨hf,_,rfl,hb.mono x_,(sr _).mono xL,?_⟩)⟩;dsimp only;by_cases c:hf<t+cz R ps k (tI R k)
  . have ew:Ss R ps hf t k=!tI R k:=if_pos c;rw[ew]at e;rw[if_pos (Vm c)];refine⟨_,at1 _ _ kl,_,rfl,?_⟩;dsimp only;refine⟨k,ix (by simpa using kl),?_⟩;rw[st];refine⟨_,at1 _ _ (by simpa using kl),gns _ _ (pls _ _ ?_)⟩;rw[WK];exact h1 _ ⟨_,_,_,rfl,by rw[Wc];exact wl,(sr _).mono xL,sd _,e⟩
  . have ew:Ss R ps hf t k=tI R k:=if_neg c;rw[ew]at e;rw[if_neg (by rw[Va c];decide)];refine⟨_,at1 _ _ kl,gns _ _ (pls _ _ ?_)⟩;exact h1 _ ⟨_,_,_,rfl,by rw[Wc];exact wl,(sr _).mono xL,sd _,e⟩
 . rintro Z ⟨t,ws,x,rfl,_,_,_,e⟩;rw[U4,W6]at e;have e:ws=_:=e;walk_at "w";rw[<- e]at h;exact⟨_,ai (ai aM),h⟩
def eQ:FS:=λls so=>∃(R:aL)(ps:List Rat),ls=[.d (aH R),.d (.lst (ps.map Rl))]/\cW R ps /\
 ∀(a b:Addr)(os:List Nat),os.Perm (cB R (dj R 20 ps))->os.Pairwise (λi j=>Sq R i<=Sq R j) ->
  so (.bx none [.own a ((nF R 20 ps).map R7),.own b ((Su R (dj R 20 ps) (bI R (cB R (dj R 20 ps))) 0 (Sv R (dj R 20 ps)) os).map fV)]) ls
def jf:W Fl:=(aV (bL 2 (aB fR (ar (aj 0) (ar (aj 1) aI))))
  (bO (JY 2 (wu 2 (ar (aB gB (ar (aj 0) (ar (bG (F7 2 (qT dE (λ_=>False) (ar (aj 0) (ar (aj 1) (ar (aj 2) aI)))))) aI))) aI)))))
theorem sE:∀ls so,ls.length=2->eQ ls so->jf (ls++List.replicate 1 .un) (aP ls so):=by
 rintro ls so - ⟨R,ps,rfl,hS,h⟩;obtain⟨M,d0,d1,da,dp⟩:=hS.cd;have hD:UG R ps M:=⟨hS,d0,d1,da,dp⟩;obtain⟨r1,r2,r3⟩:=sy 20 0 ps hD;unfold jf;walk_at "w";refine⟨R,ps,rfl,hS,λa=>?_⟩;walk_at "w";have len:((nF R 20 ps).map R7).length<=99:=by rw[U4];refine U8 (y3 20 ps hS) (U8 (V8 _ _) ?_);rw[Vu,hS.len];exact U8 hS.ok.few x_
 refine⟨R,ps,_,M,rfl,hS,len,λd hd s es=>?_,⟨d0,d1,da,dp⟩,λ_ b=>?_,λi hi=>?_⟩
 . obtain⟨u,hu,rfl⟩:=VO.mp hd;rw[ml]at es;cases es;exact xN 20 ps hD _ hu
 . rw[r2];refine⟨by walk_at "w",?_⟩;refine⟨R,dj R 20 ps,rfl,r3.ok,λc os op ow=>?_⟩;exact⟨x_,⟨_,_,rfl⟩,_,ai (ai aM),h a c os op ow⟩
 . rw[r1]at hi;cases hi
noncomputable def pQ(R:aL)(ps:List Rat)(ws:List Bool)(t:Nat):Rat:=aZ R.n R.asks (bz R.asks ws) t-aZ R.n R.asks ps t
def jg:FS:=λls so=>∃(R:aL)(ps:List Rat)(ws:List Bool),ls=[.d (aH R),.d (.lst (ps.map Rl)),.d (.lst (ws.map λw=>D.str (fK w)))]/\cW R ps/\ws.length=R.asks.length/\∀a,so (.own a (RU R.n (pQ R ps ws))) ls
def pR:W L:=(aB cZ (ar (aj 0) (ar (aj 1) aI)))
def o8:W Fl:=(aV (bL 3 (bG (aB i8 (ar (aj 0) (ar (bG (aB iF (ar (aj 0) (ar (aj 2) aI)))) aI)))))
  (bO (lx 2 [] (Mf (aj 3) (aB i8 (ar (aj 0) (ar (aj 1) aI)))) (eX [0,1]) ma pR)))
theorem B0{R:aL}{ws:List Bool}(h:ws.length=R.asks.length){k:Nat}(hk:k<R.asks.length):(bz R.asks ws).getD k 0=if ws.getD k true then R.sz k else 0:=by unfold bz;rw[U0,Vf,tu (by rw[Vy];omega),V1,jL hk,U0,tu (show k<ws.length by omega)];rfl
theorem pS{R:aL}{ws:List Bool}(h:ws.length=R.asks.length):(bz R.asks ws).length=R.asks.length:=by unfold bz;rw[U4,Vy];omega
theorem Hr{R:aL}{qs:List Rat}{ws:List Bool}(hS:cW R qs)(h:ws.length=R.asks.length):cW R (bz R.asks ws):=by
 obtain⟨D,d0,d1,da,dp⟩:=hS.cd;refine⟨hS.ok,pS h,λk hk=>?_,D,d0,d1,da,λp hp=>?_⟩
 .
  rw[pS h]at hk;rw[B0 h hk];have:=hS.lo k (by rw[hS.len];exact hk);have s0:=WJ this.1 this.2;split
  . exact⟨s0,W9⟩
  . exact⟨W9,s0⟩
 .
  unfold bz at hp;obtain⟨x,hx,rfl⟩:=VO.mp hp;have:=da x.1 (List.of_mem_zip hx).1;split
  . exact this
  . exact Nat.one_dvd _
theorem OP{R:aL}{qs:List Rat}(h:cW R qs):LB R qs:=by
 obtain⟨N,d0,d1,da,dp⟩:=h.cd;have hl:=h.len
 have st:∀(k:Nat)(h1:k<R.asks.length)(h2:k<qs.length)(t:Nat),RB 4100 (mf R.n R.asks[k] qs[k] t)/\(mf R.n R.asks[k] qs[k] t).den∣N:=λk h1 h2 t=>by
  have a:=h.rb h2;have b:=h.sz_rb h2;rw[bj h2]at a;rw[jL h1]at b;unfold mf;split
  . exact⟨a.mono x_,dp _ (U3 h2)⟩
  . exact⟨(b.sub a).mono x_,mi d0 (da _ (U3 h1)) (dp _ (U3 h2))⟩
 refine⟨λp hp=>?_,λk t=>((xi h).1 k t).mono x_,λk h1 h2 t=>(st k h1 h2 t).1,λt=>.inr ⟨N,d0,U2 d1 (Vg x_ x_),λq hq=>?_⟩⟩
 . obtain⟨k,hk,rfl⟩:=VF hp;rw[<- bj hk];exact(h.rb hk).mono x_
 . obtain⟨x,hx,rfl⟩:=VO.mp hq;obtain⟨k,hk,rfl⟩:=VF hx;rw[Vy]at hk;rw[V1];exact(st k xL xL t).2
theorem xO:∀ls so,ls.length=3->jg ls so->o8 (ls++List.replicate 1 .un) (aP ls so):=by
 rintro ls so - ⟨R,ps,ws,rfl,hS,hw,h⟩;have hR:=hS.ok;have hhi:=hR.hi;have hfew:=hR.few;have hW:=Hr hS hw;have lb:∀{qs:List Rat},cW R qs->LB R qs:=λ{qs} h=>OP h;unfold o8;walk_at "w";refine⟨R,ws,rfl,hfew,hw,λa1=>?_⟩;refine⟨R,_,rfl,hR,hW.len,lb hW,λa2=>?_⟩;walk_at "w";refine⟨R,ps,rfl,hR,hS.len,lb hS,λa3=>?_⟩;walk_at "w";rw[Km];refine⟨by rw[U4,Vu];exact U8 hhi x_,?_⟩;have hf:=(xi hS).2;have hg:=(xi hW).2;refine qV (h:=λt=>Rl (pQ R ps ws t)) _ _ _ _ (λt ht Q q=>?_) λl' m' a=>?_
 . unfold pR;walk_at "w";refine eZ ((hg t).mono x_) ((hf t).mono xL) ?_;walk_at "w";exact q
 . walk_at "w";exact⟨_,ai (ai (ai aM)),h a⟩
def cL:FS:=λls so=>∃(ns:List Int)(k:Int),ls=[.d (.lst (ns.map .int)),.d (.int k)]/\0<=k/\k<=100/\∀a xs,ye xs->so (.own a xs) ls
def kG:W Fl:=(aV (bL 2 (wC (.int 0)))
  (aV (Q4 (aO (av uI (aj 1) (bq dX (ar (aj 0) aI)))) (bL 2 (av aJ (aj 0) (aj 1))) cw)
  (bO (uG (ar (aj 2) (ar (av iT (av fg (av fg (av iT (aj 2) (wC (.int 2147483587))) (av bM (av bM (wC (.int 48271)) (aj 1)) (aj 1))) (wC (.int 13))) (wC (.int 2147483587))) (ar (av LR (aj 2) (av Bq (wC (.int 10)) (wC (.int 18)))) aI)))))))
theorem tP:∀ls so,ls.length=2->cL ls so->kG (ls++List.replicate 1 .un) (aP ls so):=by
 rintro ls so - ⟨ns,k,rfl,h0,h1,h⟩;unfold kG
 have Qm:∀(c:Int)(Z:Ev)(e:Z=[.d (.lst (ns.map .int)),.d (.int k),.d (.int c)]),∀a:Addr,aP [.d (.lst (ns.map .int)),.d (.int k)] so (.rt (.own a [.int c,.int ((c.fmod 2147483587+48271*k*k+13).fmod 2147483587),.bl (decide ((10:Int)^18<=c))])) Z:=λc Z e a=>by
  refine⟨_,ai (ai aM),h a _ ⟨_,_,_,rfl,?_,?_⟩⟩
  . rw[V0 _ x_];exact Int.emod_nonneg _ x_
  . rw[V0 _ x_];have:=Int.emod_lt_of_pos (c.fmod 2147483587+48271*k*k+13) (b:=2147483587) x_;omega
 have hb1:cT 48271:=bV x_;have hb2:cT k:=bV (Ve (show k.natAbs<=100 by omega) x_);have hb3:cT (48271*k):=bV (Ve (show(48271*k).natAbs<=4827100 by omega) x_);walk_at "w"
 try rw[U4]
 split
 .
  rename_i hk;have hk:k<(ns.length:Int):=by simpa using hk
  have hi:k.toNat<ns.length:=by omega
  refine⟨.int ns[k.toNat],MP h0 (by rw[Vf,tu hi];rfl),?_⟩;exact⟨x_,hb1,hb2,hb3,hb2,x_,x_,x_,x_,x_,Qm _ _ rfl⟩
 . exact⟨x_,hb1,hb2,hb3,hb2,x_,x_,x_,x_,x_,Qm _ _ rfl⟩
def bg:FS:=λls so=>∃(a:Addr)(xs:List D)(m:Int),ls=[.own a xs,.d (.int m)]/\ye xs/\0<m/\m<=10^60/\∀(r:Int)(ys:List D),ye ys->0<=r->r<m->so (.d (.int r)) [.own a ys,.d (.int m)]
def jh:W Fl:=(aV (tE 0 (wC (.int 1)) (av iT (av fg (av bM (dH 0 (wD 0 (wC (.int 1))) (av aJ (aj 0) (wC (.int 1)))) (wC (.int 39373))) (wC (.int 17))) (wC (.int 2147483647))))
  (bL 3 (bG (av fg (av bM (aj 3) (wC (.int 2147483629))) (av iT (av bM (dH 0 (wD 0 (wC (.int 1))) (av aJ (aj 0) (wC (.int 1)))) (dH 0 (wD 0 (wC (.int 1))) (av aJ (aj 0) (wC (.int 1))))) (wC (.int 2147483629)))))))
def mN:W Fl:=(aV (Q4 (aO (dH 0 (wD 0 (wC (.int 2))) (av aJ (aj 0) (wC (.int 2))))) (aV (bL 2 (av iT (dH 0 (wD 0 (wC (.int 0))) (av aJ (aj 0) (wC (.int 0)))) (aj 1)))
  (aV (tE 0 (wC (.int 0)) (av uH (dH 0 (wD 0 (wC (.int 0))) (av aJ (aj 0) (wC (.int 0)))) (aj 1)))
  (aV (tE 0 (wC (.int 2)) (av LQ (dH 0 (wD 0 (wC (.int 0))) (av aJ (aj 0) (wC (.int 0)))) (wC (.int 0))))
  (bO (mY 2))))) cw)
  (aV (bL 3 (wC (.int 0)))
  (aV (pY (qL (av fg (wC (.int 1)) (av bM (wC (.int 8)) (bq CY (ar (av LQ (aj 1) (av Bq (wC (.int 10)) (wC (.int 6)))) aI))))) (bp 4) jh)
  (bO (av iT (av uH (aj 3) (wC (.int 64))) (aj 1))))))
theorem xP{a:Addr}{c:Int}{m x2:L}{so:Fl->Ev->Prop}:∀(items:List D)(sd dr:Int)(j:Nat)(x4:L),j+items.length<=100->0<=sd->sd<2147483647->0<=dr->dr<2^(40*j) ->
  (∀sd' dr' x',0<=sd'->sd' < 2147483647->0<=dr'->so .nx [.own a [.int c,.int sd',.bl false],m,x2,.d (.int dr'),x']) ->
  dh (bp 4) jh items [.own a [.int c,.int sd,.bl false],m,x2,.d (.int dr),x4] so
 |[],sd,dr,j,x4,_,h0,h1,h2,h3,h=>h sd dr x4 h0 h1 h2
 | y::items,sd,dr,j,x4,hl,h0,h1,h2,h3,h=>by
  unfold dh jh;walk_at "w";obtain⟨r0,r1⟩:=nC (sd*39373+17) (m:=2147483647) x_;generalize (sd*39373+17).fmod 2147483647=s' at r0 r1 ⊢;obtain⟨q0,q1⟩:=nC (s'*s') (m:=2147483629) x_;generalize (s'*s').fmod 2147483629=t' at q0 q1 ⊢;have hl':j+(items.length+1)<=100:=hl;have b1:cT sd:=yI (n:=40) h0 xL x_;have b2:cT s':=yI (n:=40) r0 xL x_;have b3:cT dr:=yI (n:=40*j) h2 h3 xL;have b4:cT 39373:=bV x_;have b5:cT 2147483629:=bV x_;refine⟨b1,b4,x_,b3,b5,b2,b2,x_,?_⟩;refine xP items s' (dr*2147483629+t') (j+1) _ xL r0 r1 xL ?_ h;have e:(2:Int)^(40*(j+1))=2^(40*j)*1099511627776:=by rw[Nat.mul_succ,Int.pow_add];rfl
  omega
theorem vE:∀ls so,ls.length=2->bg ls so->mN (ls++List.replicate 3 .un) (aP ls so):=by
 rintro ls so - ⟨a,xs,m,rfl,⟨c,sd,t,rfl,h0,h1⟩,hm,hM,h⟩;unfold mN;have hm0:m≠0:=by omega
 have hmz:=wZ xL hM
 cases t with
 | true =>
  walk_at "w";obtain⟨r0,r1⟩:=nC c hm;exact⟨hm0,hm0,hmz,_,qo UZ (ai aM),h _ _ ⟨_,_,_,rfl,h0,h1⟩ r0 r1⟩
 | false =>
  walk_at "w";refine⟨x_,x_,x_,bV x_,bV (by split<;>decide),⟨by split<;>decide,by split<;>decide⟩,?_⟩;refine xP (c:=c) _ sd 0 0 _ (by simp only[sV,U4,Vu];split<;>decide) h0 h1 x_ x_ λsd' dr' x' g0 g1 g2=>?_;walk_at "w";obtain⟨r0,r1⟩:=nC (dr'.fdiv 64) hm;exact⟨x_,x_,hm0,_,qo UZ (ai aM),h _ _ ⟨_,_,_,rfl,g0,g1⟩ r0 r1⟩
def dB:FS:=λls so=>∃t b:Int,ls=[.d (.int t),.d (.int b)]/\b≠0/\b.natAbs<2^9000/\so (.d (Rl (Rat.divInt t b))) ls
def pT:W Fl:=(NH 2 3 (av iT (aj 3) (aj 2)) (aj 2))
def o9:W Fl:=(aV (bL 2 (bG (bq Br (ar (aj 0) aI))))
  (aV (bL 3 (bG (bq Br (ar (aj 1) aI))))
  (aV (t7 (aO (av uK (aj 2) (wC (.int 0)))) pT)
  (aV (Q4 (aO (av uI (aj 1) (wC (.int 0)))) (bL 3 (av pZ (wC (.int 0)) (aj 3))) cw)
  (bO (oy (ar (av uH (aj 0) (aj 3)) (ar (av uH (aj 1) (aj 3)) aI))))))))
theorem xQ:∀ls so,ls.length=2->dB ls so->o9 (ls++List.replicate 2 .un) (aP ls so):=by
 rintro ls so - ⟨t,b,rfl,hb,hz,h⟩;unfold o9;walk_at "w";have h1:=Aa (t:=t) hb;have h2:=Ve (Ab (t:=t) hb) hz
 have Qm:∀{g:Int}{Z:Ev},g=cN t b->g≠0/\g.natAbs<2^9000/\g≠0/\g.natAbs<2^9000/\2<=sizeLine/\aP [.d (.int t),.d (.int b)] so (.rt (.d (.tup [.int (t.fdiv g),.int (b.fdiv g)]))) Z:=λ{g Z} e=>by
  have e1:g≠0:=by rw[e];exact h1
  have e2:g.natAbs<2^9000:=by rw[e];exact h2
  refine⟨e1,e2,e1,e2,x_,_,ai (ai aM),?_⟩;rw[As hb e];exact h
 refine⟨λn Z=>∃x y:Int,Z=[.d (.int t),.d (.int b),.d (.int x),.d (.int y)]/\0<=x/\0<=y/\Int.gcd x y=Int.gcd t b/\n=x.natAbs,⟨_,_,_,rfl,by split<;>omega,by split<;>omega,?_,rfl⟩,?_⟩
 .
  have e1:(if t<0 then -t else t)=(t.natAbs:Int):=by split<;>omega
  have e2:(if b<0 then -b else b)=(b.natAbs:Int):=by split<;>omega
  rw[e1,e2];simp[Int.gcd]
 .
  rintro n Z ⟨x,y,rfl,x0,y0,hg,rfl⟩;unfold pT;walk_at "w";split
  .
   rename_i hx;have hx:x≠0:=by simpa using hx
   refine⟨hx,_,lG y hx,_,_,rfl,(nC y xL).1,x0,?_,rfl⟩;rw[Int.gcd_comm,z9,Int.gcd_comm];exact hg
  .
   rename_i hx;have hx:x=0:=by simpa using hx
   subst hx;have hy:y=(Int.gcd t b:Int):=by rw[<- hg,Int.gcd_zero_left];omega
   split
   . rename_i hlt;exact Qm (by simp[cN,hlt,hy])
   . rename_i hlt;exact Qm (by simp[cN,hlt,hy])
def eR:FS:=λls so=>∃(a:Addr)(xs:List D)(least kind:Int),ls=[.own a xs,.d (.int least),.d (.int kind)]/\ye xs/\0<=least/\least<=1/\0<=kind/\kind<5 /\
 ∀(q:Rat)(ys:List D),ye ys->0<=q->(least=1->0<q)->RB 60 q->so (.d (Rl q)) [.own a ys,.d (.int least),.d (.int kind)]
def kH:W Fl:=(bO (aB dB (ar (aj 4) (ar (aj 3) aI))))
def kI:W Fl:=(aV (bL 4 (bG (av fg (aj 1) (fF bg 0 0 (wu 0 (ar (av aJ (uG (ar (wC (.int 3)) (ar (wC (.int 10)) (ar (wC (.int 10)) (ar (wC (.int 40)) (ar (av Bq (wC (.int 10)) (wC (.int 12))) aI)))))) (aj 2)) aI))))))
  kH)
def ji:W Fl:=(aV (bL 3 (bG (av fg (wC (.int 1)) (fF bg 0 0 (wu 0 (ar (av aJ (uG (ar (wC (.int 1)) (ar (wC (.int 1)) (ar (wC (.int 4)) (ar (wC (.int 12)) (ar (wC (.int 12)) aI)))))) (aj 2)) aI))))))
  kI)
theorem EK{t b:Int}(h0:0<=t)(h1:t<2^59)(h2:0<b)(h3:b<2^59):0<=Rat.divInt t b/\(0<t->0<Rat.divInt t b)/\RB 60 (Rat.divInt t b):=by
 have e:=Rat.divInt_nonneg (a:=t) (b:=b) h0 xL;refine⟨e,λht=>?_,RB.of_divInt xL ?_ ?_⟩
 .
  refine Rat.lt_of_le_of_ne e λz=>?_;have:Rat.divInt 0 1=Rat.divInt t b:=by rw[<- z];rfl
  rw[Rat.divInt_eq_divInt_iff x_ xL]at this;omega
 .
  have:(2:Int)^59=((2^59:Nat):Int):=by decide
  have:(2:Nat)^59<2^60:=by decide
  omega
 .
  have:(2:Int)^59=((2^59:Nat):Int):=by decide
  have:(2:Nat)^59<2^60:=by decide
  omega
theorem OQ{k:Int}(h0:0<=k)(h1:k<5):∃m:Int,QH [D.int 1,.int 1,.int 4,.int 12,.int 12] k=some (.int m)/\1<=m/\m<=12:=by
 obtain rfl|rfl|rfl|rfl|rfl:k=0∨k=1∨k=2∨k=3∨k=4:=by omega
 all_goals exact⟨_,rfl,x_,x_⟩
theorem OR{k:Int}(h0:0<=k)(h1:k<5):∃m:Int,QH [D.int 3,.int 10,.int 10,.int 40,.int (10^12)] k=some (.int m)/\1<=m/\m<=10^12:=by
 obtain rfl|rfl|rfl|rfl|rfl:k=0∨k=1∨k=2∨k=3∨k=4:=by omega
 all_goals exact⟨_,rfl,x_,x_⟩
theorem sF:∀ls so,ls.length=3->eR ls so->ji (ls++List.replicate 2 .un) (aP ls so):=by rintro ls so - ⟨a,xs,least,kind,rfl,hx,l0,l1,k0,k1,h⟩;obtain⟨m1,e1,m10,m11⟩:=OQ k0 k1;obtain⟨m2,e2,m20,m21⟩:=OR k0 k1;unfold ji;walk_at "w";refine⟨x_,λ_=>⟨_,e1,a,xs,m1,rfl,hx,xL,xL,λr ys hy r0 r1=>⟨ys,rfl,?_⟩⟩⟩;unfold kI;walk_at "w";refine⟨x_,x_,x_,x_,λ_=>⟨_,e2,a,ys,m2,rfl,hy,xL,xL,λs zs hz s0 s1=>⟨zs,rfl,?_⟩⟩⟩;unfold kH;walk_at "w";obtain⟨a1,a2,a3⟩:=EK (t:=least+s) (b:=1+r) xL xL xL xL;exact⟨_,_,rfl,xL,wZ xL xL,_,qo v6 (ai (ai aM)),h _ zs hz a1 (λe=>a2 xL) a3⟩
structure Nx (R:aL):Prop where
 ok:R.Ok
 nm:∀a∈R.asks,Fg a.nm/\RB 60 a.size
 n12:R.n=12
def kJ:FS:=λls so=>∃ns:List Int,ls=[.d (.lst (ns.map .int))]/\∀R:aL,Nx R->so (.d (aH R)) ls
def jE:W Fl:=(wq (Jl 4 (oy (ar (bG (av fg (wC (.str "more")) (av aJ (wC (.str "abcd")) (aj 6)))) (ar (aj 9) (ar (aj 10) (ar (bG (fF eR 0 1 (wu 1 (ar (wC (.int 0)) (ar (aj 3) aI))))) aI)))))))
def jF:W Fl:=(aV (bL 10 (av iT (av fg (av fg (aj 9) (wC (.int 1))) (fF bg 0 1 (wu 1 (ar (wC (.int 11)) aI)))) (wC (.int 12))))
  jE)
def jj:W Fl:=(aV (bL 9 (bG (fF bg 0 1 (wu 1 (ar (wC (.int 12)) aI)))))
  jF)
def nO:W Fl:=(bO (oy (ar (bG (Mp (uG (ar (oy (ar (wC (.int 1)) (ar (wC (.int 1)) aI))) aI)) (wC (.int 12)))) (ar (aj 4) aI))))
def nQ:W Fl:=(aV (pY (qL (fF bg 0 1 (wu 1 (ar (wC (.int 5)) aI)))) (bp 6) jj)
  nO)
def fw:W Fl:=(wq (Jl 4 (oy (ar (av aJ (wC (.str "abcdef")) (aj 6)) (ar (dH 8 (wD 8 (wC (.int 0))) (av aJ (aj 8) (wC (.int 0)))) (ar (dH 8 (wD 8 (wC (.int 1))) (av aJ (aj 8) (wC (.int 1)))) (ar (bG (fF eR 0 2 (wu 2 (ar (wC (.int 1)) (ar (aj 3) aI))))) aI)))))))
def jG:W Fl:=(aV (Q4 (aO (av vR (fF bg 0 1 (wu 1 (ar (wC (.int 2)) aI))) (wC (.int 1)))) (wq (JQ 8)) cw)
  fw)
def jH:W Fl:=(aV (bL 8 (uG (ar (aj 7) (ar (bG (av fg (aj 7) (wC (.int 6)))) aI))))
  jG)
def nR:W Fl:=(aV (bL 7 (bG (Du 5 (fF bg 0 1 (wu 1 (ar (bG (dH 5 (Jm 5) (bq dX (ar (aj 5) aI)))) aI))))))
  jH)
def nS:W Fl:=(aV (bL 1 (aB cL (ar (aj 0) (ar (wC (.int 2)) aI))))
  nQ)
def nT:W Fl:=(aV (pY (qL (av fg (wC (.int 1)) (fF bg 0 1 (wu 1 (ar (wC (.int 6)) aI))))) (bp 6) nR)
  nS)
def nU:W Fl:=(aV (bL 5 (Ds (wC (.int 6))))
  nT)
def nV:W Fl:=(aV (bL 4 (uG aI))
  nU)
def nW:W Fl:=(aV (bL 3 (bG (fF bg 0 1 (wu 1 (ar (wC (.int 5)) aI)))))
  nV)
def nX:W Fl:=(aV (bL 2 (aB cL (ar (aj 0) (ar (wC (.int 1)) aI))))
  nW)
def mO:W Fl:=(aV (bL 1 (aB cL (ar (aj 0) (ar (wC (.int 0)) aI))))
  nX)
theorem P1:∀ k:Fin 6,("abcdef" : Str).cps.toList[k.val]?=some (97+k.val):=by decide +kernel
theorem P2:∀ k:Fin 4,("abcd" : Str).cps.toList[k.val]?=some (97+k.val):=by decide +kernel
theorem UH{k:Nat}(h:k<6):Fg ⟨#[97+k]⟩:=by
 refine⟨v6,v6,λc hc=>?_⟩;have:c=97+k:=by simpa using hc
 subst this;unfold qX;omega
theorem UI{k:Nat}(h:k < 4):Fg (Str.ofString "more"++(⟨#[97+k]⟩:Str)):=by
 have e:(Str.ofString "more"++(⟨#[97+k]⟩:Str)).cps.toList=(Str.ofString "more").cps.toList++[97+k]:=by rw[GP]
 refine⟨by rw[e];simp,by rw[e];simp;decide +kernel,λc hc=>?_⟩;rw[e]at hc;rcases Vx.mp hc with hc|hc
 .
  have:∀ d∈(Str.ofString "more").cps.toList,97<=d/\d<=122:=by decide +kernel
  have:=this c hc;unfold qX;omega
 .
  have:c=97+k:=by simpa using hc
  subst this;unfold qX;omega
structure K5 (b:RT):Prop where
 ok:jJ 12 b
 nm:Fg b.nm
 rb:RB 60 b.size
theorem uu{α β:Type}(f:α->β):∀(xs:List α)(k:Nat),(xs.map f).eraseIdx k=(xs.eraseIdx k).map f
 |[],_=>by simp
 |x::xs,0=>rfl
 | x::xs,k+1=>by show f x::(xs.map f).eraseIdx k=f x::(xs.eraseIdx k).map f;rw[uu f xs k]
theorem P4{r s:Int}(r0:0<=r)(r1:r<12)(s0:0<=s)(s1:s<11):∃j:Nat,(r+1+s).fmod 12=j/\j<12/\(j:Int)≠r:=by rw[V0 _ xL];exact⟨((r+1+s) % 12).toNat,xL,xL,xL⟩
theorem Im{S:D}{a b c d e:Addr}{ys us:List D}{as:List RT}{lf:List D}{kd:Int}{j p o:Nat}{x7:L}{Q:Fl->Ev->Prop}(hu:ye us)(k0:0<=kd)(k1:kd<5)(hj:j<6)(hal:as.length=j)(hp:p<12)(ho:o<12)(hpo:p≠o)
  (h:∀(A:RT)(u2:List D),ye u2->K5 A->Q .nx [.d S,.own a ys,.own b u2,.d (.int kd),.own c ((as++[A]).map iy),.own d lf,.d (.int (j:Int)),x7,.own e [.int (p:Int),.int (o:Int)],.un,.un]) :
  fw [.d S,.own a ys,.own b us,.d (.int kd),.own c (as.map iy),.own d lf,.d (.int (j:Int)),x7,.own e [.int (p:Int),.int (o:Int)],.un,.un] Q:=by
 unfold fw;walk_at "w";refine⟨y_,_,hJ (P1 ⟨j,hj⟩),?_⟩;walk_at "w";refine⟨b,us,1,kd,rfl,hu,x_,x_,k0,k1,λq u2 hu2 q0 q1 qb=>⟨u2,rfl,?_⟩⟩;walk_at "w";refine⟨x_,Ve (show as.length<=20 by omega) x_,?_⟩;have:=h ⟨⟨#[97+j]⟩,p,o,q⟩ u2 hu2 ⟨⟨hp,ho,hpo,q0,Az qb,(UH hj).ok⟩,UH hj,qb⟩;rw[Wb]at this;exact this
theorem Ny{S:D}{a c:Addr}{x2 x5 x7 x8 x9 x10:L}{ys:List D}{as:List RT}{kd:Int}{j:Nat}{Q:Fl->Ev->Prop}(hy:ye ys)(k0:0<=kd)(k1:kd<5)(hj:j<4)(hal:as.length<=10)
  (h:∀(A:RT)(y2:List D)(x9 x10:L),ye y2->K5 A->Q .nx [.d S,.own a y2,x2,.d (.int kd),.own c ((as++[A]).map iy),x5,.d (.int (j:Int)),x7,x8,x9,x10]) :
  jj [.d S,.own a ys,x2,.d (.int kd),.own c (as.map iy),x5,.d (.int (j:Int)),x7,x8,x9,x10] Q:=by
 unfold jj;walk_at "w";refine⟨a,ys,12,rfl,hy,x_,x_,λr y1 hy1 r0 r1=>⟨y1,rfl,?_⟩⟩;walk_at "w";unfold jF;walk_at "w";refine⟨a,y1,11,rfl,hy1,x_,x_,λs y2 hy2 s0 s1=>⟨y2,rfl,?_⟩⟩;walk_at "w";obtain⟨o,eo,o1,o2⟩:=P4 r0 r1 s0 s1;obtain⟨p,rfl⟩:=WC r0;refine⟨x_,?_⟩;rw[eo];unfold jE;walk_at "w";have hsz:(Str.ofString "more").length+(⟨#[97+j]⟩:Str).length<=sizeLine:=by rw[show(⟨#[97+j]⟩:Str).length=1 from rfl];decide
 refine⟨y_,_,hJ (P2 ⟨j,hj⟩),?_⟩;walk_at "w";refine⟨hsz,?_⟩;refine⟨a,y2,0,kd,rfl,hy2,x_,x_,k0,k1,λq u2 hu2 q0 q1 qb=>⟨u2,rfl,?_⟩⟩;walk_at "w";refine⟨x_,Ve (show as.length<=20 by omega) x_,?_⟩;have p1:p<12:=by omega
 have p2:p≠o:=by omega
 have:=h ⟨_,p,o,q⟩ u2 (.d (.int (p:Int))) (.d (.int (o:Int))) hu2 ⟨⟨p1,o1,p2,q0,Az qb,(UI hj).ok⟩,UI hj,qb⟩;rw[Wb]at this;exact this
theorem KP{as:List RT}(h:∀b∈as,K5 b)(hl:as.length<=20):Nx ⟨List.replicate 12 1,as⟩:=by
 have hn:aL.n ⟨List.replicate 12 1,as⟩=12:=by unfold aL.n;exact List.length_replicate
 refine⟨⟨by rw[hn];decide,by rw[hn];decide,hl,λq hq=>?_,λb hb=>by rw[hn];exact(h b hb).ok,Ot (λb hb=>(h b hb).rb) hl⟩,λb hb=>⟨(h b hb).nm,(h b hb).rb⟩,hn⟩;rw[(List.mem_replicate.mp hq).2];exact⟨x_,x_,x_⟩
theorem vF:∀ls so,ls.length=1->kJ ls so->mO (ls++List.replicate 10 .un) (aP ls so):=by
 rintro ls so - ⟨ns,rfl,h⟩;unfold mO;walk_at "w";refine⟨ns,0,rfl,x_,x_,λa xs hx=>?_⟩;walk_at "w";unfold nX;walk_at "w";refine⟨ns,1,rfl,x_,x_,λb zs hz=>?_⟩;walk_at "w";unfold nW;walk_at "w";refine⟨a,xs,5,rfl,hx,x_,x_,λkd x1 hx1 k0 k1=>⟨x1,rfl,?_⟩⟩;walk_at "w";unfold nV;walk_at "w";refine⟨x_,λc=>?_⟩;unfold nU;walk_at "w";refine⟨by unfold p8;omega,λd=>?_⟩;unfold nT;walk_at "w";refine⟨a,x1,6,rfl,hx1,x_,x_,λr x2 hx2 r0 r1=>⟨x2,rfl,?_⟩⟩;walk_at "w";refine⟨⟨xL,xL⟩,?_⟩;obtain⟨r',rfl⟩:=WC r0;rw[show(1+(r':Int)).toNat=1+r' by omega,gM,show Int.toNat 6=6 from rfl,gM];refine ui (enc:=λ(i:Nat)=>D.int (i:Int)) (1+r') (λj Z=>∃(ys us:List D)(as:List RT)(lf:List Nat)(x6 x7 x8:L),Z=[.d (.lst (ns.map .int)),.own a ys,.own b us,.d (.int kd),.own c (as.map iy),.own d (lf.map λ(i:Nat)=>D.int (i:Int)),x6,x7,x8,.un,.un]/\ye ys/\ye us/\as.length=j/\lf.length+j=6/\(∀p∈lf,p<6)/\∀b∈as,K5 b) _ ⟨x2,zs,[],List.range 6,_,_,_,rfl,hx2,hz,rfl,rfl,λp hp=>Vl.mp hp,v6⟩ ?_ ?_
 .
  rintro j Z hj ⟨ys,us,as,lf,x6,x7,x8,rfl,hy,hu,hal,hlf,hp,ha⟩ Q h1 h2 h3 h4;have hj6:j<6:=by omega
  unfold nR;walk_at "w";unfold Du;walk_at "w";refine⟨a,ys,(lf.length:Int),rfl,hy,xL,xL,λq y1 hy1 q0 q1=>⟨y1,rfl,?_⟩⟩;obtain⟨q',rfl⟩:=WC q0;have hq:q' < lf.length:=by omega
  have hpq:=hp _ (U3 hq);walk_at "w";refine⟨q',D.int (lf[q']:Int),rfl,xL,by rw[Vf,tu hq];rfl,?_⟩;unfold jH;walk_at "w";refine⟨x_,λe=>?_⟩;unfold jG;walk_at "w";refine⟨a,y1,2,rfl,hy1,x_,x_,λw y2 hy2 w0 w1=>⟨y2,rfl,?_⟩⟩;walk_at "w";rw[show(lf[q']:Int)+6=((lf[q']+6:Nat):Int) by omega,uu]
  have nx:∀(A:RT)(u2:List D)(x6 x7 x8:L),ye u2->K5 A->Q .nx [.d (.lst (ns.map .int)),.own a y2,.own b u2,.d (.int kd),.own c ((as++[A]).map iy),.own d ((lf.eraseIdx q').map λ(i:Nat)=>D.int (i:Int)),x6,x7,x8,.un,.un]:=λA u2 x6 x7 x8 hu2 hA=>by
   refine h1 _ ⟨y2,u2,as++[A],lf.eraseIdx q',_,_,_,rfl,hy2,hu2,by rw[VL,hal];rfl,?_,λp hm=>hp p (List.mem_of_mem_eraseIdx hm),λb hb=>?_⟩
   . rw[List.length_eraseIdx,if_pos hq];omega
   .
    rcases Vx.mp hb with hb|hb
    . exact ha b hb
    . rw[WR.mp hb];exact hA
  split
  . unfold JQ;walk_at "w";exact Im hu k0 k1 hj6 hal xL xL xL λA u2 hu2 hA=>nx A u2 _ _ _ hu2 hA
  . exact Im hu k0 k1 hj6 hal xL xL xL λA u2 hu2 hA=>nx A u2 _ _ _ hu2 hA
 .
  rintro Z ⟨ys,us,as,lf,x6,x7,x8,rfl,hy,hu,hal,hlf,hp,ha⟩;unfold nS;walk_at "w";refine⟨ns,2,rfl,x_,x_,λa2 xs2 hxs2=>?_⟩;walk_at "w";unfold nQ;walk_at "w";refine⟨a2,xs2,5,rfl,hxs2,x_,x_,λr2 x3 hx3 r20 r21=>⟨x3,rfl,?_⟩⟩;walk_at "w";obtain⟨r2',rfl⟩:=WC r20;refine⟨⟨xL,xL⟩,?_⟩;rw[VB];refine Dw _ (λj Z=>∃(ys:List D)(as:List RT)(x6 x9 x10:L),Z=[.d (.lst (ns.map .int)),.own a2 ys,.own b us,.d (.int kd),.own c (as.map iy),.own d (lf.map λ(i:Nat)=>D.int (i:Int)),x6,x7,x8,x9,x10]/\ye ys/\as.length<=6+j/\∀b∈as,K5 b) _ ⟨x3,as,_,_,_,rfl,hx3,xL,ha⟩ ?_ ?_
  .
   rintro j Z hj ⟨ys,as,x6,x9,x10,rfl,hy,hal,ha⟩ Q h1 h2 h3 h4;refine Ny hy k0 k1 xL xL λA y2 x9 x10 hy2 hA=>h1 _ ⟨y2,as++[A],_,_,_,rfl,hy2,by rw[VL];show _+1<=_;omega,λb hb=>?_⟩;rcases Vx.mp hb with hb|hb
   . exact ha b hb
   . rw[WR.mp hb];exact hA
  . rintro Z ⟨ys,as,x6,x9,x10,rfl,hy,hal,ha⟩;unfold nO;walk_at "w";exact⟨x_,x_,λ_=>⟨⟨x_,x_⟩,x_,λ_=>⟨x_,_,ai aM,h ⟨List.replicate 12 1,as⟩ (KP ha xL)⟩⟩⟩
noncomputable def vG(n:Nat)(a:RT)(w:Bool):List Nat:=if w then RV n a.one a.other else RV n a.other a.one
def kK:FS:=λls so=>∃(R:aL)(k:Nat)(w:Bool)(hk:k<R.asks.length),ls=[.d (aH R),.d (.int k),.d (.str (fK w))]/\R.Ok/\∀c,so (.own c ((vG R.n R.asks[k] w).map λ(t:Nat)=>D.int (t:Int))) ls
def jk:W Fl:=(aV (wq (Jl 7 (aj 4)))
  (bL 4 (av iT (av fg (aj 4) (wC (.int 1))) (bq dX (ar (av aJ (aj 0) (wC (.int 0))) aI)))))
def mP:W Fl:=(aV (C1 [3,4,5,6] (av aJ (av aJ (aj 0) (wC (.int 1))) (aj 1)))
  (aV (Q4 (aO (av vR (aj 2) (wC (.str "back")))) (NH 4 5 (aj 5) (aj 4)) cw)
  (aV (bL 7 (uG aI))
  (aV (t7 (aO (av uK (aj 4) (aj 5))) jk)
  (bO (mY 7))))))
theorem tQ{f:Nat->Nat}{s m:Nat}(h:s<m):((List.range m).map f).take (s+1)=((List.range m).map f).take s++[f s]:=by rw[List.take_succ,Vf,WH h];rfl
theorem xR{R:aL}(hR:R.Ok){x1 x2 x3 x6:L}{i j:Nat}(hi:i<R.n)(hj:j<R.n)(c:Addr){so:Fl->Ev->Prop}(Qm:so .nx [.d (aH R),x1,x2,x3,.d (.int j),.d (.int j),x6,.own c ((RV R.n i j).map λ(t:Nat)=>D.int (t:Int))]) :
  t7 (aO (av uK (aj 4) (aj 5))) jk [.d (aH R),x1,x2,x3,.d (.int i),.d (.int j),x6,.own c []] so:=by
 have hhi:=hR.hi;have hlo:=hR.lo;refine⟨λm Z=>∃s,Z=[.d (aH R),x1,x2,x3,.d (.int (((i+s) % R.n:Nat):Int)),.d (.int j),x6,.own c (((RV R.n i j).take s).map λ(t:Nat)=>D.int (t:Int))]/\s<=RW R.n i j/\m=RW R.n i j-s,⟨_,0,by rw[Nat.add_zero,Nat.mod_eq_of_lt hi];rfl,Wn _,rfl⟩,?_⟩;rintro m Z ⟨s,rfl,hs,rfl⟩;have hf:RW R.n i j<R.n:=Xb _ xL;have hfe:=pL hi hj
 have hm:(i+s) % R.n=if i+s<R.n then i+s else i+s-R.n:=nE xL
 walk_at "w";by_cases hne:(i+s) % R.n=j
 .
  have hs':s=RW R.n i j:=by rw[hm]at hne;rw[hfe]at hs ⊢;split at hne<;>split at hs<;>split<;>omega
  rw[if_neg (λz=>z (by rw[hne]))];rw[VU (by rw[AC];omega),hne];exact Qm
 .
  have hs':s<RW R.n i j:=by refine Nat.lt_of_le_of_ne hs λz=>hne ?_;rw[z,hfe]at hm;rw[z,hfe,hm];split<;>split<;>omega
  rw[if_pos (λz=>hne (Int.ofNat_inj.mp z))];unfold jk;walk_at "w";refine⟨?_,xL,?_⟩
  . rw[Wp];exact Ve (Nat.min_le_left _ _) (U2 (show s<12 by omega) x_)
  refine⟨RW R.n i j-(s+1),xL,s+1,?_,hs',rfl⟩;have e1:(RV R.n i j).take (s+1)=(RV R.n i j).take s++[(i+s) % R.n]:=tQ hs';have e2:((((i+s) % R.n:Nat):Int)+1).fmod (R.n:Int)=(((i+(s+1)) % R.n:Nat):Int):=by have:=AB (n:=R.n) (i:=(i+s) % R.n) (s:=1);rw[Nat.mod_add_mod,Nat.add_assoc]at this;exact this
  rw[e1,Wb];rw[e2];rfl
theorem vH:∀ls so,ls.length=3->kK ls so->mP (ls++List.replicate 5 .un) (aP ls so):=by
 rintro ls so - ⟨R,k,w,hk,rfl,hR,h⟩;have ha:=hR.ask _ (U3 hk);unfold mP;walk_at "w";refine⟨iy R.asks[k],aR hk,?_⟩;walk_at "w"
 cases w with
 | true =>
  simp only[Bool.true_eq_false,WX];refine⟨x_,λc=>?_⟩;refine xR hR ha.one ha.other c ?_;walk_at "w";exact⟨_,ai (ai (ai aM)),h c⟩
 | false =>
  simp only[W5];refine⟨x_,λc=>?_⟩;refine xR hR ha.other ha.one c ?_;walk_at "w";exact⟨_,ai (ai (ai aM)),h c⟩
def fS:FS:=λls so=>∃p q:Rat,ls=[.d (Rl p),.d (Rl q)]/\RB 4400 p/\RB 4400 q/\so (.d (Rl (p-q))) ls
def kM:W Fl:=(bO (aB dB (ar (av pZ (av bM (av aJ (aj 0) (wC (.int 0))) (av aJ (aj 1) (wC (.int 1)))) (av bM (av aJ (aj 1) (wC (.int 0))) (av aJ (aj 0) (wC (.int 1))))) (ar (bG (av bM (av aJ (aj 0) (wC (.int 1))) (av aJ (aj 1) (wC (.int 1))))) aI))))
theorem tR:∀ls so,ls.length=2->fS ls so->kM (ls++List.replicate 0 .un) (aP ls so):=by
 rintro ls so - ⟨p,q,rfl,hp,hq,h⟩;unfold kM;walk_at "w";refine⟨hp.bn x_,hq.bd x_,hq.bn x_,hp.bd x_,hp.bd x_,hq.bd x_,_,_,rfl,oH p q,?_,_,ai (ai aM),?_⟩
 . rw[k7];exact U2 (bo hp.2 hq.2) (Vg x_ x_)
 . rw[HQ];exact h
def gR:FS:=λls so=>∃p q:Rat,ls=[.d (Rl p),.d (Rl q)]/\RB 400000 p/\RB 400000 q/\p.den*q.den<2^9000/\so (.d (Rl (p+q))) ls
def mQ:W Fl:=(bO (aB dB (ar (bG (av fg (av bM (av aJ (aj 0) (wC (.int 0))) (av aJ (aj 1) (wC (.int 1)))) (av bM (av aJ (aj 1) (wC (.int 0))) (av aJ (aj 0) (wC (.int 1)))))) (ar (bG (av bM (av aJ (aj 0) (wC (.int 1))) (av aJ (aj 1) (wC (.int 1))))) aI))))
theorem vI:∀ls so,ls.length=2->gR ls so->mQ (ls++List.replicate 0 .un) (aP ls so):=by rintro ls so - ⟨p,q,rfl,hp,hq,hz,h⟩;unfold mQ;walk_at "w";refine⟨hp.bn x_,hq.bd x_,hq.bn x_,hp.bd x_,hp.bd x_,hq.bd x_,_,_,rfl,oH p q,by rw[k7];exact hz,_,ai (ai aM),?_⟩;rw[wO];exact h
theorem EM{p q:Rat}{so:L->List L->Prop}(hp:RB 4400 p)(hq:RB 4400 q)(h:so (.d (Rl (p+q))) [.d (Rl p),.d (Rl q)]):gR [.d (Rl p),.d (Rl q)] so :=
 ⟨p,q,rfl,hp.mono x_,hq.mono x_,U2 (bo hp.2 hq.2) (Vg x_ x_),h⟩
def dU:FS:=λls so=>∃(R:aL)(ps:List Rat),ls=[.d (aH R),.d (.lst (ps.map Rl))]/\cW R ps/\∀a,so (.own a (RU R.n (aZ R.n R.asks ps))) ls
def ik:W Fl:=(tE 2 (aj 7) (aB gR (ar (dH 2 (wD 2 (aj 7)) (av aJ (aj 2) (aj 7))) (ar (aj 6) aI))))
def ip:W Fl:=(pY (wx (aB kK (ar (aj 0) (ar (aj 3) (ar (aj 5) aI))))) (bp 7) ik)
def lM:W Fl:=(pY (wx (uG (ar (oy (ar (wC (.str "on")) (ar (aj 4) aI))) (ar (oy (ar (wC (.str "back")) (ar (bG (aB fS (ar (av aJ (av aJ (av aJ (aj 0) (wC (.int 1))) (aj 3)) (wC (.int 3))) (ar (aj 4) aI)))) aI))) aI)))) (eX [5,6]) ip)
def kN:W Fl:=(aV (bL 2 (Mp (uG (ar (oy (ar (wC (.int 0)) (ar (wC (.int 1)) aI))) aI)) (bq dX (ar (av aJ (aj 0) (wC (.int 0))) aI))))
  (aV (pY (uQ (aj 1)) (eX [3,4]) lM)
  (bO (mY 2))))
theorem KQ{r:aL}{P:D}{c:Addr}{n k:Nat}{x4 x5:L}{f:Nat->Rat}{v:Rat}{so:Fl->Ev->Prop}(T:List Nat)(hT:T.Nodup)(ht:∀t∈T,t<n)(hf:∀t,t<n->RB 4400 (f t))(hv:RB 4400 v)(x7:L)
  (Qm:∀x7,so .nx [.d (aH r),.d P,.own c (RU n λs=>if s∈T then f s+v else f s),.d (.int k),x4,x5,.d (Rl v),x7]) :
  dh (bp 7) ik (T.map λ(t:Nat)=>D.int (t:Int)) [.d (aH r),.d P,.own c (RU n f),.d (.int k),x4,x5,.d (Rl v),x7] so:=by
 refine gL (enc:=λ(t:Nat)=>D.int (t:Int)) T (λpre Z=>∃x7,Z=[.d (aH r),.d P,.own c (RU n λs=>if s∈pre then f s+v else f s),.d (.int k),x4,x5,.d (Rl v),x7]) _ ⟨_,by simp;rfl⟩ ?_ λZ ⟨x7,e⟩=>by rw[e];exact Qm x7
 rintro pre t suf Z hsp ⟨x7,rfl⟩ Q h1 h2 h3 h4;have htn:t<n:=ht t (by rw[hsp];simp);have hni:t∉pre:=by rw[hsp]at hT;intro hm;exact(Vv.mp hT).2.2 t hm t v6 rfl
 unfold ik;walk_at "w";refine⟨_,Ay htn,?_⟩;walk_at "w";rw[if_neg hni];refine EM (hf t htn) hv ?_;walk_at "w"
 have:=MW (n:=n) (f:=λs=>if s∈pre then f s+v else f s) htn
 rw[yQ]at this;refine⟨t,this,?_⟩;rw[J9];refine h1 _ ⟨.d (.int t),?_⟩
 congr 4
 refine w5 λs hs=>?_;by_cases e:s=t
 . subst e;simp
 . simp[e]
theorem A4{n:Nat}{a:RT}(h:jJ n a)(w:Bool){t:Nat}(ht:t<n):t∈vG n a w↔(me n a t == w)=true:=by
 cases w with
 |true=>exact oI h true ht
 | false =>
  have e:vG n a false=(tG n a.one a.other).reverse:=MY h.one h.other h.ne;rw[e,List.mem_reverse];exact oI h false ht
theorem B1{n:Nat}{a:RT}(h:jJ n a)(w:Bool):(vG n a w).Nodup:=by
 cases w with
 |true=>exact AH h.one
 |false=>exact AH h.other
theorem KR{n:Nat}{a:RT}(hn:0<n)(w:Bool){t:Nat}(h:t∈vG n a w):t<n:=by
 cases w with
 |true=>exact MX hn h
 |false=>exact MX hn h
theorem KS(n:Nat)(f:Nat->Rat)(h:∀t,f t=0):(List.replicate n [D.tup [.int 0,.int 1]]).flatten=RU n f:=by
 unfold RU;refine Wo v6 λj h1 h2=>?_
 have e:(List.replicate n [D.tup [.int 0,.int 1]]).flatten=List.replicate n (Rl 0):=by
  clear h1 h2
  induction n with
  |zero=>rfl
  |succ n ih=>rw[VG,VG,WA,ih];rfl
 simp only[e,List.getElem_replicate,W7,h]
theorem tS:∀ls so,ls.length=2->dU ls so->kN (ls++List.replicate 6 .un) (aP ls so):=by
 rintro ls so - ⟨R,ps,rfl,hS,h⟩;have hR:=hS.ok;have hl:=hS.len;have hfew:=hR.few;have hlo:=hR.lo;have hhi:=hR.hi;unfold kN;walk_at "w";have es:(sizeLine:Nat)=16777216:=by decide
 refine⟨x_,x_,λa0=>⟨⟨xL,xL⟩,by rw[VB];omega,λa=>?_⟩⟩;rw[VB,KS R.n (aZ R.n (R.asks.take 0) (ps.take 0)) (λt=>rfl),AJ];refine ui _ (λk Z=>∃x3 x4 x5 x6 x7,Z=[.d (aH R),.d (.lst (ps.map Rl)),.own a (RU R.n (aZ R.n (R.asks.take k) (ps.take k))),x3,x4,x5,x6,x7]) _ ⟨_,_,_,_,_,rfl⟩ ?_ ?_
 .
  rintro k Z hk ⟨x3,x4,x5,x6,x7,rfl⟩ Q h1 h2 h3 h4;have hk2:k<R.asks.length:=by omega
  have ha:=hR.ask _ (U3 hk2);have hpb:RB 1800 ps[k]:=by rw[<- bj hk];exact hS.rb hk
  have hab:RB 1800 R.asks[k].size:=by rw[<- jL hk2];exact hS.sz_rb hk
  have hf:∀t,RB 1900 (aZ R.n (R.asks.take k) (ps.take k) t):=λt=>(xi hS).1 k t;unfold lM;rw[oJ hk];walk_at "w";refine⟨x_,_,aR hk2,?_⟩;walk_at "w";refine⟨_,_,rfl,hab.mono x_,hpb.mono xL,?_⟩;walk_at "w";refine⟨x_,x_,λa4=>?_⟩
  have step:∀(w:Bool)(v:Rat)(f:Nat->Rat)(x5 x6 x7:L)(post':Fl->Ev->Prop),(∀t,t<R.n->RB 4400 (f t))->RB 4400 v->(∀x7,post' .nx [.d (aH R),.d (.lst (ps.map Rl)),.own a (RU R.n λs=>if s∈vG R.n R.asks[k] w then f s+v else f s),.d (.int k),.d (Rl ps[k]),.d (.str (fK w)),.d (Rl v),x7]) ->
    ip [.d (aH R),.d (.lst (ps.map Rl)),.own a (RU R.n f),.d (.int k),.d (Rl ps[k]),.d (.str (fK w)),.d (Rl v),x7] post':=by
   intro w v f x5 x6 x7 post' hf' hv Qm;unfold ip;walk_at "w";refine⟨R,k,w,hk2,rfl,hR,λc5=>?_⟩;walk_at "w";exact KQ _ (B1 ha w) (λt ht=>KR xL w ht) hf' hv _ Qm
  have unf:∀(x y:D)(x5 x6:L)(Z':List L)(post':Fl->Ev->Prop),True:=λ_ _ _ _ _ _=>trivial;unfold dh;rw[nD];walk_at "w";refine step true ps[k] _ .un .un x7 _ (λt _=>(hf t).mono xL) (hpb.mono xL) λx7=>?_;dsimp only;unfold dh;rw[nD];walk_at "w";refine step false (R.asks[k].size-ps[k]) _ .un .un x7 _ (λt _=>?_) ((hab.sub hpb).mono xL) λx7=>?_
  .
   split
   . exact((hf t).add hpb).mono xL
   . exact(hf t).mono xL
  dsimp only;unfold dh
  have ef:(RU R.n λs=>if s∈vG R.n R.asks[k] false then(if s∈vG R.n R.asks[k] true then aZ R.n (R.asks.take k) (ps.take k) s+ps[k]else aZ R.n (R.asks.take k) (ps.take k) s)+(R.asks[k].size-ps[k])else if s∈vG R.n R.asks[k] true then aZ R.n (R.asks.take k) (ps.take k) s+ps[k]else aZ R.n (R.asks.take k) (ps.take k) s)=RU R.n (aZ R.n (R.asks.take (k+1)) (ps.take (k+1))):=by
   refine w5 λt ht=>?_;rw[BL hk2 hk];have m1:=A4 ha true ht;have m2:=A4 ha false ht;unfold mf;cases e:me R.n R.asks[k] t
   . rw[e]at m1 m2;rw[if_pos (by rw[m2];rfl),if_neg (by rw[m1];decide)];rfl
   . rw[e]at m1 m2;rw[if_neg (by rw[m2];decide),if_pos (by rw[m1];rfl)];rfl
  rw[ef];exact h1 _ ⟨_,_,_,_,_,rfl⟩
 . rintro Z ⟨x3,x4,x5,x6,x7,rfl⟩;walk_at "w";rw[VU xL,VU xL];exact⟨_,ai (ai aM),h a⟩
def dW:FS:=λls so=>∃p q:Rat,ls=[.d (Rl p),.d (Rl q)]/\RB 400000 p/\RB 400000 q/\so (.d (.bl (decide (p<q)))) ls
def kO:W Fl:=(bO (av uI (av bM (av aJ (aj 0) (wC (.int 0))) (av aJ (aj 1) (wC (.int 1)))) (av bM (av aJ (aj 1) (wC (.int 0))) (av aJ (aj 0) (wC (.int 1))))))
theorem tT:∀ls so,ls.length=2->dW ls so->kO (ls++List.replicate 0 .un) (aP ls so):=by rintro ls so - ⟨p,q,rfl,hp,hq,h⟩;unfold kO;walk_at "w";refine⟨hp.bn x_,hq.bd x_,hq.bn x_,hp.bd x_,_,ai (ai aM),?_⟩;rw[MQ];exact h
def fz:FS:=λls so=>∃(R:aL)(ks:List Nat),ls=[.d (aH R),.d (.lst (ks.map λ(k:Nat)=>D.int (k:Int)))]/\R.Ok/\(∀k∈ks,k<R.asks.length)/\so (.d (Rl (Sr R ks 0))) ls
def iK:W Fl:=(Q4 (aO (aB dW (ar (aj 2) (ar (av aJ (av aJ (av aJ (aj 0) (wC (.int 1))) (aj 3)) (wC (.int 3))) aI)))) (bL 2 (av aJ (av aJ (av aJ (aj 0) (wC (.int 1))) (aj 3)) (wC (.int 3)))) cw)
def gC:W Fl:=(aV (bL 2 (oy (ar (wC (.int 0)) (ar (wC (.int 1)) aI))))
  (aV (pY (wx (aj 1)) (bp 3) iK)
  (bO (mY 2))))
theorem pd:∀ls so,ls.length=2->fz ls so->gC (ls++List.replicate 2 .un) (aP ls so):=by
 rintro ls so - ⟨R,ks,rfl,hR,hk,h⟩;unfold gC;walk_at "w";refine⟨x_,dJ _ (λj Z=>∃(g:Rat)(x:L),Z=[.d (aH R),.d (.lst (ks.map λ(k:Nat)=>D.int (k:Int))),.d (Rl g),x]/\RB 1540 g/\Sr R (ks.drop j) g=Sr R ks 0) _ ⟨0,_,rfl,RB.zero.mono x_,rfl⟩ ?_ ?_⟩
 .
  rintro j x Z hj ⟨g,x3,rfl,hg,e⟩ Q h1 h2 h3 h4;rw[Vf]at hj
  have hj':j<ks.length:=by
   rcases Nat.lt_or_ge j ks.length with q|q
   . exact q
   . rw[Wu q]at hj;exact absurd hj v6
  rw[tu hj']at hj;cases hj;have hk':=hk _ (U3 hj');have rb:=hR.rb (U3 hk');rw[VD hj']at e
  have e':Sr R (ks.drop (j+1)) (if g<R.sz ks[j]then R.sz ks[j]else g)=Sr R ks 0:=e
  rw[BN hk']at e';unfold iK;walk_at "w";refine⟨_,aR hk',?_⟩;walk_at "w";refine⟨_,_,rfl,hg.mono x_,rb.mono x_,?_⟩;walk_at "w";by_cases c:g<R.asks[ks[j]].size
  . rw[if_pos c]at e' ⊢;refine⟨_,aR hk',?_⟩;walk_at "w";exact h1 _ ⟨_,_,rfl,rb,e'⟩
  . rw[if_neg c]at e' ⊢;exact h1 _ ⟨_,_,rfl,hg,e'⟩
 . rintro Z ⟨g,x,rfl,hg,e⟩;rw[U4,W6]at e;walk_at "w";have e':g=Sr R ks 0:=e;rw[e'];exact⟨_,ai (ai aM),h⟩
def eG:FS:=λls so=>∃(R:aL)(ps:List Rat)(M:Nat)(os:List Nat),ls=[.d (aH R),.d (.lst (ps.map Rl)),.d (.tup [.lst ((nF R 20 ps).map R7),.lst ((Su R (dj R 20 ps) (bI R (Sl R (dj R 20 ps))) 0 (Sv R (dj R 20 ps)) os).map fV)])]/\UG R ps M/\os.Perm (Sl R (dj R 20 ps))/\so (.d (.bl true)) ls
def gS:W Fl:=(aV (bL 8 (av aJ (uG (ar (wC (.str "on")) (ar (wC (.str "back")) aI))) (bq CY (ar (av vR (av aJ (aj 4) (aj 7)) (wC (.str "on"))) aI))))
  (Q4 (aO (aB bF (ar (aj 0) (ar (aj 1) (ar (oy (ar (aj 3) (ar (bG (av fg (av fg (Jw (aj 4) none (some (aj 7))) (uG (ar (aj 8) aI))) (Jw (aj 4) (some (av fg (aj 7) (wC (.int 1)))) none))) aI))) aI))))) (bO (wC (.bl false))) cw))
def gT:W Fl:=(bO (wC (.bl true)))
def gU:W L:=(aj 0)
def gW:W Fl:=(aV (pY (wx (av fg (Jw (aj 6) none (some (wC (.int 1)))) (Jw (aj 6) (some (Q3 CO (wC (.int 1)))) none))) (bp 7) gS)
  gT)
def gX:W Fl:=(aV (bL 6 (lx 1 [5,0] (qL (bq dX (ar (aj 4) aI))) (bp 0) (HI (aO (av (yw true) (aj 0) (aj 1))) (aO (av uK (av aJ (av aJ (av aJ (aj 2) (wC (.int 1))) (aj 0)) (wC (.int 3))) (oy (ar (wC (.int 0)) (ar (wC (.int 1)) aI)))))) gU))
  gW)
def gY:W Fl:=(aV (bL 5 (bG (aB bC (ar (aj 0) (ar (bG (qT dE (λ_=>False) (ar (aj 0) (ar (aj 1) (ar (aj 3) aI))))) aI)))))
  gX)
def gZ:W Fl:=(aV (Q4 (aO (aB bF (ar (aj 0) (ar (aj 1) (ar (oy (ar (aj 3) (ar (bG (bq uL (ar (aj 4) aI))) aI))) aI))))) (bO (wC (.bl false))) cw)
  gY)
def fA:W Fl:=(aV (C1 [3,4] (aj 2))
  gZ)
theorem EN{R:aL}{qs:List Rat}{ws:List Bool}{k:Nat}(hk:k<R.asks.length)(hw:ws.length=R.asks.length)(kw:(List.range R.asks.length).all (Sw R qs (Sl R qs) ws)=true)(np:k∉Sl R qs)(nz:R.sz k≠0):(List.range R.asks.length).all (Sw R qs (Sl R qs) (ws.set k (!ws.getD k true)))=false:=by have q:=VI.mp kw k (Vl.mpr hk);rw[<- Bool.not_eq_true,VI];intro z;have z:=z k (Vl.mpr hk);unfold Sw at q z;rw[Va np,Va nz,Bool.false_or,Bool.false_or,U5]at q z;rw[U0,VA xL,Option.getD_some,<- q]at z;cases h:ws.getD k true<;>rw[h]at z<;>cases z
theorem KU(w:Bool):QH [D.str (Str.ofString "on"),D.str (Str.ofString "back")] (if Ra (fV w) (D.str (Str.ofString "on"))=true then 1 else 0)=some (fV (!w)):=by cases w <;> rfl
theorem Nz{α β:Type}(p:α->Bool)(g:α->β):∀as:List α,as.filterMap (λa=>if p a then some (g a)else none)=(as.filter p).map g
 |[]=>rfl
 | a::as=>by rw[V6,Wd,Nz p g as];cases p a<;>rfl
theorem A5{α:Type}(xs:List α)(l u:Option Int):(t9 xs l u).length<=xs.length:=by unfold t9;rw[Wp,Ww];omega
theorem EO{α:Type}{xs:List α}{l u:Option Int}{x:α}(h:x∈t9 xs l u):x∈xs:=List.mem_of_mem_drop (List.mem_of_mem_take h)
noncomputable def K6(R:aL)(qs:List Rat)(k:Nat):Bool:=!decide (k∈Sl R qs) && !decide (R.sz k=0)
theorem nY:∀ls so,ls.length=3->eG ls so->fA (ls++List.replicate 6 .un) (aP ls so):=by
 rintro ls so - ⟨R,ps,M,os,rfl,hD,op,h⟩;obtain⟨r1,r2,r3⟩:=sy 20 0 ps hD;have few:=hD.ok.ok.few;have kw:=y4 r3.ok op (bI R (Sl R (dj R 20 ps)));have wl:(Su R (dj R 20 ps) (bI R (Sl R (dj R 20 ps))) 0 (Sv R (dj R 20 ps)) os).length=R.asks.length:=by rw[AW,xk r3.ok]
 have s99:((nF R 20 ps).map R7).length<=99:=by rw[U4];exact U8 (EH hD.ok) x_
 have sam:=EJ (xN 20 ps hD);generalize Su R (dj R 20 ps) (bI R (Sl R (dj R 20 ps))) 0 (Sv R (dj R 20 ps)) os=ws at *;unfold fA;walk_at "w";unfold gZ;walk_at "w";refine⟨x_,R,ps,_,M,rfl,hD.ok,⟨hD.d0,hD.d1,hD.da,hD.dp⟩,λx y e=>?_,λ_=>?_,λss' ws' os' e=>by cases e⟩
 . cases e;exact⟨(λxs e=>nomatch e),_,rfl,s99,sam⟩
 walk_at "w";unfold gY;walk_at "w";refine⟨R,ps,_,M,rfl,hD.ok,s99,sam,⟨hD.d0,hD.d1,hD.da,hD.dp⟩,λ_ a3=>?_,λi hi=>?_⟩
 case refine_2 =>
  rw[r1]at hi;cases hi
 rw[r2];walk_at "w";refine⟨R,_,4000,rfl,r3.ok.ok,r3.ok.len,xK r3.ok,x_,λa4=>?_⟩;walk_at "w";unfold gX;walk_at "w";rw[VB,gM];refine⟨⟨xL,xL⟩,by rw[U4,Vu];exact U8 (show ws.length<=20 by omega) x_,?_⟩
 refine j8 (enc:=λ(k:Nat)=>D.int (k:Int)) (h:=λk=>if K6 R (dj R 20 ps) k then some (D.int (k:Int))else none) (List.range ws.length) [] _ (λk hk Q q=>?_) λl a5=>?_
 .
  have hk:=Vl.mp hk;have hk':k<R.asks.length:=by omega
  unfold K6 at q;walk_at "w";refine⟨rfl,w9 _,?_⟩;rw[qz];by_cases c1:k∈Sl R (dj R 20 ps)
  . rw[if_neg (by rw[Vm (show k∈cB R (dj R 20 ps)from c1)];decide)];rw[Vm c1]at q;exact q
  .
   rw[if_pos (Va (show ¬k∈cB R (dj R 20 ps)from c1))];refine⟨_,aR hk',?_⟩;walk_at "w";refine⟨x_,nu 0,?_⟩;have ez:Ra (Rl R.asks[k].size) (.tup [.int 0,.int 1])=decide (R.asks[k].size=0):=uc _ 0;rw[ez];rw[Va c1,jL hk']at q;by_cases c2:R.asks[k].size=0
   . rw[if_neg (by rw[Vm c2];decide)];rw[Vm c2]at q;exact q
   . rw[if_pos (Va c2)];rw[Va c2]at q;unfold gU;walk_at "w";exact q
 rw[Wk,Nz];walk_at "w";unfold gW;walk_at "w";have wm:∀k∈(List.range ws.length).filter (K6 R (dj R 20 ps)),k<R.asks.length/\k∉Sl R (dj R 20 ps)/\R.sz k≠0:=λk hk=>by obtain⟨m1,m2⟩:=V3.mp hk;unfold K6 at m2;rw[U7,Wr,Wr,VZ,VZ]at m2;exact⟨by have:=Vl.mp m1;omega,m2⟩
 have wln:((List.range ws.length).filter (K6 R (dj R 20 ps))).length<=20:=by refine U8 (V8 _ _) ?_;rw[Vu];omega
 generalize (List.range ws.length).filter (K6 R (dj R 20 ps))=wo at wm wln;refine λ_ _=>⟨?_,λ_=>?_⟩
 . have l1:=A5 (wo.map λ(k:Nat)=>D.int (k:Int)) none (some 1);have l2:=A5 (wo.map λ(k:Nat)=>D.int (k:Int)) (some (-1)) none;rw[U4]at l1 l2;exact U8 (show _<=40 by omega) x_
 rw[uX,uX,<- Wb];refine gL (enc:=λ(k:Nat)=>D.int (k:Int)) _ (λ_ Z=>∃x5 x6 x7 x8,Z=[.d (aH R),.d (.lst (ps.map Rl)),.d (.tup [.lst ((nF R 20 ps).map R7),.lst (ws.map fV)]),.d (.lst ((nF R 20 ps).map R7)),.d (.lst (ws.map fV)),x5,x6,x7,x8]) _ ⟨_,_,_,_,rfl⟩ ?_ ?_
 .
  rintro pre k suf Z hsp ⟨x5,x6,x7,x8,rfl⟩ Q h1 h2 h3 h4
  have hm:k∈wo:=by
   have:k∈t9 wo none (some 1)++t9 wo (some (-1)) none:=by rw[hsp];simp
   rcases Vx.mp this with q|q
   . exact EO q
   . exact EO q
  obtain⟨hk,np,nz⟩:=wm k hm;have hkw:k<ws.length:=by omega
  have lw:(ws.map fV).length<=20:=by rw[U4];omega
  have l1:=A5 (ws.map fV) none (some (k:Int));have l2:=A5 (ws.map fV) (some ((k:Int)+1)) none;have eg:ws[k]=ws.getD k true:=by rw[U0,tu hkw];rfl
  unfold gS;walk_at "w";refine⟨x_,λ_=>⟨_,aR hkw,cV _,_,KU _,λ_=>⟨x_,λ_=>⟨U8 (show _<=40 by omega) x_,λ_ _=>⟨U8 (show _<=60 by rw[VL];simp only[V5,List.length_nil];omega) x_,λ_=>⟨x_,?_⟩⟩⟩⟩⟩⟩;rw[J8 (by rw[U4];exact hkw),<- List.map_set,eg];have wl2:(ws.set k (!ws.getD k true)).length=R.asks.length:=by rw[Wc];exact wl
  refine A3 hD s99 sam wl2 (λ_=>?_) λos' _ _ op' ow'=>?_
  . walk_at "w";exact h1 _ ⟨_,_,_,_,rfl⟩
  . rw[r2,EN hk wl kw np nz,Wz];walk_at "w";exact h1 _ ⟨_,_,_,_,rfl⟩
 . rintro Z ⟨x5,x6,x7,x8,rfl⟩;unfold gT;walk_at "w";exact⟨_,ai (ai (ai aM)),h⟩
def eH:FS:=λls so=>∃(R:aL)(ks:List Nat),ls=[.d (aH R),.d (.lst (ks.map λ(k:Nat)=>D.int (k:Int)))]/\(∀k∈ks,k<R.asks.length)/\(∀k l,k∈ks->l∈ks->k<l->Sh R k l=true)/\so (.d (.bl true)) ls
def g5:W Fl:=(Q4 (HI (aO (av uI (aj 2) (aj 3))) (uF (aO (aB i7 (ar (aj 0) (ar (aj 2) (ar (aj 3) aI))))))) (bO (wC (.bl false))) cw)
def g6:W Fl:=(pY (wx (aj 1)) (bp 3) g5)
def fB:W Fl:=(aV (pY (wx (aj 1)) (bp 2) g6)
  (bO (wC (.bl true))))
theorem nZ:∀ls so,ls.length=2->eH ls so->fB (ls++List.replicate 2 .un) (aP ls so):=by
 rintro ls so - ⟨R,ks,rfl,hk,hc,h⟩;unfold fB;walk_at "w";refine gL (enc:=λ(k:Nat)=>D.int (k:Int)) ks (λ_ Z=>∃x2 x3,Z=[.d (aH R),.d (.lst (ks.map λ(k:Nat)=>D.int (k:Int))),x2,x3]) _ ⟨_,_,rfl⟩ ?_ ?_
 .
  rintro pre k suf Z hsp ⟨x2,x3,rfl⟩ Q h1 h2 h3 h4;have km:k∈ks:=by rw[hsp];simp
  unfold g6;walk_at "w";refine gL (enc:=λ(k:Nat)=>D.int (k:Int)) ks (λ_ Z=>∃x3,Z=[.d (aH R),.d (.lst (ks.map λ(k:Nat)=>D.int (k:Int))),.d (.int (k:Int)),x3]) _ ⟨_,rfl⟩ ?_ ?_
  .
   rintro pre2 l suf2 Z hsp2 ⟨x3,rfl⟩ Q g1 g2 g3 g4;have lm:l∈ks:=by rw[hsp2];simp
   unfold g5;walk_at "w";by_cases c:k<l
   .
    rw[if_pos (by omega)];refine⟨R,k,l,hk k km,hk l lm,rfl,?_⟩;have ec:uq (R.asks[k]'(hk k km)) (R.asks[l]'(hk l lm))=Sh R k l:=by unfold Sh;rw[bU (hk k km),bU (hk l lm)];rfl
    rw[ec,hc k l km lm c];walk_at "w";exact g1 _ ⟨_,rfl⟩
   . rw[if_neg (by omega)];exact g1 _ ⟨_,rfl⟩
  . rintro Z ⟨x3,rfl⟩;exact h1 _ ⟨_,_,rfl⟩
 . rintro Z ⟨x2,x3,rfl⟩;exact⟨_,ai (ai aM),h⟩
def jm:FS:=λls so=>∃(R:aL)(ps:List Rat)(M:Nat),ls=[.d (aH R),.d (.lst (ps.map Rl))]/\UG R ps M/\∀ws:List Bool,ws.length=R.asks.length->so (.d (.lst (ws.map fV))) ls
def iq:W Fl:=(aV (bL 10 (bG (aB fS (ar (aj 5) (ar (av aJ (aj 2) (aj 4)) aI)))))
  (Q4 (Q1 (aO (av uK (aj 10) (av aJ (aj 9) (aj 4)))) (aO (aB dW (ar (bG (aB dB (ar (bG (av bM (wC (.int 3)) (av aJ (aj 8) (wC (.int 0))))) (ar (bG (av bM (wC (.int 2)) (av aJ (aj 8) (wC (.int 1))))) aI)))) (ar (aj 10) aI))))) (bO (wC .non)) cw))
def lN:W Fl:=(bO (av aJ (aj 6) (wC (.int 1))))
def lO:W Fl:=(aV (pY (uQ (aB dU (ar (aj 0) (ar (aj 7) aI)))) (eX [4,5]) iq)
  lN)
def lP:W Fl:=(aV (bL 9 (bG (aB jg (ar (aj 0) (ar (aj 1) (ar (av aJ (aj 6) (wC (.int 1))) aI))))))
  lO)
def lQ:W Fl:=(aV (bL 8 (bG (aB fz (ar (aj 0) (ar (bG (aB bC (ar (aj 0) (ar (bG (qT dE (λ_=>False) (ar (aj 0) (ar (aj 1) (ar (av aJ (aj 6) (wC (.int 0))) aI))))) aI)))) aI)))))
  lP)
def lR:W Fl:=(aV (bL 7 (bG (aB iF (ar (aj 0) (ar (av aJ (aj 6) (wC (.int 1))) aI)))))
  lQ)
def lS:W Fl:=(aV (Q4 (uF (aO (aB eG (ar (aj 0) (ar (aj 1) (ar (aj 6) aI)))))) (bO (wC .non)) cw)
  lR)
def lT:W Fl:=(aV (Q4 (Q1 (uF (aO (aB eH (ar (aj 0) (ar (bG (aB bC (ar (aj 0) (ar (aj 3) aI)))) aI))))) (uF (aO (aB bF (ar (aj 0) (ar (aj 1) (ar (aj 6) aI))))))) (bO (wC .non)) cw)
  lS)
def ir:W Fl:=(Q4 (aO (aB dW (ar (av aJ (aj 2) (aj 4)) (ar (aj 5) aI)))) (bO (wC .non)) cw)
def lU:W Fl:=(aV (bL 6 (bG (aB eQ (ar (aj 0) (ar (aj 1) aI)))))
  lT)
def lV:W Fl:=(aV (pY (uQ (aB dU (ar (aj 0) (ar (aj 3) aI)))) (eX [4,5]) ir)
  lU)
def lW:W Fl:=(aV (bL 3 (bG (qT dE (λ_=>False) (ar (aj 0) (ar (aj 1) (ar (bG (aB fR (ar (aj 0) (ar (aj 1) aI)))) aI))))))
  lV)
def kP:W Fl:=(aV (bL 2 (bG (aB dU (ar (aj 0) (ar (aj 1) aI)))))
  lW)
theorem NA{R:aL}{ps qs:List Rat}{t:Nat}{x3 x6 x7 x8 x9 x10:L}{Q:Fl->Ev->Prop}(hS:cW R ps)(hQ:cW R qs)(ht:t<R.n)(hb:aZ R.n R.asks qs t<=aZ R.n R.asks ps t)
  (h:Q .nx [.d (aH R),.d (.lst (ps.map Rl)),.d (.lst (RU R.n (aZ R.n R.asks ps))),x3,.d (.int (t:Int)),.d (Rl (aZ R.n R.asks qs t)),x6,x7,x8,x9,x10]) :
  ir [.d (aH R),.d (.lst (ps.map Rl)),.d (.lst (RU R.n (aZ R.n R.asks ps))),x3,.d (.int (t:Int)),.d (Rl (aZ R.n R.asks qs t)),x6,x7,x8,x9,x10] Q:=by
 unfold ir;walk_at "w";refine⟨_,Ay ht,?_⟩;walk_at "w";refine⟨_,_,rfl,((xi hS).2 t).mono x_,((xi hQ).2 t).mono x_,?_⟩;walk_at "w";rw[if_neg (W3.mpr hb)];exact h
theorem NB{R:aL}{ps:List Rat}{ws:List Bool}{ks:List Nat}{t:Nat}{x3 x6 x7 x10:L}{Q:Fl->Ev->Prop}(hS:cW R ps)(hw:ws.length=R.asks.length)(hk:∀k∈ks,k<R.asks.length)(ht:t<R.n)
  (hb:aZ R.n R.asks (bz R.asks ws) t<=aZ R.n R.asks ps t+(bI R ks+bI R ks+bI R ks))
  (h:∀x10,Q .nx [.d (aH R),.d (.lst (ps.map Rl)),.d (.lst (RU R.n (aZ R.n R.asks ps))),x3,.d (.int (t:Int)),.d (Rl (aZ R.n R.asks (bz R.asks ws) t)),x6,x7,.d (Rl (Sr R ks 0)),.d (.lst (RU R.n (pQ R ps ws))),x10]) :
  iq [.d (aH R),.d (.lst (ps.map Rl)),.d (.lst (RU R.n (aZ R.n R.asks ps))),x3,.d (.int (t:Int)),.d (Rl (aZ R.n R.asks (bz R.asks ws) t)),x6,x7,.d (Rl (Sr R ks 0)),.d (.lst (RU R.n (pQ R ps ws))),x10] Q:=by
 have lq:=(xi hS).2 t;have lw:=(xi (Hr hS hw)).2 t;have gb:=EE hS.ok ks 0 hk (RB.zero.mono x_);have two:=vc R ks;generalize Sr R ks 0=g at *
 have e3:Rat.divInt (3*g.num) (2*(g.den:Int))=bI R ks+bI R ks+bI R ks:=by
  have:Rat.divInt (3*g.num) (2*(g.den:Int))=Rat.divInt 3 2*g:=by rw[<- Wh,VE]
  rw[this];have:Rat.divInt 3 2=3 / 2:=by decide +kernel
  rw[this];grind
 have rb3:RB 1545 (Rat.divInt (3*g.num) (2*(g.den:Int))):=by
  have:Rat.divInt (3*g.num) (2*(g.den:Int))=Rat.divInt 3 2*g:=by rw[<- Wh,VE]
  rw[this];exact((show RB 2 (Rat.divInt 3 2)from⟨y_,y_⟩).mul gb).mono x_
 have dp:=g.den_pos;unfold iq;walk_at "w";refine⟨_,Ay ht,?_⟩;walk_at "w";refine⟨_,_,rfl,lw.mono x_,lq.mono x_,?_⟩;walk_at "w";refine⟨_,Ay ht,nu _,?_⟩;rw[uc,if_neg (by rw[Vm (show aZ R.n R.asks (bz R.asks ws) t-aZ R.n R.asks ps t=pQ R ps ws t from rfl)];decide)];refine⟨bV x_,gb.bn x_,bV x_,gb.bd x_,_,_,rfl,xL,?_,?_⟩
 .
  rw[Wj,Vj];have e:(2:Nat)*2^1540<=2^9000:=by rw[<- Nat.pow_succ'];exact Vg x_ x_
  refine U2 ?_ e;exact Nat.mul_lt_mul_of_pos_left gb.2 x_
 rw[e3]at rb3 ⊢;dsimp only;refine⟨_,_,rfl,rb3.mono x_,(lw.sub lq).mono x_,?_⟩;dsimp only;rw[if_neg (by rw[U5];exact W3.mpr (by grind))];exact h _
theorem tU:∀ls so,ls.length=2->jm ls so->kP (ls++List.replicate 9 .un) (aP ls so):=by
 rintro ls so - ⟨R,ps,M,rfl,hD,h⟩;obtain⟨r1,r2,r3⟩:=sy 20 0 ps hD;have few:=hD.ok.ok.few;have s99:((nF R 20 ps).map R7).length<=99:=by rw[U4];exact U8 (EH hD.ok) x_
 have sam:=EJ (xN 20 ps hD);unfold kP;walk_at "w";refine⟨R,ps,rfl,hD.ok,λ_=>?_⟩;walk_at "w";unfold lW;walk_at "w";refine⟨R,ps,rfl,hD.ok,λ_=>?_⟩;walk_at "w";refine⟨R,ps,_,M,rfl,hD.ok,s99,sam,⟨hD.d0,hD.d1,hD.da,hD.dp⟩,λ_ a3=>?_,λi hi=>?_⟩
 case refine_2 =>
  rw[r1]at hi;cases hi
 rw[r2];walk_at "w";unfold lV;walk_at "w";refine⟨R,_,rfl,r3.ok,λ_=>?_⟩;walk_at "w";rw[DT];refine gL (enc:=λ(t:Nat)=>D.tup [.int (t:Int),Rl (aZ R.n R.asks (dj R 20 ps) t)]) (List.range R.n) (λ_ Z=>∃x4 x5,Z=[.d (aH R),.d (.lst (ps.map Rl)),.d (.lst (RU R.n (aZ R.n R.asks ps))),.d (.lst ((dj R 20 ps).map Rl)),x4,x5,.un,.un,.un,.un,.un]) _ ⟨_,_,rfl⟩ ?_ ?_
 .
  rintro pre t suf Z hsp ⟨x4,x5,rfl⟩ Q h1 h2 h3 h4
  have ht:t<R.n:=by
   have:t∈List.range R.n:=by rw[hsp];simp
   simpa using this
  walk_at "w";have:=vD ht _ 0 ps hD sam r1;rw[r2]at this;exact NA hD.ok r3.ok ht this (h1 _ ⟨_,_,rfl⟩)
 rintro Z ⟨x4,x5,rfl⟩;unfold lU;walk_at "w";refine⟨R,ps,rfl,hD.ok,λa1 a2 os op ow=>?_⟩;have op:os.Perm (Sl R (dj R 20 ps)):=op;walk_at "w";have hw:(Su R (dj R 20 ps) (bI R (Sl R (dj R 20 ps))) 0 (Sv R (dj R 20 ps)) os).length=R.asks.length:=by rw[AW,xk r3.ok]
 have hk:∀k∈Sl R (dj R 20 ps),k<R.asks.length:=(A2 r3.ok).2;have hbd:∀t,t<R.n->aZ R.n R.asks (bz R.asks (Su R (dj R 20 ps) (bI R (Sl R (dj R 20 ps))) 0 (Sv R (dj R 20 ps)) os)) t<=aZ R.n R.asks ps t+(bI R (Sl R (dj R 20 ps))+bI R (Sl R (dj R 20 ps))+bI R (Sl R (dj R 20 ps))):=λt ht=>by have h1:=G8 r3.ok (pS hw) (λk hk=>B0 hw hk) (sD hD.ok) (y4 r3.ok op _) op ow (Ej r3.ok op) ht;have h2:=vD ht _ 0 ps hD sam r1;rw[r2]at h2;grind
 unfold lT;walk_at "w";refine⟨R,_,4000,rfl,r3.ok.ok,r3.ok.len,xK r3.ok,x_,λa4=>?_⟩;walk_at "w";refine⟨R,Sl R (dj R 20 ps),rfl,hk,u6 (rg R _) (sD hD.ok),?_⟩;walk_at "w";refine Hq hD op ow ?_;walk_at "w";unfold lS;walk_at "w";refine⟨R,ps,M,os,rfl,hD,op,?_⟩;walk_at "w";unfold lR;walk_at "w";refine⟨R,_,rfl,few,hw,λa5=>?_⟩;walk_at "w";unfold lQ;walk_at "w";refine⟨R,ps,_,M,rfl,hD.ok,s99,sam,⟨hD.d0,hD.d1,hD.da,hD.dp⟩,λ_ a3=>?_,λi hi=>?_⟩
 case refine_2 =>
  rw[r1]at hi;cases hi
 rw[r2];walk_at "w";refine⟨R,_,4000,rfl,r3.ok.ok,r3.ok.len,xK r3.ok,x_,λa4=>?_⟩;walk_at "w";refine⟨R,Sl R (dj R 20 ps),rfl,r3.ok.ok,hk,?_⟩;walk_at "w";unfold lP;walk_at "w";refine⟨R,ps,_,rfl,hD.ok,hw,λa6=>?_⟩;walk_at "w";unfold lO;walk_at "w";refine⟨R,_,rfl,Hr hD.ok hw,λa7=>?_⟩;walk_at "w";rw[DT];have h:=h _ hw;have hbd:=hbd;have ew:bI R (cB R (dj R 20 ps))=bI R (Sl R (dj R 20 ps)):=rfl;rw[ew];generalize Su R (dj R 20 ps) (bI R (Sl R (dj R 20 ps))) 0 (Sv R (dj R 20 ps)) os=ws at *;refine gL (enc:=λ(t:Nat)=>D.tup [.int (t:Int),Rl (aZ R.n R.asks (bz R.asks ws) t)]) (List.range R.n) (λ_ Z=>∃x4 x5 x10,Z=[.d (aH R),.d (.lst (ps.map Rl)),.d (.lst (RU R.n (aZ R.n R.asks ps))),.d (.lst ((dj R 20 ps).map Rl)),x4,x5,.d (.tup [.lst ((nF R 20 ps).map R7),.lst (ws.map fV)]),.d (.lst ((bz R.asks ws).map Rl)),.d (Rl (Sr R (Sl R (dj R 20 ps)) 0)),.d (.lst (RU R.n (pQ R ps ws))),x10]) _ ⟨_,_,_,rfl⟩ ?_ ?_
 .
  rintro pre t suf Z hsp ⟨x4,x5,x10,rfl⟩ Q h1 h2 h3 h4
  have ht:t<R.n:=by
   have:t∈List.range R.n:=by rw[hsp];simp
   simpa using this
  walk_at "w";exact NB hD.ok hw hk ht (hbd t ht) λx10=>h1 _ ⟨_,_,_,rfl⟩
 . rintro Z ⟨x4,x5,x10,rfl⟩;unfold lN;walk_at "w";exact⟨_,ai (ai aM),h⟩
structure ER (R:aL) (ps:List Rat):Prop extends Kk R ps 70 where
 tw:Tw R ps
def jn:FS:=λls so=>∃(a:Addr)(xs:List D)(R:aL),ls=[.own a xs,.d (aH R)]/\ye xs/\R.Ok/\(∀a∈R.asks,RB 60 a.size)/\∀(ps:List Rat)(c:Addr)(ys:List D),ye ys->ER R ps->so (.own c (ps.map Rl)) [.own a ys,.d (aH R)]
def lX:W Fl:=(aV (bL 7 (bG (fF bg 0 0 (wu 0 (ar (wC (.int 4)) aI)))))
  (aV (bL 8 (bG (fF bg 0 0 (wu 0 (ar (wC (.int 13)) aI)))))
  (wq (Jl 2 (av aJ (uG (ar (oy (ar (wC (.int 0)) (ar (wC (.int 1)) aI))) (ar (aj 6) (ar (bG (aB dB (ar (bG (av bM (av aJ (aj 6) (wC (.int 0))) (aj 8))) (ar (bG (av bM (av aJ (aj 6) (wC (.int 1))) (wC (.int 12)))) aI)))) aI)))) (bq Bs (ar (aj 7) (ar (wC (.int 2)) aI))))))))
def kQ:W Fl:=(aV (bL 2 (uG aI))
  (aV (pY (wx (av aJ (aj 1) (wC (.int 1)))) (eX [3,4,5,6]) lX)
  (bO (mY 2))))
def UJ(z p:Rat):Prop:=∃v:Int,0<=v/\v<=12/\p=z*Rat.divInt v 12
theorem OS{R:aL}{ps:List Rat}(hl:ps.length=R.asks.length)(h:∀x∈R.asks.zip ps,UJ x.1.size x.2):Tw R ps:=λk hk=>by
 have h1:k<ps.length:=by omega
 have:=h (R.asks[k],ps[k]) (by
  rw[List.mem_iff_getElem]
  exact⟨k,by rw[Vy];omega,by rw[V1]⟩)
 rw[oJ h1,BN hk];exact this
theorem ES{s:Rat}{v:Int}(h0:0<=s)(hb:RB 60 s)(v0:0<=v)(v1:v<13):(0<=Rat.divInt (s.num*v) ((s.den:Int)*12)/\Rat.divInt (s.num*v) ((s.den:Int)*12)<=s)/\RB 70 (Rat.divInt (s.num*v) ((s.den:Int)*12)):=by
 have e:Rat.divInt (s.num*v) ((s.den:Int)*12)=s*Rat.divInt v 12:=by rw[<- Wh,VE]
 have f0:0<=Rat.divInt v 12:=Rat.divInt_nonneg v0 x_
 have f1:0<=1-Rat.divInt v 12:=by
  have e1:1-Rat.divInt v 12=Rat.divInt (12-v) 12:=by have:(1:Rat)=Rat.divInt 12 12:=rfl;rw[this,Rat.divInt_sub_divInt _ _ x_ x_,Rat.divInt_eq_divInt_iff x_ x_];omega
  rw[e1];exact Rat.divInt_nonneg xL x_
 have m0:=Rat.mul_nonneg h0 f0;have m1:=Rat.mul_nonneg h0 f1;have hd:=den_pos s;refine⟨⟨by rw[e];exact m0,by rw[e];grind⟩,RB.of_divInt (Xd xL x_) ?_ ?_⟩
 . rw[Wj];exact U2 (bo (n:=10) hb.1 (show v.natAbs<2^10 by omega)) (Vb _)
 . rw[Wj];exact U2 (bo (m:=60) (n:=10) (by rw[Vj];exact hb.2) (show(12:Int).natAbs<2^10 by decide)) (Vb _)
theorem tV:∀ls so,ls.length=2->jn ls so->kQ (ls++List.replicate 7 .un) (aP ls so):=by
 rintro ls so - ⟨a,xs,R,rfl,hx,hR,hT,h⟩;have hfew:=hR.few;unfold kQ;walk_at "w";refine⟨x_,λc=>?_⟩;refine gL (enc:=iy) R.asks (λpre Z=>∃(ps:List Rat)(ys:List D)(x3 x4 x5 x6 x7 x8:L),Z=[.own a ys,.d (aH R),.own c (ps.map Rl),x3,x4,x5,x6,x7,x8]/\ye ys/\ps.length=pre.length/\(∀x∈pre.zip ps,0<=x.2/\x.2<=x.1.size)/\(∀p∈ps,RB 70 p)/\∀x∈pre.zip ps,UJ x.1.size x.2) _ ⟨[],xs,_,_,_,_,_,_,rfl,hx,rfl,(λx hx=>by simp at hx),(λx hx=>by simp at hx),λx hx=>by simp at hx⟩ ?_ ?_
 .
  rintro pre A suf Z hsp ⟨ps,ys,x3,x4,x5,x6,x7,x8,rfl,hy,hl,hlo,hb,hw1⟩ Q h1 h2 h3 h4;have hA:jJ R.n A:=hR.ask A (by rw[hsp];simp);have hAb:RB 60 A.size:=hT A (by rw[hsp];simp);have p4:pre.length<20:=by have:=congrArg List.length hsp;rw[VL,V5]at this;omega
  unfold lX;walk_at "w";refine⟨a,ys,4,rfl,hy,x_,x_,λr zs hz r0 r1=>⟨zs,rfl,?_⟩⟩;walk_at "w";refine⟨a,zs,13,rfl,hz,x_,x_,λv ws hw v0 v1=>⟨ws,rfl,?_⟩⟩;walk_at "w";obtain⟨p1,p2⟩:=ES hA.size hAb v0 v1;have hd:=den_pos A.size
  have Qm:∀p:Rat,(0<=p/\p<=A.size)->RB 70 p->UJ A.size p->Q .nx [.own a ws,.d (aH R),.own c (ps.map Rl++[Rl p]),.d (.str A.nm),.d (.int A.one),.d (.int A.other),.d (Rl A.size),.d (.int r),.d (.int v)]:=by
   intro p hp hpb hpw;refine h1 _ ⟨ps++[p],ws,_,_,_,_,_,_,by rw[Wb];rfl,hw,by rw[VL,VL,hl];rfl,λx hx=>?_,λq hq=>?_,λx hx=>?_⟩
   .
    rw[VY xL]at hx;rcases Vx.mp hx with hx|hx
    . exact hlo x hx
    .
     have:x=(A,p):=by simpa using hx
     subst this;exact hp
   .
    rcases Vx.mp hq with hq|hq
    . exact hb q hq
    . rw[WR.mp hq];exact hpb
   .
    rw[VY xL]at hx;rcases Vx.mp hx with hx|hx
    . exact hw1 x hx
    .
     have:x=(A,p):=by simpa using hx
     subst this;exact hpw
  have hsz:ps.length<sizeLine:=U2 (show ps.length<20 by omega) x_;refine⟨x_,hAb.bn x_,bV xL,hAb.bd x_,bV x_,A.size.num*v,(A.size.den:Int)*12,rfl,Xd xL x_,?_,?_⟩
  . rw[Wj];exact U2 (bo (m:=60) (n:=10) (by rw[Vj];exact hAb.2) (show(12:Int).natAbs<2^10 by decide)) (Vg x_ x_)
  .
   walk_at "w";refine⟨x_,λ_=>?_⟩;have hr:r=0∨r=1∨r=2∨r=3:=by omega
   rcases hr with rfl|rfl|rfl|rfl
   . exact⟨Rl 0,yG,hsz,Qm 0 ⟨x_,hA.size⟩ (RB.zero.mono x_) ⟨0,x_,x_,by rw[show Rat.divInt 0 12=0 from rfl,Rat.mul_zero]⟩⟩
   . exact⟨Rl A.size,yH,hsz,Qm A.size ⟨hA.size,W9⟩ (hAb.mono x_) ⟨12,x_,x_,by rw[show Rat.divInt 12 12=1 from rfl,Rat.mul_one]⟩⟩
   . exact⟨_,Gy,hsz,Qm _ p1 p2 ⟨v,v0,xL,by rw[<- Wh,VE]⟩⟩
   . exact⟨_,Gy,hsz,Qm _ p1 p2 ⟨v,v0,xL,by rw[<- Wh,VE]⟩⟩
 . rintro Z ⟨ps,ys,x3,x4,x5,x6,x7,x8,rfl,hy,hl,hlo,hb,hw1⟩;walk_at "w";exact⟨_,qo (ys:=ys) v6 (ai aM),h ps c ys hy ⟨⟨hl,hlo,hb⟩,OS hl hw1⟩⟩
def fs_law:FS:=λls so=>∃ns:List Int,ls=[.d (.lst (ns.map .int))]/\ns.length<=63/\so (.d (.bl true)) ls
theorem ET{ns:List Int}(hl:ns.length<=63):fs_law [.d (.lst (ns.map .int))] (λr _=>r=.d (.bl true)):=⟨ns,rfl,hl,rfl⟩
def KW:W L:=(aj 0)
def EU:W Fl:=(aV (bL 4 (bG (aB jm (ar (aj 1) (ar (bG (aB jn (ar (aB cL (ar (aj 0) (ar (aj 3) aI))) (ar (aj 1) aI)))) aI)))))
  (aV (Q4 (aO (av FV (aj 4) (wC .non))) (bO (wC (.bl false))) cw)
  (aV (bL 5 (bG (aB iF (ar (aj 1) (ar (aj 4) aI)))))
  (aV (C1 [6,7] (aB eQ (ar (aj 1) (ar (aj 5) aI))))
  (aV (bL 8 (lx 1 [1,7,4] (qL (bq dX (ar (aj 4) aI))) (bp 0) (HI (aO (av uK (av aJ (av aJ (av aJ (aj 1) (wC (.int 1))) (aj 0)) (wC (.int 3))) (oy (ar (wC (.int 0)) (ar (wC (.int 1)) aI))))) (aO (av uK (av aJ (aj 2) (aj 0)) (av aJ (aj 3) (aj 0))))) KW))
  (Q4 (Q1 (aO (av uK (aj 6) (uG aI))) (Q1 (aO (av uK (aj 8) (uG aI))) (aO (av uK (aB jg (ar (aj 1) (ar (aj 5) (ar (aj 7) aI)))) (Mp (uG (ar (oy (ar (wC (.int 0)) (ar (wC (.int 1)) aI))) aI)) (wC (.int 12))))))) (bO (wC (.bl false))) cw))))))
def KY:W Fl:=(aV (bL 1 (bG (aB kJ (ar (aj 0) aI))))
  (aV (bL 2 (bG (bq Dj (ar (aj 1) aI))))
  (aV (pY (Jc (wC (.int 3)) (bq CV (ar (wC (.int 4)) (ar (bG (bq Bs (ar (bG (bq dX (ar (aj 0) aI))) (ar (wC (.int 8)) aI)))) aI)))) (bp 3) EU)
  (bO (av Ga (bq Dj (ar (aj 1) aI)) (aj 2))))))
theorem Hs{R:aL}{ps:List Rat}(hR:R.Ok)(hT:∀a∈R.asks,RB 60 a.size)(h8:R.asks.length<=20)(h:ER R ps):∃D:Nat,UG R ps D/\D<=2^1210:=by
 have d2:BK R.asks<=2^1200:=U8 (yS hT) (Vg x_ xL);have d3:BK R.asks*12<=2^1210:=U8 (Nat.mul_le_mul d2 (show 12<=2^10 by decide)) (by rw[<- Nat.pow_add];exact Vb _);have d4:BK R.asks*12<2^1500:=Ve d3 (Nat.pow_lt_pow_right x_ x_);have d0:0<BK R.asks*12:=Nat.mul_pos (uZ _) x_;have da:∀a∈R.asks,a.size.den∣BK R.asks*12:=λa ha=>Nat.dvd_trans (qx ha) (Nat.dvd_mul_right _ _)
 have dp:∀p∈ps,p.den∣BK R.asks*12:=λp hp=>by
  obtain⟨k,hk,rfl⟩:=VF hp;have hk':k<R.asks.length:=by rw[<- h.len];exact hk
  obtain⟨v,v0,v1,e⟩:=h.tw k hk';rw[<- bj hk,e];refine Nat.dvd_trans (yV _ _) (Nat.mul_dvd_mul ?_ ?_)
  . rw[jL hk'];exact qx (U3 hk')
  . have:=yU (t:=v) (b:=12) x_;exact this
 refine⟨BK R.asks*12,⟨⟨hR,h.len,λk hk=>?_,_,d0,d4,da,dp⟩,d0,d4,da,dp⟩,d3⟩;have hk':k<R.asks.length:=by rw[<- h.len];exact hk
 have hz:k<(R.asks.zip ps).length:=by rw[Vy];omega
 have:=h.lo _ (U3 hz);rw[V1]at this;rw[bj hk,jL hk'];exact this
theorem A6{R:aL}{ws:List Bool}(hw:ws.length=R.asks.length):Sl R (bz R.asks ws)=[]:=by
 unfold Sl;rw[List.filter_eq_nil_iff];intro k hk;have hk:=Vl.mp hk;rw[pS hw]at hk;unfold Sj;rw[B0 hw hk,U7,U5,U5];split
 . exact λz=>Rat.lt_irrefl z.2
 . exact λz=>Rat.lt_irrefl z.1
theorem Ht{R:aL}{ws:List Bool}(hw:ws.length=R.asks.length):nF R 20 (bz R.asks ws)=[]/\dj R 20 (bz R.asks ws)=bz R.asks ws:=by
 have e:u7 R (bz R.asks ws)=none:=by unfold u7;rw[A6 hw];rfl
 unfold nF dj;rw[e];exact⟨rfl,rfl⟩
theorem A7{R:aL}{ws:List Bool}(hw:ws.length=R.asks.length){k:Nat}(hk:k<R.asks.length)(hz:R.sz k≠0):(Sv R (bz R.asks ws)).getD k true=ws.getD k true:=by
 have hl:=pS hw;have e:(Sv R (bz R.asks ws)).getD k true=decide ((bz R.asks ws).getD k 0=R.sz k):=by unfold Sv;rw[U0,Vf,tu (by rw[Vy];omega),V1,jL hk,bj xL];rfl
 rw[e,B0 hw hk]
 cases ws.getD k true with
 |true=>exact Vm rfl
 |false=>exact Va (λz=>hz z.symm)
theorem zC{R:aL}{ws:List Bool}(hw:ws.length=R.asks.length)(hn:(Sv R (bz R.asks ws)).length=R.asks.length):bz R.asks (Sv R (bz R.asks ws))=bz R.asks ws:=by
 refine Wo (by rw[pS hw,pS hn]) λk h1 h2=>?_;rw[pS hn]at h1;rw[<- bj,<- bj,B0 hn h1,B0 hw h1];by_cases z:R.sz k=0
 . rw[z];split<;>split<;>rfl
 . rw[A7 hw h1 z]
theorem EV{R:aL}(h:R.Ok)(hn:∀a∈R.asks,Fg a.nm/\RB 60 a.size):Af (aH R):=by refine⟨L2.okD_mono _ x_ (Gz h),BO h hn,?_⟩;have:=Kn h hn;omega
theorem KZ(v w:Bool):Ra (fV v) (fV w)=decide (v=w):=by cases v<;>cases w<;>decide +kernel
theorem EW{α:Type}{β:Type}:∀as:List α,as.filterMap (λ_=>(none:Option β))=[]
 |[]=>rfl
 |a::as=>by rw[V6,EW as]
theorem qE:fH (.lst []):=qW []
theorem K0:∀ls so,ls.length=1->fs_law ls so->KY (ls++List.replicate 8 .un) (aP ls so):=by
 rintro ls so - ⟨ns,rfl,hl,h⟩;unfold KY;walk_at "w";refine⟨ns,rfl,λR hM=>?_⟩;have hR:=hM.ok;have hT:∀a∈R.asks,RB 60 a.size:=λa ha=>(hM.nm a ha).2;walk_at "w";have rk:=EV hR hM.nm;refine⟨_,rfl,rfl,rk,?_⟩;walk_at "w";refine⟨⟨xL,xL⟩,⟨?_,?_⟩,?_⟩
 . split<;>split<;>omega
 . split<;>split<;>omega
 refine Aq 3 _ (λj Z=>∃(x3 x4 x5 x6 x7 x8:L),Z=[.d (.lst (ns.map .int)),.d (aH R),.d (.str (Mo (aH R))),x3,x4,x5,x6,x7,x8]) _ ⟨_,_,_,_,_,_,rfl⟩ ?_ ?_
 .
  rintro j Z hj ⟨x3,x4,x5,x6,x7,x8,rfl⟩ Q h1 h2 h3 h4;have hj':j<24:=by split at hj<;>split at hj<;>omega
  have ej:(3:Int)+(j:Int)=((3+j:Nat):Int):=by omega
  rw[ej];unfold EU;walk_at "w";refine⟨ns,((3+j:Nat):Int),rfl,xL,xL,λb2 xs2 hx2=>?_⟩;walk_at "w";refine⟨b2,xs2,R,rfl,hx2,hR,hT,λps c ys hy hp=>?_⟩;obtain⟨D0,hD0,hD1⟩:=Hs hR hT hR.few hp;walk_at "w";refine⟨R,ps,D0,rfl,hD0,λws hw=>?_⟩;walk_at "w";have hW:=Hr hD0.ok hw;obtain⟨e1,e2⟩:=Ht (R:=R) hw;have hn:=xk hW;refine⟨R,ws,rfl,hR.few,hw,λa1=>?_⟩;walk_at "w";refine⟨R,_,rfl,hW,λa2 a3 os op ow=>?_⟩;rw[e2,show cB R (bz R.asks ws)=[]from A6 hw]at op;obtain rfl:os=[]:=List.Perm.eq_nil op;rw[e1,e2];rw[show Su R (bz R.asks ws) (bI R (cB R (bz R.asks ws))) 0 (Sv R (bz R.asks ws)) []=Sv R (bz R.asks ws)from rfl];walk_at "w";have few:=hR.few;rw[VB,gM];refine⟨⟨xL,xL⟩,by rw[U4,Vu];exact U8 (show ws.length<=20 by omega) x_,?_⟩;refine j8 (enc:=λ(k:Nat)=>D.int (k:Int)) (h:=λ_=>none) (List.range ws.length) [] _ (λk hk Q q=>?_) λl a5=>?_
  .
   have hk:=Vl.mp hk;have hk':k<R.asks.length:=by omega
   walk_at "w";refine⟨_,aR hk',?_⟩;walk_at "w";refine⟨x_,nu 0,?_⟩;have ez:Ra (Rl R.asks[k].size) (.tup [.int 0,.int 1])=decide (R.asks[k].size=0):=uc _ 0;rw[ez];by_cases c2:R.asks[k].size=0
   . rw[if_neg (by rw[Vm c2];decide)];exact q
   .
    rw[if_pos (Va c2)];have c3:R.sz k≠0:=by rw[jL hk'];exact c2
    have e:=A7 hw hk' c3;rw[U0,tu (show k<(Sv R (bz R.asks ws)).length by omega),U0,tu hk,Option.getD_some,Option.getD_some]at e;refine⟨_,aR (show k<(Sv R (bz R.asks ws)).length by omega),_,aR hk,cV _,cV _,?_⟩;rw[KZ,e];simp only[decide_true,Bool.true_eq_false,WX];exact q
  rw[EW,Wk];walk_at "w";have en:Ra (.lst []) (.lst [])=true:=by decide +kernel
  refine⟨x_,λ_=>⟨qE,qE,?_⟩⟩;rw[en,if_neg (by decide)];refine⟨x_,λ_=>⟨qE,qE,?_⟩⟩;rw[if_neg (by decide)];refine⟨R,_,_,rfl,hW,hn,λa6=>?_⟩;walk_at "w";have eg:RU R.n (pQ R (bz R.asks ws) (Sv R (bz R.asks ws)))=(List.replicate 12 (0:Rat)).map Rl:=by unfold RU;rw[hM.n12,List.map_replicate];refine List.eq_replicate_iff.mpr ⟨v6,λx hx=>?_⟩;obtain⟨t,_,rfl⟩:=VO.mp hx;unfold pQ;rw[zC hw hn,Rat.sub_self]
  have er:(List.replicate (Int.toNat 12) [D.tup [.int 0,.int 1]]).flatten=(List.replicate 12 (0:Rat)).map Rl:=rfl;rw[eg,er];refine⟨x_,x_,λ_=>⟨⟨x_,x_⟩,x_,λ_=>⟨qW _,qW _,?_⟩⟩⟩;rw[J3,Vm rfl,if_neg (by decide)];exact h1 _ ⟨_,_,_,_,_,_,rfl⟩
 . rintro Z ⟨x3,x4,x5,x6,x7,x8,rfl⟩;walk_at "w";refine⟨_,rfl,rfl,rk,?_⟩;walk_at "w";exact⟨_,ai aM,h⟩
noncomputable abbrev iu:Stmt:=Hd.inCls (Hd.top 3) 0
noncomputable abbrev kR:FuncData:=RN "__init__" "LoadError.__init__" iu (.str "ringloads.errors" 198) 34
noncomputable abbrev g7:Stmt:=Hd.inCls (Hd.top 4) 0
noncomputable abbrev jo:FuncData:=RN "__init__" "NoSlide.__init__" g7 (.str "ringloads.errors" 198) 54
structure Tx (K:PySem.W.Frag) (mg:Str->Option Value) (ad:Nat->Addr) (fd:Nat->FuncData):Prop where
 x_greatest_shared:FX K mg "greatest_shared" eh (ad 0) (fd 0) ["one","other"]
 x_is_whole:FX K mg "is_whole" oM (ad 1) (fd 1) ["thing"]
 x_is_number_below:FX K mg "is_number_below" eu (ad 2) (fd 2) ["thing","many"]
 x_are_two_wholes:FX K mg "are_two_wholes" fm (ad 3) (fd 3) ["thing"]
 x_is_ratio:FX K mg "is_ratio" oO (ad 4) (fd 4) ["thing"]
 x_lowest:FX K mg "lowest" vd (ad 5) (fd 5) ["top","bottom"]
 x_plus:FX K mg "plus" El (ad 6) (fd 6) ["one","other"]
 x_minus:FX K mg "minus" y6 (ad 7) (fd 7) ["one","other"]
 x_times:FX K mg "times" y7 (ad 8) (fd 8) ["one","other"]
 x_under:FX K mg "under" y9 (ad 9) (fd 9) ["one","other"]
 x_greater:FX K mg "greater" rn (ad 10) (fd 10) ["one","other"]
 x_lesser:FX K mg "lesser" ve (ad 11) (fd 11) ["one","other"]
 x_sum_of:FX K mg "sum_of" vf (ad 12) (fd 12) ["some"]
 x_lesser_place:FX K mg "lesser_place" hX (ad 13) (fd 13) ["ring","k"]
 x_greater_place:FX K mg "greater_place" gp (ad 14) (fd 14) ["ring","k"]
 x_do_cross:FX K mg "do_cross" oP (ad 15) (fd 15) ["ring","k","l"]
 x_parted_in:FX K mg "parted_in" iZ (ad 16) (fd 16) ["ring","sending"]
 x_first_side_by_side:FX K mg "first_side_by_side" cP (ad 17) (fd 17) ["ring","some"]
 x_is_way:FX K mg "is_way" vg (ad 18) (fd 18) ["thing"]
 x_other_way:FX K mg "other_way" mn (ad 19) (fd 19) ["way"]
 x_ties_of:FX K mg "ties_of" ka (ad 20) (fd 20) ["ring","k","way"]
 x_is_over:FX K mg "is_over" rD (ad 21) (fd 21) ["ring","k","way","tie"]
 x_sent_over:FX K mg "sent_over" mq (ad 22) (fd 22) ["ring","sending","k","tie"]
 x_load_of:FX K mg "load_of" nH (ad 23) (fd 23) ["ring","sending","tie"]
 x_loads_of:FX K mg "loads_of" k8 (ad 24) (fd 24) ["ring","sending"]
 x_are_ways:FX K mg "are_ways" k9 (ad 25) (fd 25) ["ring","thing"]
 x_sent_by:FX K mg "sent_by" nI (ad 26) (fd 26) ["ring","ways"]
 x_part_behind:FX K mg "part_behind" i0 (ad 27) (fd 27) ["part","way","amount"]
 x_slid_once:FX K mg "slid_once" mr (ad 28) (fd 28) ["sending","slide"]
 x_share_no_tie:FX K mg "share_no_tie" eL (ad 29) (fd 29) ["ring","k","way","l","other"]
 x_has_form_of_slide:FX K mg "has_form_of_slide" du (ad 30) (fd 30) ["thing","asks"]
 x_not_sent:FX K mg "not_sent" oQ (ad 31) (fd 31) ["ring","sending","k","way"]
 x_most_slid:FX K mg "most_slid" mw (ad 32) (fd 32) ["ring","sending","slide"]
 x_is_slide:FX K mg "is_slide" oR (ad 33) (fd 33) ["ring","sending","thing"]
 x_slid_by:FX K mg "slid_by" rE (ad 34) (fd 34) ["ring","sending","thing"]
 x_ways_apart:FX K mg "ways_apart" kb (ad 35) (fd 35) ["ring","k","l"]
 x_greatest_slide:FX K mg "greatest_slide" ft (ad 36) (fd 36) ["ring","sending","k","l"]
 x_slides_for:FX K mg "slides_for" kc (ad 37) (fd 37) ["ring","sending"]
 x_nearest_way:FX K mg "nearest_way" i3 (ad 38) (fd 38) ["ask","part"]
 x_keeps_whole_asks:FX K mg "keeps_whole_asks" dM (ad 39) (fd 39) ["ring","slid","parted","ways"]
 x_half_of_greatest:FX K mg "half_of_greatest" dN (ad 40) (fd 40) ["ring","some"]
 x_by_lesser_place:FX K mg "by_lesser_place" cK (ad 41) (fd 41) ["ring","some"]
 l_by_lesser_place:MK K "by_lesser_place" (fd 41) cK
 x_rising_way:FX K mg "rising_way" ke (ad 42) (fd 42) ["ring","k"]
 x_gain_of:FX K mg "gain_of" rF (ad 43) (fd 43) ["ring","sending","k","way"]
 x_keeps_within:FX K mg "keeps_within" ia (ad 44) (fd 44) ["ring","slid","parted","ways"]
 x_lets_rounding:FX K mg "lets_rounding" gu (ad 45) (fd 45) ["ring","sending","thing"]
 x_rounded_ways:FX K mg "rounded_ways" eM (ad 46) (fd 46) ["ring","slid"]
 x_rounding_of:FX K mg "rounding_of" i4 (ad 47) (fd 47) ["ring","sending"]
 x_gains_of:FX K mg "gains_of" lg (ad 48) (fd 48) ["ring","sending","ways"]
 x__law_begun:FX K mg "_law_begun" kf (ad 49) (fd 49) ["_law_script","_law_k"]
 x__law_take:FX K mg "_law_take" mx (ad 50) (fd 50) ["_law_state","_law_many"]
 x__law_low:FX K mg "_law_low" oT (ad 51) (fd 51) ["_law_top","_law_bottom"]
 x__law_amount:FX K mg "_law_amount" i5 (ad 52) (fd 52) ["_law_state","_law_least","_law_kind"]
 x__law_made:FX K mg "_law_made" my (ad 53) (fd 53) ["_law_script"]
 x__law_ties:FX K mg "_law_ties" mz (ad 54) (fd 54) ["_law_ring","_law_k","_law_way"]
 x__law_minus:FX K mg "_law_minus" kg (ad 55) (fd 55) ["_law_one","_law_other"]
 x__law_plus:FX K mg "_law_plus" mB (ad 56) (fd 56) ["_law_one","_law_other"]
 x__law_loads:FX K mg "_law_loads" ki (ad 57) (fd 57) ["_law_ring","_law_sending"]
 x__law_under:FX K mg "_law_under" kj (ad 58) (fd 58) ["_law_one","_law_other"]
 x__law_greatest:FX K mg "_law_greatest" gv (ad 59) (fd 59) ["_law_ring","_law_some"]
 x__law_bent_fall:FX K mg "_law_bent_fall" cX (ad 60) (fd 60) ["_law_ring","_law_sending","_law_rounding"]
 x__law_all_cross:FX K mg "_law_all_cross" fu (ad 61) (fd 61) ["_law_ring","_law_some"]
 x__law_right:FX K mg "_law_right" kq (ad 62) (fd 62) ["_law_ring","_law_sending"]
 x__law_parts:FX K mg "_law_parts" kr (ad 63) (fd 63) ["_law_state","_law_ring"]
 x_law:FX K mg "law" Er (ad 64) (fd 64) ["_law_script"]
 li:Do K mg 38 35 kR iu
 i_NoSlide:QS K "__init__" "NoSlide.__init__" g7 55 jo
 c_NoSlide:XT K mg "NoSlide" 58 55 jo ["self","number"] ["number"]
 h_NoSlide:XH K mg "NoSlide" 58
 z_ValueError:mg "ValueError"=none
 z_abs:mg "abs"=none
 z_all:mg "all"=none
 z_any:mg "any"=none
 z_bool:mg "bool"=none
 z_enumerate:mg "enumerate"=none
 z_int:mg "int"=none
 z_isinstance:mg "isinstance"=none
 z_len:mg "len"=none
 z_list:mg "list"=none
 z_max:mg "max"=none
 z_min:mg "min"=none
 z_range:mg "range"=none
 z_repr:mg "repr"=none
 z_sorted:mg "sorted"=none
 z_str:mg "str"=none
 z_tuple:mg "tuple"=none
 z_zip:mg "zip"=none
 g_BACK:yx K mg "BACK" (.str "back")
 g_HALF:yx K mg "HALF" (.tup [(.int 1),(.int 2)])
 g_NOUGHT:yx K mg "NOUGHT" (.tup [(.int 0),(.int 1)])
 g_ON:yx K mg "ON" (.str "on")
section
variable{P:Program}{w:World}{K:PySem.W.Frag}{mg:Str->Option Value}{base:Heap}{ad:Nat->Addr}{fd:Nat->FuncData}
theorem sG:az ["self","text"] ["self","text"] (aq iu):=⟨rfl,rfl,rfl,y_,rfl,y_,y_⟩
theorem vJ:az ["self","number"] ["self","number"] (aq g7):=⟨rfl,rfl,rfl,y_,rfl,y_,y_⟩
theorem xS(T:Tx K mg ad fd):FnOk P w K mg base CX0 1 35 kR ["self","text"] (NK K):=T.li.f.ok (k:=0) sG Gj (λcdv A outer s H vs Q E hr q=>⟨_,Cj (Ck (Gd rfl T.z_ValueError (c9 (pv 0) (c9 (pv 1) lD)))),JK q⟩)
theorem uv(T:Tx K mg ad fd):FnOk P w K mg base CX0 2 55 jo ["self","number"] (Mx K ["number"]):=T.i_NoSlide.ok (k:=1) vJ Gk (λcdv A outer s H vs Q E hr q=>⟨_,Fk (Ck (Ge T.li (xS T) hr rfl (c9 (pv 0) (c9 Hz lD)))) (Cj (JJ (pv 0) (pv 1))),JL q⟩)
theorem cq:az oK ["one","other"] (aq eh):=⟨rfl,rfl,rfl,y_,rfl,y_,y_⟩
theorem g8(T:Tx K mg ad fd):FnOk P w K mg base CX0 1 (ad 0) (fd 0) ["one","other"] (spF K 2 ck) :=
 bc (k:=0) T.x_greatest_shared.f cq eA (λcdv A outer s H E hr=>(ah (qp Vk (Q2 (l9 hr.units) (ae 1) ag (aS _)) (ah (aE (i:=2) cq.nd rfl v4 (aG fG (ae 0) (ae 1)))
  (ah (aE (i:=0) cq.nd rfl v4 (ae 1))
  (ao (aE (i:=1) cq.nd rfl v4 (ae 2))))))
  (ao (aC (aQ CU rfl T.z_abs y_ (aa (ae 0) af))))))
  mD
theorem zD:az BP ["thing"] (aq oM):=⟨rfl,rfl,rfl,y_,rfl,y_,y_⟩
theorem mR(T:Tx K mg ad fd):FnOk P w K mg base CX0 1 (ad 1) (fd 1) ["thing"] (spF K 1 gw) :=
 bc (k:=0) T.x_is_whole.f zD lj (λcdv A outer s H E hr=>(ao (aC (jx (pH Jq rfl T.z_isinstance rfl T.z_int y_ (ae 0)) (m5 (CN (pH FU rfl T.z_isinstance rfl T.z_bool y_ (ae 0))))))))
  xC
theorem n4:az oN ["thing","many"] (aq eu):=⟨rfl,rfl,rfl,y_,rfl,y_,y_⟩
theorem g9(T:Tx K mg ad fd):FnOk P w K mg base CX0 2 (ad 2) (fd 2) ["thing","many"] (spF K 2 cm) :=
 bc (k:=1) T.x_is_number_below.f n4 eB (λcdv A outer s H E hr=>(ao (aC (jx (aD (mR T) T.x_is_whole hr (aa (ae 0) af)) (m5 (FY N9 N8 ag (ae 0) (ae 1)))))))
  mE
theorem pf:az qa ["thing"] (aq fm):=⟨rfl,rfl,rfl,y_,rfl,y_,y_⟩
theorem ph(T:Tx K mg ad fd):FnOk P w K mg base CX0 2 (ad 3) (fd 3) ["thing"] (spF K 1 eD) :=
 bc (k:=1) T.x_are_two_wholes.f pf cY (λcdv A outer s H E hr=>(ao (aC (jx (pH qM rfl T.z_isinstance rfl T.z_tuple y_ (ae 0)) (jx (fX (lu hr.units) (aQ eY rfl T.z_len y_ (aa (ae 0) af)) ag (aS _)) (jx (aD (mR T) T.x_is_whole hr (aa (au (ae 0) ag (λ_ _=>rfl)) af)) (m5 (aD (mR T) T.x_is_whole hr (aa (au (ae 0) ag (λ_ _=>rfl)) af)))))))))
  nL
theorem zE:az BQ ["thing"] (aq oO):=⟨rfl,rfl,rfl,y_,rfl,y_,y_⟩
theorem zF(T:Tx K mg ad fd):FnOk P w K mg base CX0 3 (ad 4) (fd 4) ["thing"] (spF K 1 mF) :=
 bc (k:=2) T.x_is_ratio.f zE ll (λcdv A outer s H E hr=>(ao (aC (jx (aD (ph T) T.x_are_two_wholes hr (aa (ae 0) af)) (jx (fX LV (au (ae 0) ag (λ_ _=>rfl)) ag (aS _)) (m5 (fX (lu hr.units) (aD (g8 T) T.x_greatest_shared hr (aa (au (ae 0) ag (λ_ _=>rfl)) (aa (au (ae 0) ag (λ_ _=>rfl)) af))) ag (aS _))))))))
  xD
theorem sH:az Ha ["top","bottom"] (aq vd):=⟨rfl,rfl,rfl,y_,rfl,y_,y_⟩
theorem sI(T:Tx K mg ad fd):FnOk P w K mg base CX0 2 (ad 5) (fd 5) ["top","bottom"] (spF K 2 ku) :=
 bc (k:=1) T.x_lowest.f sH vm (λcdv A outer s H E hr=>(ah (aE (i:=2) sH.nd rfl v4 (ay (aD (g8 T) T.x_greatest_shared hr (aa (ae 0) (aa (ae 1) af)))))
  (ah (cS (Q2 m9 (ae 1) ag (aS _)) (ao (aE (i:=2) sH.nd rfl v4 (HJ (ae 2)))) aY)
  (ao (aC (cf (aa (aG t8 (ae 0) (ae 2)) (aa (aG t8 (ae 1) (ae 2)) af))))))))
  BW
theorem K1:az Nl ["one","other"] (aq El):=⟨rfl,rfl,rfl,y_,rfl,y_,y_⟩
theorem sJ(T:Tx K mg ad fd):FnOk P w K mg base CX0 3 (ad 6) (fd 6) ["one","other"] (spF K 2 i6) :=
 bc (k:=2) T.x_plus.f K1 Es (λcdv A outer s H E hr=>(ao (aC (aD (sI T) T.x_lowest hr (aa (ay (aG cU (aG br (au (ae 0) ag (λ_ _=>rfl)) (au (ae 1) ag (λ_ _=>rfl))) (aG br (au (ae 1) ag (λ_ _=>rfl)) (au (ae 0) ag (λ_ _=>rfl))))) (aa (ay (aG br (au (ae 0) ag (λ_ _=>rfl)) (au (ae 1) ag (λ_ _=>rfl)))) af))))))
  Hf
theorem Hu:az KG ["one","other"] (aq y6):=⟨rfl,rfl,rfl,y_,rfl,y_,y_⟩
theorem jq(T:Tx K mg ad fd):FnOk P w K mg base CX0 3 (ad 7) (fd 7) ["one","other"] (spF K 2 cZ) :=
 bc (k:=2) T.x_minus.f Hu zl (λcdv A outer s H E hr=>(ao (aC (aD (sI T) T.x_lowest hr (aa (aG m8 (aG br (au (ae 0) ag (λ_ _=>rfl)) (au (ae 1) ag (λ_ _=>rfl))) (aG br (au (ae 1) ag (λ_ _=>rfl)) (au (ae 0) ag (λ_ _=>rfl)))) (aa (ay (aG br (au (ae 0) ag (λ_ _=>rfl)) (au (ae 1) ag (λ_ _=>rfl)))) af))))))
  Et
theorem Hv:az KH ["one","other"] (aq y7):=⟨rfl,rfl,rfl,y_,rfl,y_,y_⟩
theorem Hw(T:Tx K mg ad fd):FnOk P w K mg base CX0 3 (ad 8) (fd 8) ["one","other"] (spF K 2 vn) :=
 bc (k:=2) T.x_times.f Hv zm (λcdv A outer s H E hr=>(ao (aC (aD (sI T) T.x_lowest hr (aa (ay (aG br (au (ae 0) ag (λ_ _=>rfl)) (au (ae 1) ag (λ_ _=>rfl)))) (aa (ay (aG br (au (ae 0) ag (λ_ _=>rfl)) (au (ae 1) ag (λ_ _=>rfl)))) af))))))
  Eu
theorem Hx:az KI ["one","other"] (aq y9):=⟨rfl,rfl,rfl,y_,rfl,y_,y_⟩
theorem fT(T:Tx K mg ad fd):FnOk P w K mg base CX0 1 (ad 9) (fd 9) ["one","other"] (spF K 2 dO) :=
 bc (k:=0) T.x_under.f Hx zo (λcdv A outer s H E hr=>(ao (aC (fX m9 (aG br (au (ae 0) ag (λ_ _=>rfl)) (au (ae 1) ag (λ_ _=>rfl))) (aG br (au (ae 1) ag (λ_ _=>rfl)) (au (ae 0) ag (λ_ _=>rfl))) (aS _)))))
  Ew
theorem B2:az Em ["one","other"] (aq rn):=⟨rfl,rfl,rfl,y_,rfl,y_,y_⟩
theorem B3(T:Tx K mg ad fd):FnOk P w K mg base CX0 2 (ad 10) (fd 10) ["one","other"] (spF K 2 oU) :=
 bc (k:=1) T.x_greater.f B2 rJ (λcdv A outer s H E hr=>(ao (aC (lF (bP (aD (fT T) T.x_under hr (aa (ae 0) (aa (ae 1) af)))) (ae 1) (ae 0)))))
  zp
theorem EX:az Hb ["one","other"] (aq ve):=⟨rfl,rfl,rfl,y_,rfl,y_,y_⟩
theorem EY(T:Tx K mg ad fd):FnOk P w K mg base CX0 2 (ad 11) (fd 11) ["one","other"] (spF K 2 rK) :=
 bc (k:=1) T.x_lesser.f EX vo (λcdv A outer s H E hr=>(ao (aC (lF (bP (aD (fT T) T.x_under hr (aa (ae 1) (aa (ae 0) af)))) (ae 1) (ae 0)))))
  BX
theorem n5:az Hc ["some"] (aq vf):=⟨rfl,rfl,rfl,y_,rfl,y_,y_⟩
theorem Fb(T:Tx K mg ad fd):FnOk P w K mg base CX0 4 (ad 12) (fd 12) ["some"] (spF K 1 rL) :=
 bc (k:=3) T.x_sum_of.f n5 vp (λcdv A outer s H E hr=>(ah (aE (i:=1) n5.nd rfl v4 (j4 T.g_NOUGHT rfl))
  (ah (cy Vk rfl (di (ae 0)) (dg (i:=2) n5.nd rfl v4) (ao (aE (i:=1) n5.nd rfl v4 (aD (sJ T) T.x_plus hr (aa (ae 1) (aa (ae 2) af))))))
  (ao (aC (fY 1))))))
  BY
theorem sL:az tJ ["ring","k"] (aq hX):=⟨rfl,rfl,rfl,y_,rfl,y_,y_⟩
theorem gD(T:Tx K mg ad fd):FnOk P w K mg base CX0 1 (ad 13) (fd 13) ["ring","k"] (spF K 2 cA) :=
 bc (k:=0) T.x_lesser_place.f sL ib (λcdv A outer s H E hr=>(ao (aC (aQ (CW rfl) rfl T.z_min y_ (aa (au (au (au (ae 0) ag (λ_ _=>rfl)) (ae 1) (λ_ _=>rfl)) ag (λ_ _=>rfl)) (aa (au (au (au (ae 0) ag (λ_ _=>rfl)) (ae 1) (λ_ _=>rfl)) ag (λ_ _=>rfl)) af))))))
  qe
theorem qj:az rp ["ring","k"] (aq gp):=⟨rfl,rfl,rfl,y_,rfl,y_,y_⟩
theorem jI(T:Tx K mg ad fd):FnOk P w K mg base CX0 1 (ad 14) (fd 14) ["ring","k"] (spF K 2 c7) :=
 bc (k:=0) T.x_greater_place.f qj gy (λcdv A outer s H E hr=>(ao (aC (aQ (HL rfl) rfl T.z_max y_ (aa (au (au (au (ae 0) ag (λ_ _=>rfl)) (ae 1) (λ_ _=>rfl)) ag (λ_ _=>rfl)) (aa (au (au (au (ae 0) ag (λ_ _=>rfl)) (ae 1) (λ_ _=>rfl)) ag (λ_ _=>rfl)) af))))))
  oV
theorem gE:az BR ["ring","k","l"] (aq oP):=⟨rfl,rfl,rfl,y_,rfl,y_,y_⟩
theorem sM(T:Tx K mg ad fd):FnOk P w K mg base CX0 2 (ad 15) (fd 15) ["ring","k","l"] (spF K 3 i7) :=
 bc (k:=1) T.x_do_cross.f gE oW (λcdv A outer s H E hr=>(ah (aE (i:=3) gE.nd rfl v4 (ay (aD (gD T) T.x_lesser_place hr (aa (ae 0) (aa (ae 1) af)))))
  (ah (aE (i:=4) gE.nd rfl v4 (ay (aD (jI T) T.x_greater_place hr (aa (ae 0) (aa (ae 1) af)))))
  (ah (aE (i:=5) gE.nd rfl v4 (ay (aD (gD T) T.x_lesser_place hr (aa (ae 0) (aa (ae 2) af)))))
  (ah (aE (i:=6) gE.nd rfl v4 (ay (aD (jI T) T.x_greater_place hr (aa (ae 0) (aa (ae 2) af)))))
  (ao (aC (N5 (wQ (ae 3) (qQ.cons m9 (ae 5) (qQ.cons m9 (ae 4) (qQ.one m9 (ae 6))))) (m5 (wQ (ae 5) (qQ.cons m9 (ae 3) (qQ.cons m9 (ae 6) (qQ.one m9 (ae 4))))))))))))))
  xE
theorem xT:az rq ["ring","sending"] (aq iZ):=⟨rfl,rfl,rfl,y_,rfl,y_,y_⟩
theorem cH(T:Tx K mg ad fd):FnOk P w K mg base CX0 2 (ad 16) (fd 16) ["ring","sending"] (spF K 2 bC) :=
 bc (k:=1) T.x_parted_in.f xT mG (λcdv A outer s H E hr=>(ao (aC (iW (sc:=(aq iZ)) (N:=rq) (Nt:=["k","part"]) (Nf:=["ring"]) (fi:=[0]) rfl rfl rfl (iX rfl T.z_enumerate (ae 1)) rfl y_ y_ y_ x_ rfl y_ x_ (λ_ _ _ _=>(Ad rfl (gK (i:=0) x_ (show((["k","part"]:List Str)++(["ring"]:List Str)).Nodup by decide +kernel) rfl (Or.inl rfl) (gK (i:=1) x_ (show((["k","part"]:List Str)++(["ring"]:List Str)).Nodup by decide +kernel) rfl (Or.inl rfl) uR)))) (λ_ _ _ _=>(yt (Q0.pb (oo (bP (aD (fT T) T.x_under hr (aa (j4 T.g_NOUGHT rfl) (aa (ae 1) af)))) (mZ (bP (aD (fT T) T.x_under hr (aa (ae 1) (aa (au (au (au (ae 2) ag (λ_ _=>rfl)) (ae 0) (λ_ _=>rfl)) ag (λ_ _=>rfl)) af))))))))) (λ_ _ _ _=>(ae 0))))))
  vt
theorem bR:az ly ["ring","some"] (aq cP):=⟨rfl,rfl,rfl,y_,rfl,y_,y_⟩
theorem cI(T:Tx K mg ad fd):FnOk P w K mg base CX0 3 (ad 17) (fd 17) ["ring","some"] (spF K 2 aU) :=
 bc (k:=2) T.x_first_side_by_side.f bR cQ (λcdv A outer s H E hr=>(ah (cy Vk rfl (iX rfl T.z_enumerate (ae 1)) (jX rfl (aX (i:=2) bR.nd rfl v4 (aX (i:=3) bR.nd rfl v4 gh))) (ao (cy Vk rfl (di (j6 (ae 1) (aG cU (ae 2) ag) trivial)) (dg (i:=4) bR.nd rfl v4) (ao (cS (fZ (bP (aD (sM T) T.x_do_cross hr (aa (ae 0) (aa (ae 3) (aa (ae 4) af)))))) (ao (aC (cf (aa (ae 3) (aa (ae 4) af))))) aY)))))
  (ao (aC mW))))
  jM
theorem Fc:az He ["thing"] (aq vg):=⟨rfl,rfl,rfl,y_,rfl,y_,y_⟩
theorem sN(T:Tx K mg ad fd):FnOk P w K mg base CX0 1 (ad 18) (fd 18) ["thing"] (spF K 1 kx) :=
 bc (k:=0) T.x_is_way.f Fc vw (λcdv A outer s H E hr=>(ao (aC (jx (pH Jr rfl T.z_isinstance rfl T.z_str y_ (ae 0)) (m5 (fX LZ (ae 0) (cf (aa (j4 T.g_ON rfl) (aa (j4 T.g_BACK rfl) af))) rfl))))))
  BZ
theorem xU:az zb ["way"] (aq mn):=⟨rfl,rfl,rfl,y_,rfl,y_,y_⟩
theorem xV(T:Tx K mg ad fd):FnOk P w K mg base CX0 1 (ad 19) (fd 19) ["way"] (spF K 1 ky) :=
 bc (k:=0) T.x_other_way.f xU mH (λcdv A outer s H E hr=>(ao (aC (lF (Q2 (lu hr.units) (ae 0) (j4 T.g_ON rfl) (aS _)) (j4 T.g_BACK rfl) (j4 T.g_ON rfl)))))
  vx
theorem lr:az rC ["ring","k","way"] (aq ka):=⟨rfl,rfl,rfl,y_,rfl,y_,y_⟩
theorem uw(T:Tx K mg ad fd):FnOk P w K mg base CX0 1 (ad 20) (fd 20) ["ring","k","way"] (spF K 3 lp) :=
 bc (k:=0) T.x_ties_of.f lr rT (λcdv A outer s H E hr=>(ah (aE (i:=3) lr.nd rfl v4 (ay (aQ eY rfl T.z_len y_ (aa (au (ae 0) ag (λ_ _=>rfl)) af))))
  (ah (aE (i:=4) lr.nd rfl v4 (au (au (au (ae 0) ag (λ_ _=>rfl)) (ae 1) (λ_ _=>rfl)) ag (λ_ _=>rfl)))
  (ah (aE (i:=5) lr.nd rfl v4 (au (au (au (ae 0) ag (λ_ _=>rfl)) (ae 1) (λ_ _=>rfl)) ag (λ_ _=>rfl)))
  (ah (cS (Q2 (lu hr.units) (ae 2) (j4 T.g_ON rfl) (aS _)) (ao (aC (iW (sc:=(aq ka)) (N:=rC) (Nt:=["step"]) (Nf:=["one","places"]) (fi:=[4,3]) rfl rfl rfl (fO rfl T.z_range (aG fG (aG m8 (ae 5) (ae 4)) (ae 3))) rfl y_ y_ y_ x_ rfl y_ x_ (λ_ _ _ _=>(j3 x_ (show((["step"]:List Str)++(["one","places"]:List Str)).Nodup by decide +kernel) rfl (Or.inl rfl))) (λ_ _ _ _=>iV) (λ_ _ _ _=>(aG fG (aG cU (ae 1) (ae 0)) (ae 2)))))) aY)
  (ao (aC (iW (sc:=(aq ka)) (N:=rC) (Nt:=["step"]) (Nf:=["one","places"]) (fi:=[4,3]) rfl rfl rfl (fO rfl T.z_range (aG fG (aG m8 (ae 4) (ae 5)) (ae 3))) rfl y_ y_ y_ x_ rfl y_ x_ (λ_ _ _ _=>(j3 x_ (show((["step"]:List Str)++(["one","places"]:List Str)).Nodup by decide +kernel) rfl (Or.inl rfl))) (λ_ _ _ _=>iV) (λ_ _ _ _=>(aG fG (aG m8 (aG m8 (ae 1) ag) (ae 0)) (ae 2)))))))))))
  zr
theorem iL:az En ["ring","k","way","tie"] (aq rD):=⟨rfl,rfl,rfl,y_,rfl,y_,y_⟩
theorem B4(T:Tx K mg ad fd):FnOk P w K mg base CX0 1 (ad 21) (fd 21) ["ring","k","way","tie"] (spF K 4 oX) :=
 bc (k:=0) T.x_is_over.f iL rZ (λcdv A outer s H E hr=>(ah (aE (i:=4) iL.nd rfl v4 (ay (aQ eY rfl T.z_len y_ (aa (au (ae 0) ag (λ_ _=>rfl)) af))))
  (ah (aE (i:=5) iL.nd rfl v4 (au (au (au (ae 0) ag (λ_ _=>rfl)) (ae 1) (λ_ _=>rfl)) ag (λ_ _=>rfl)))
  (ah (aE (i:=6) iL.nd rfl v4 (au (au (au (ae 0) ag (λ_ _=>rfl)) (ae 1) (λ_ _=>rfl)) ag (λ_ _=>rfl)))
  (ah (aE (i:=7) iL.nd rfl v4 (fX m9 (aG fG (aG m8 (ae 3) (ae 5)) (ae 4)) (aG fG (aG m8 (ae 6) (ae 5)) (ae 4)) (aS _)))
  (ao (aC (fX (lu hr.units) (ae 7) (fX (lu hr.units) (ae 2) (j4 T.g_ON rfl) (aS _)) (aS _)))))))))
  zu
theorem xW:az zd ["ring","sending","k","tie"] (aq mq):=⟨rfl,rfl,rfl,y_,rfl,y_,y_⟩
theorem xX(T:Tx K mg ad fd):FnOk P w K mg base CX0 4 (ad 22) (fd 22) ["ring","sending","k","tie"] (spF K 4 kB) :=
 bc (k:=3) T.x_sent_over.f xW mI (λcdv A outer s H E hr=>(ah (cS (bP (aD (B4 T) T.x_is_over hr (aa (ae 0) (aa (ae 2) (aa (j4 T.g_ON rfl) (aa (ae 3) af)))))) (ao (aC (au (ae 1) (ae 2) (λ_ _=>rfl)))) aY)
  (ao (aC (aD (jq T) T.x_minus hr (aa (au (au (au (ae 0) ag (λ_ _=>rfl)) (ae 2) (λ_ _=>rfl)) ag (λ_ _=>rfl)) (aa (au (ae 1) (ae 2) (λ_ _=>rfl)) af)))))))
  vz
theorem B5:az xm ["ring","sending","tie"] (aq nH):=⟨rfl,rfl,rfl,y_,rfl,y_,y_⟩
theorem B6(T:Tx K mg ad fd):FnOk P w K mg base CX0 5 (ad 23) (fd 23) ["ring","sending","tie"] (spF K 3 oY) :=
 bc (k:=4) T.x_load_of.f B5 r9 (λcdv A outer s H E hr=>(ao (aC (aD (Fb T) T.x_sum_of hr (aa (ay (iW (sc:=(aq nH)) (N:=xm) (Nt:=["k"]) (Nf:=["ring","sending","tie"]) (fi:=[0,1,2]) rfl rfl rfl (fO rfl T.z_range (aQ eY rfl T.z_len y_ (aa (au (ae 0) ag (λ_ _=>rfl)) af))) rfl y_ y_ y_ x_ rfl y_ x_ (λ_ _ _ _=>(j3 x_ (show((["k"]:List Str)++(["ring","sending","tie"]:List Str)).Nodup by decide +kernel) rfl (Or.inl rfl))) (λ_ _ _ _=>iV) (λ_ _ _ _=>(aD (xX T) T.x_sent_over hr (aa (ae 1) (aa (ae 2) (aa (ae 0) (aa (ae 3) af)))))))) af)))))
  zv
theorem zG:az uk ["ring","sending"] (aq k8):=⟨rfl,rfl,rfl,y_,rfl,y_,y_⟩
theorem sO(T:Tx K mg ad fd):FnOk P w K mg base CX0 6 (ad 24) (fd 24) ["ring","sending"] (spF K 2 i8) :=
 bc (k:=5) T.x_loads_of.f zG oZ (λcdv A outer s H E hr=>(ao (aC (iW (sc:=(aq k8)) (N:=uk) (Nt:=["tie"]) (Nf:=["ring","sending"]) (fi:=[0,1]) rfl rfl rfl (fO rfl T.z_range (aQ eY rfl T.z_len y_ (aa (au (ae 0) ag (λ_ _=>rfl)) af))) rfl y_ y_ y_ x_ rfl y_ x_ (λ_ _ _ _=>(j3 x_ (show((["tie"]:List Str)++(["ring","sending"]:List Str)).Nodup by decide +kernel) rfl (Or.inl rfl))) (λ_ _ _ _=>iV) (λ_ _ _ _=>(aD (B6 T) T.x_load_of hr (aa (ae 1) (aa (ae 2) (aa (ae 0) af)))))))))
  xG
theorem zH:az um ["ring","thing"] (aq k9):=⟨rfl,rfl,rfl,y_,rfl,y_,y_⟩
theorem zJ(T:Tx K mg ad fd):FnOk P w K mg base CX0 2 (ad 25) (fd 25) ["ring","thing"] (spF K 2 i9) :=
 bc (k:=1) T.x_are_ways.f zH o4 (λcdv A outer s H E hr=>(ah (cS (Q0.pb (jU (fZ (bP (pH zZ rfl T.z_isinstance rfl T.z_list y_ (ae 1)))) (iR (Q2 (l9 hr.units) (aQ eY rfl T.z_len y_ (aa (ae 1) af)) (aQ eY rfl T.z_len y_ (aa (au (ae 0) ag (λ_ _=>rfl)) af)) (aS _))))) (ao (aC iQ)) aY)
  (ao (aC (aQ (Mm rfl) rfl T.z_all y_ (aa (ay (iW (sc:=(aq k9)) (N:=um) (Nt:=["way"]) (Nf:=[]) (fi:=[]) rfl rfl rfl (di (ae 1)) rfl y_ y_ y_ x_ rfl y_ x_ (λ_ _ _ _=>(j3 x_ (show((["way"]:List Str)++([]:List Str)).Nodup by decide +kernel) rfl (Or.inl rfl))) (λ_ _ _ _=>iV) (λ_ _ _ _=>(aD (sN T) T.x_is_way hr (aa (ae 0) af))))) af))))))
  xH
theorem B7:az xn ["ring","ways"] (aq nI):=⟨rfl,rfl,rfl,y_,rfl,y_,y_⟩
theorem pj(T:Tx K mg ad fd):FnOk P w K mg base CX0 1 (ad 26) (fd 26) ["ring","ways"] (spF K 2 iF) :=
 bc (k:=0) T.x_sent_by.f B7 sf (λcdv A outer s H E hr=>(ao (aC (iW (sc:=(aq nI)) (N:=xn) (Nt:=["ask","way"]) (Nf:=[]) (fi:=[]) rfl rfl rfl (yz rfl T.z_zip (au (ae 0) ag (λ_ _=>rfl)) (ae 1)) rfl y_ y_ y_ x_ rfl y_ x_ (λ_ _ _ _=>(Ad rfl (gK (i:=0) x_ (show((["ask","way"]:List Str)++([]:List Str)).Nodup by decide +kernel) rfl (Or.inl rfl) (gK (i:=1) x_ (show((["ask","way"]:List Str)++([]:List Str)).Nodup by decide +kernel) rfl (Or.inl rfl) uR)))) (λ_ _ _ _=>iV) (λ_ _ _ _=>(lF (Q2 (lu hr.units) (ae 1) (j4 T.g_ON rfl) (aS _)) (au (ae 0) ag (λ_ _=>rfl)) (j4 T.g_NOUGHT rfl)))))))
  zw
theorem tX:az vh ["part","way","amount"] (aq i0):=⟨rfl,rfl,rfl,y_,rfl,y_,y_⟩
theorem lY(T:Tx K mg ad fd):FnOk P w K mg base CX0 4 (ad 27) (fd 27) ["part","way","amount"] (spF K 3 eN) :=
 bc (k:=3) T.x_part_behind.f tX ja (λcdv A outer s H E hr=>(ao (aC (lF (Q2 (lu hr.units) (ae 1) (j4 T.g_ON rfl) (aS _)) (aD (sJ T) T.x_plus hr (aa (ae 0) (aa (ae 2) af))) (aD (jq T) T.x_minus hr (aa (ae 0) (aa (ae 2) af)))))))
  si
theorem pU:az ze ["sending","slide"] (aq mr):=⟨rfl,rfl,rfl,y_,rfl,y_,y_⟩
theorem pV(T:Tx K mg ad fd):FnOk P w K mg base CX0 5 (ad 28) (fd 28) ["sending","slide"] (spF K 2 gO) :=
 bc (k:=4) T.x_slid_once.f pU mJ (λcdv A outer s H E hr=>(ah (aE (i:=2) pU.nd rfl v4 (jY CZ rfl T.z_list y_ (aa (ae 0) af)))
  (ah (j2 2 (au (ae 1) ag (λ_ _=>rfl)) (aD (lY T) T.x_part_behind hr (aa (fJ (gj 2 (au (ae 1) ag (λ_ _=>rfl)) (λ_ _=>rfl)) (au (ae 2) (au (ae 1) ag (λ_ _=>rfl)) (λ_ _=>rfl))) (aa (au (ae 1) ag (λ_ _=>rfl)) (aa (au (ae 1) ag (λ_ _=>rfl)) af)))))
  (ah (j2 2 (au (ae 1) ag (λ_ _=>rfl)) (aD (lY T) T.x_part_behind hr (aa (fJ (gj 2 (au (ae 1) ag (λ_ _=>rfl)) (λ_ _=>rfl)) (au (ae 2) (au (ae 1) ag (λ_ _=>rfl)) (λ_ _=>rfl))) (aa (au (ae 1) ag (λ_ _=>rfl)) (aa (au (ae 1) ag (λ_ _=>rfl)) af)))))
  (ao (aC (fY 2)))))))
  vA
theorem kT:az lJ ["ring","k","way","l","other"] (aq eL):=⟨rfl,rfl,rfl,y_,rfl,y_,y_⟩
theorem kU(T:Tx K mg ad fd):FnOk P w K mg base CX0 2 (ad 29) (fd 29) ["ring","k","way","l","other"] (spF K 5 dP) :=
 bc (k:=1) T.x_share_no_tie.f kT ic (λcdv A outer s H E hr=>(ah (aE (i:=5) kT.nd rfl v4 (ay (aD (uw T) T.x_ties_of hr (aa (ae 0) (aa (ae 3) (aa (ae 4) af))))))
  (ao (aC (CN (aQ (Mn rfl) rfl T.z_any y_ (aa (ay (iW (sc:=(aq eL)) (N:=lJ) (Nt:=["tie"]) (Nf:=["taken"]) (fi:=[5]) rfl rfl rfl (di (aD (uw T) T.x_ties_of hr (aa (ae 0) (aa (ae 1) (aa (ae 2) af))))) rfl y_ y_ y_ x_ rfl y_ x_ (λ_ _ _ _=>(j3 x_ (show((["tie"]:List Str)++(["taken"]:List Str)).Nodup by decide +kernel) rfl (Or.inl rfl))) (λ_ _ _ _=>iV) (λ_ _ _ _=>(fX LZ (ae 0) (ae 1) rfl)))) af)))))))
  qf
theorem lB:az mv ["thing","asks"] (aq du):=⟨rfl,rfl,rfl,y_,rfl,y_,y_⟩
theorem lC(T:Tx K mg ad fd):FnOk P w K mg base CX0 4 (ad 30) (fd 30) ["thing","asks"] (spF K 2 cR) :=
 bc (k:=3) T.x_has_form_of_slide.f lB dz (λcdv A outer s H E hr=>(ah (cS (Q0.pb (jU (fZ (bP (pH qM rfl T.z_isinstance rfl T.z_tuple y_ (ae 0)))) (iR (Q2 (l9 hr.units) (aQ eY rfl T.z_len y_ (aa (ae 0) af)) ag (aS _))))) (ao (aC iQ)) aY)
  (ah (cS (Q0.pb (jU (fZ (bP (aD (g9 T) T.x_is_number_below hr (aa (au (ae 0) ag (λ_ _=>rfl)) (aa (ae 1) af))))) (iR (fZ (bP (aD (g9 T) T.x_is_number_below hr (aa (au (ae 0) ag (λ_ _=>rfl)) (aa (ae 1) af)))))))) (ao (aC iQ)) aY)
  (ao (aC (jx (aD (sN T) T.x_is_way hr (aa (au (ae 0) ag (λ_ _=>rfl)) af)) (jx (aD (sN T) T.x_is_way hr (aa (au (ae 0) ag (λ_ _=>rfl)) af)) (m5 (aD (zF T) T.x_is_ratio hr (aa (au (ae 0) ag (λ_ _=>rfl)) af))))))))))
  kC
theorem zK:az BS ["ring","sending","k","way"] (aq oQ):=⟨rfl,rfl,rfl,y_,rfl,y_,y_⟩
theorem sP(T:Tx K mg ad fd):FnOk P w K mg base CX0 4 (ad 31) (fd 31) ["ring","sending","k","way"] (spF K 4 jb) :=
 bc (k:=3) T.x_not_sent.f zK o5 (λcdv A outer s H E hr=>(ao (aC (lF (Q2 (lu hr.units) (ae 3) (j4 T.g_ON rfl) (aS _)) (aD (jq T) T.x_minus hr (aa (au (au (au (ae 0) ag (λ_ _=>rfl)) (ae 2) (λ_ _=>rfl)) ag (λ_ _=>rfl)) (aa (au (ae 1) (ae 2) (λ_ _=>rfl)) af))) (au (ae 1) (ae 2) (λ_ _=>rfl))))))
  xI
theorem xY:az zg ["ring","sending","slide"] (aq mw):=⟨rfl,rfl,rfl,y_,rfl,y_,y_⟩
theorem pW(T:Tx K mg ad fd):FnOk P w K mg base CX0 5 (ad 32) (fd 32) ["ring","sending","slide"] (spF K 3 gQ) :=
 bc (k:=4) T.x_most_slid.f xY mK (λcdv A outer s H E hr=>(ao (aC (aD (EY T) T.x_lesser hr (aa (ay (aD (sP T) T.x_not_sent hr (aa (ae 0) (aa (ae 1) (aa (au (ae 2) ag (λ_ _=>rfl)) (aa (au (ae 2) ag (λ_ _=>rfl)) af)))))) (aa (ay (aD (sP T) T.x_not_sent hr (aa (ae 0) (aa (ae 1) (aa (au (ae 2) ag (λ_ _=>rfl)) (aa (au (ae 2) ag (λ_ _=>rfl)) af)))))) af))))))
  vB
theorem zL:az BU ["ring","sending","thing"] (aq oR):=⟨rfl,rfl,rfl,y_,rfl,y_,y_⟩
theorem zM(T:Tx K mg ad fd):FnOk P w K mg base CX0 6 (ad 33) (fd 33) ["ring","sending","thing"] (spF K 3 mL) :=
 bc (k:=5) T.x_is_slide.f zL o6 (λcdv A outer s H E hr=>by exact(@ah _ _ _ _ _ (@cS _ _ _ _ _ _ _ _ (Q0.pb (jU (fZ (bP (aD (lC T) T.x_has_form_of_slide hr (@aa _ _ _ _ _ _ (ae 2) (@aa _ _ _ _ _ _ (@ay _ _ _ (aQ eY rfl T.z_len y_ (@aa _ _ _ _ _ _ (@au _ _ _ _ _ _ (ae 0) ag (λ_ _=>rfl)) af z_))) af z_) z_)))) (iR (Q2 (lu hr.units) (@au _ _ _ _ _ _ (ae 2) ag (λ_ _=>rfl)) (@au _ _ _ _ _ _ (ae 2) ag (λ_ _=>rfl)) (aS _))))) (@ao _ _ _ (@aC _ _ _ _ iQ)) aY) (@ah _ _ _ _ _ (@cS _ _ _ _ _ _ _ _ (fZ (bP (aD (kU T) T.x_share_no_tie hr (@aa _ _ _ _ _ _ (ae 0) (@aa _ _ _ _ _ _ (@au _ _ _ _ _ _ (ae 2) ag (λ_ _=>rfl)) (@aa _ _ _ _ _ _ (@au _ _ _ _ _ _ (ae 2) ag (λ_ _=>rfl)) (@aa _ _ _ _ _ _ (@au _ _ _ _ _ _ (ae 2) ag (λ_ _=>rfl)) (@aa _ _ _ _ _ _ (@au _ _ _ _ _ _ (ae 2) ag (λ_ _=>rfl)) af z_) z_) z_) z_) z_)))) (@ao _ _ _ (@aC _ _ _ _ iQ)) aY) (@ao _ _ _ (@aC _ _ _ _ (jx (aD (fT T) T.x_under hr (@aa _ _ _ _ _ _ (j4 T.g_NOUGHT rfl) (@aa _ _ _ _ _ _ (@au _ _ _ _ _ _ (ae 2) ag (λ_ _=>rfl)) af z_) z_)) (m5 (CN (aD (fT T) T.x_under hr (@aa _ _ _ _ _ _ (@ay _ _ _ (aD (pW T) T.x_most_slid hr (@aa _ _ _ _ _ _ (ae 0) (@aa _ _ _ _ _ _ (ae 1) (@aa _ _ _ _ _ _ (ae 2) af z_) z_) z_))) (@aa _ _ _ _ _ _ (@au _ _ _ _ _ _ (ae 2) ag (λ_ _=>rfl)) af z_) z_))))))))))
  xJ
theorem iM:az Eo ["ring","sending","thing"] (aq rE):=⟨rfl,rfl,rfl,y_,rfl,y_,y_⟩
theorem iN(T:Tx K mg ad fd):FnOk P w K mg base (RD P w) 7 (ad 34) (fd 34) ["ring","sending","thing"] (RH K 3 dE) :=
 MA (k:=6) T.x_slid_by.f iM (λxp=>sq xp) (λcdv A outer s H E xp hr hE=>(ah (cS (fZ (bP (pH zZ rfl T.z_isinstance rfl T.z_list y_ (ae 2)))) (ao (wX T.c_NoSlide (uv T) hr (Dp hE) (aa mW af))) aY)
  (ah (aE (i:=3) iM.nd rfl v4 (jY CZ rfl T.z_list y_ (aa (ae 1) af)))
  (ah (cy PassesOwn.leaving rfl (iX rfl T.z_enumerate (ae 2)) (jX rfl (aX (i:=4) iM.nd rfl v4 (aX (i:=5) iM.nd rfl v4 gh))) (ah (cS (fZ (bP (aD (zM T) T.x_is_slide hr (aa (ae 0) (aa (ae 3) (aa (ae 5) af)))))) (ao (wX T.c_NoSlide (uv T) hr (Dp hE) (aa (ae 4) af))) aY)
  (ao (aE (i:=3) iM.nd rfl v4 (aD (pV T) T.x_slid_once hr (aa (ae 3) (aa (ae 5) af)))))))
  (ao (aC (fY 3)))))))
  zy
theorem n6:az xq ["ring","k","l"] (aq kb):=⟨rfl,rfl,rfl,y_,rfl,y_,y_⟩
theorem vK(T:Tx K mg ad fd):FnOk P w K mg base CX0 3 (ad 35) (fd 35) ["ring","k","l"] (spF K 3 jc) :=
 bc (k:=2) T.x_ways_apart.f n6 kD (λcdv A outer s H E hr=>by exact(@ah _ _ _ _ _ (cy Vk rfl (di (@cf _ _ _ _ _ _ (@aa _ _ _ _ _ _ (@cf _ _ _ _ _ _ (@aa _ _ _ _ _ _ (j4 T.g_ON rfl) (@aa _ _ _ _ _ _ (j4 T.g_ON rfl) af z_) z_)) (@aa _ _ _ _ _ _ (@cf _ _ _ _ _ _ (@aa _ _ _ _ _ _ (j4 T.g_ON rfl) (@aa _ _ _ _ _ _ (j4 T.g_BACK rfl) af z_) z_)) (@aa _ _ _ _ _ _ (@cf _ _ _ _ _ _ (@aa _ _ _ _ _ _ (j4 T.g_BACK rfl) (@aa _ _ _ _ _ _ (j4 T.g_ON rfl) af z_) z_)) af z_) z_) z_))) (dg (i:=3) n6.nd rfl v4) (@ao _ _ _ (@cS _ _ _ _ _ _ _ _ (bP (aD (kU T) T.x_share_no_tie hr (@aa _ _ _ _ _ _ (ae 0) (@aa _ _ _ _ _ _ (ae 1) (@aa _ _ _ _ _ _ (@au _ _ _ _ _ _ (ae 3) ag (λ_ _=>rfl)) (@aa _ _ _ _ _ _ (ae 2) (@aa _ _ _ _ _ _ (@au _ _ _ _ _ _ (ae 3) ag (λ_ _=>rfl)) af z_) z_) z_) z_) z_))) (@ao _ _ _ (@aC _ _ _ _ (fY 3))) aY))) (@ao _ _ _ (@aC _ _ _ _ (@cf _ _ _ _ _ _ (@aa _ _ _ _ _ _ (j4 T.g_BACK rfl) (@aa _ _ _ _ _ _ (j4 T.g_BACK rfl) af z_) z_))))))
  tM
theorem eI:az qc ["ring","sending","k","l"] (aq ft):=⟨rfl,rfl,rfl,y_,rfl,y_,y_⟩
theorem pk(T:Tx K mg ad fd):FnOk P w K mg base CX0 6 (ad 36) (fd 36) ["ring","sending","k","l"] (spF K 4 eE) :=
 bc (k:=5) T.x_greatest_slide.f eI fv (λcdv A outer s H E hr=>(ah (aE (i:=4) eI.nd rfl v4 (ay (aD (vK T) T.x_ways_apart hr (aa (ae 0) (aa (ae 2) (aa (ae 3) af))))))
  (ah (aE (i:=5) eI.nd rfl v4 (cf (aa (ae 2) (aa (au (ae 4) ag (λ_ _=>rfl)) (aa (ae 3) (aa (au (ae 4) ag (λ_ _=>rfl)) af))))))
  (ao (aC (aG JF (ae 5) (cf (aa (ay (aD (pW T) T.x_most_slid hr (aa (ae 0) (aa (ae 1) (aa (ae 5) af))))) af))))))))
  nN
theorem b7:az xr ["ring","sending"] (aq kc):=⟨rfl,rfl,rfl,y_,rfl,y_,y_⟩
theorem n8(T:Tx K mg ad fd):FnOk P w K mg base CX0 7 (ad 37) (fd 37) ["ring","sending"] (spF K 2 fR) :=
 bc (k:=6) T.x_slides_for.f b7 kE (λcdv A outer s H E hr=>by exact(@ah _ _ _ _ _ (@aE _ _ _ 2 _ _ _ b7.nd rfl v4 (ae 1) z_ (by first | exact .inl rfl | exact .inr rfl)) (@ah _ _ _ _ _ (@aE _ _ _ 3 _ _ _ b7.nd rfl v4 (@eW _ _ _ _ _ af) z_ (by first | exact .inl rfl | exact .inr rfl)) (@ah _ _ _ _ _ (@aE _ _ _ 4 _ _ _ b7.nd rfl v4 (@ay _ _ _ (aD (cI T) T.x_first_side_by_side hr (@aa _ _ _ _ _ _ (ae 0) (@aa _ _ _ _ _ _ (@ay _ _ _ (aD (cH T) T.x_parted_in hr (@aa _ _ _ _ _ _ (ae 0) (@aa _ _ _ _ _ _ (ae 2) af z_) z_))) af z_) z_))) z_ (by first | exact .inl rfl | exact .inr rfl)) (@ah _ _ _ _ _ (qp Vk (Q2 z8 (ae 4) mW (aS _)) (@ah _ _ _ _ _ (@aE _ _ _ 5 _ _ _ b7.nd rfl v4 (@ay _ _ _ (aD (pk T) T.x_greatest_slide hr (@aa _ _ _ _ _ _ (ae 0) (@aa _ _ _ _ _ _ (ae 2) (@aa _ _ _ _ _ _ (@au _ _ _ _ _ _ (ae 4) ag (λ_ _=>rfl)) (@aa _ _ _ _ _ _ (@au _ _ _ _ _ _ (ae 4) ag (λ_ _=>rfl)) af z_) z_) z_) z_))) z_ (by first | exact .inl rfl | exact .inr rfl)) (@ah _ _ _ _ _ (ou (jZ 3 (ae 5))) (@ah _ _ _ _ _ (@aE _ _ _ 2 _ _ _ b7.nd rfl v4 (@ay _ _ _ (aD (pV T) T.x_slid_once hr (@aa _ _ _ _ _ _ (ae 2) (@aa _ _ _ _ _ _ (ae 5) af z_) z_))) z_ (by first | exact .inl rfl | exact .inr rfl)) (@ao _ _ _ (@aE _ _ _ 4 _ _ _ b7.nd rfl v4 (@ay _ _ _ (aD (cI T) T.x_first_side_by_side hr (@aa _ _ _ _ _ _ (ae 0) (@aa _ _ _ _ _ _ (@ay _ _ _ (aD (cH T) T.x_parted_in hr (@aa _ _ _ _ _ _ (ae 0) (@aa _ _ _ _ _ _ (ae 2) af z_) z_))) af z_) z_))) z_ (by first | exact .inl rfl | exact .inr rfl))))))) (@ao _ _ _ (@aC _ _ _ _ (fY 3))))))))
  tN
theorem tY:az vi ["ask","part"] (aq i3):=⟨rfl,rfl,rfl,y_,rfl,y_,y_⟩
theorem lZ(T:Tx K mg ad fd):FnOk P w K mg base CX0 1 (ad 38) (fd 38) ["ask","part"] (spF K 2 eO) :=
 bc (k:=0) T.x_nearest_way.f tY jd (λcdv A outer s H E hr=>(ao (aC (lF (Q2 (lu hr.units) (ae 1) (au (ae 0) ag (λ_ _=>rfl)) (aS _)) (j4 T.g_ON rfl) (j4 T.g_BACK rfl)))))
  su
theorem dC:az nJ ["ring","slid","parted","ways"] (aq dM):=⟨rfl,rfl,rfl,y_,rfl,y_,y_⟩
theorem mS(T:Tx K mg ad fd):FnOk P w K mg base CX0 2 (ad 39) (fd 39) ["ring","slid","parted","ways"] (spF K 4 dA) :=
 bc (k:=1) T.x_keeps_whole_asks.f dC dQ (λcdv A outer s H E hr=>(ah (cy Vk rfl (iX rfl T.z_enumerate (au (ae 0) ag (λ_ _=>rfl))) (jX rfl (aX (i:=4) dC.nd rfl v4 (aX (i:=5) dC.nd rfl v4 gh))) (ao (cS (Q0.pb (oo (Q2 zY (ae 4) (ae 2) rfl) (oo (Q2 (l9 hr.units) (au (ae 5) ag (λ_ _=>rfl)) (j4 T.g_NOUGHT rfl) (aS _)) (mZ (Q2 (l9 hr.units) (au (ae 3) (ae 4) (λ_ _=>rfl)) (aD (lZ T) T.x_nearest_way hr (aa (ae 5) (aa (au (ae 1) (ae 4) (λ_ _=>rfl)) af))) (aS _)))))) (ao (aC iQ)) aY)))
  (ao (aC iQ))))
  lz
theorem b8:az nK ["ring","some"] (aq dN):=⟨rfl,rfl,rfl,y_,rfl,y_,y_⟩
theorem gF(T:Tx K mg ad fd):FnOk P w K mg base CX0 4 (ad 40) (fd 40) ["ring","some"] (spF K 2 bZ) :=
 bc (k:=3) T.x_half_of_greatest.f b8 dR (λcdv A outer s H E hr=>(ah (aE (i:=2) b8.nd rfl v4 (j4 T.g_NOUGHT rfl))
  (ah (cy Vk rfl (di (ae 1)) (dg (i:=3) b8.nd rfl v4) (ao (aE (i:=2) b8.nd rfl v4 (ay (aD (B3 T) T.x_greater hr (aa (ae 2) (aa (au (au (au (ae 0) ag (λ_ _=>rfl)) (ae 3) (λ_ _=>rfl)) ag (λ_ _=>rfl)) af)))))))
  (ao (aC (aD (Hw T) T.x_times hr (aa (ae 2) (aa (j4 T.g_HALF rfl) af))))))))
  lA
theorem jN(T:Tx K mg ad fd):JV P w K mg base 2 "by_lesser_place" cj:=MI (k:=1) (p:="k") (y:="ring") (T.l_by_lesser_place.lam.trans rfl) (Ol rfl rfl rfl rfl rfl rfl λ_ _ _ _ _ _=>rfl) cG (λA outer s H f c c' hr=>(aD (gD T) T.x_lesser_place hr (aa (ae 1) (aa (ae 0) af)))) je
theorem n9:az oS ["ring","some"] (aq cK):=⟨rfl,rfl,rfl,y_,rfl,y_,y_⟩
theorem hG(T:Tx K mg ad fd):FnOk P w K mg base CX0 5 (ad 41) (fd 41) ["ring","some"] (spF K 2 cn) :=
 MM (k:=4) T.x_by_lesser_place.f n9 eF (λcdv A outer s H E hcv hr=>(ao (aC (Gw (jN T) hr 0 (ML T.l_by_lesser_place hcv rfl x_ rfl rfl rfl rfl rfl rfl) (ae 1) T.z_sorted))))
  mM
theorem vL:az xu ["ring","k"] (aq ke):=⟨rfl,rfl,rfl,y_,rfl,y_,y_⟩
theorem jr(T:Tx K mg ad fd):FnOk P w K mg base CX0 1 (ad 42) (fd 42) ["ring","k"] (spF K 2 dS) :=
 bc (k:=0) T.x_rising_way.f vL kF (λcdv A outer s H E hr=>(ao (aC (lF (Q2 m9 (au (au (au (ae 0) ag (λ_ _=>rfl)) (ae 1) (λ_ _=>rfl)) ag (λ_ _=>rfl)) (au (au (au (ae 0) ag (λ_ _=>rfl)) (ae 1) (λ_ _=>rfl)) ag (λ_ _=>rfl)) (aS _)) (j4 T.g_ON rfl) (j4 T.g_BACK rfl)))))
  tO
theorem pq:az Ep ["ring","sending","k","way"] (aq rF):=⟨rfl,rfl,rfl,y_,rfl,y_,y_⟩
theorem pA(T:Tx K mg ad fd):FnOk P w K mg base CX0 4 (ad 43) (fd 43) ["ring","sending","k","way"] (spF K 4 fW) :=
 bc (k:=3) T.x_gain_of.f pq sx (λcdv A outer s H E hr=>(ah (aE (i:=4) pq.nd rfl v4 (au (au (au (ae 0) ag (λ_ _=>rfl)) (ae 2) (λ_ _=>rfl)) ag (λ_ _=>rfl)))
  (ah (aE (i:=5) pq.nd rfl v4 (ay (lF (Q2 (lu hr.units) (aD (jr T) T.x_rising_way hr (aa (ae 0) (aa (ae 2) af))) (j4 T.g_ON rfl) (aS _)) (au (ae 1) (ae 2) (λ_ _=>rfl)) (aD (jq T) T.x_minus hr (aa (ae 4) (aa (au (ae 1) (ae 2) (λ_ _=>rfl)) af))))))
  (ao (aC (aD (jq T) T.x_minus hr (aa (lF (Q2 (lu hr.units) (ae 3) (aD (jr T) T.x_rising_way hr (aa (ae 0) (aa (ae 2) af))) (aS _)) (ae 4) (j4 T.g_NOUGHT rfl)) (aa (ae 5) af))))))))
  zA
theorem cJ:az tK ["ring","slid","parted","ways"] (aq ia):=⟨rfl,rfl,rfl,y_,rfl,y_,y_⟩
theorem sQ(T:Tx K mg ad fd):FnOk P w K mg base CX0 6 (ad 44) (fd 44) ["ring","slid","parted","ways"] (spF K 4 gz) :=
 bc (k:=5) T.x_keeps_within.f cJ ig (λcdv A outer s H E hr=>by exact(@ah _ _ _ _ _ (@aE _ _ _ 4 _ _ _ cJ.nd rfl v4 (@ay _ _ _ (aD (gF T) T.x_half_of_greatest hr (@aa _ _ _ _ _ _ (ae 0) (@aa _ _ _ _ _ _ (ae 2) af z_) z_))) z_ (by first | exact .inl rfl | exact .inr rfl)) (@ah _ _ _ _ _ (@aE _ _ _ 5 _ _ _ cJ.nd rfl v4 (j4 T.g_NOUGHT rfl) z_ (by first | exact .inl rfl | exact .inr rfl)) (@ah _ _ _ _ _ (cy Vk rfl (di (aD (hG T) T.x_by_lesser_place hr (@aa _ _ _ _ _ _ (ae 0) (@aa _ _ _ _ _ _ (ae 2) af z_) z_))) (dg (i:=6) cJ.nd rfl v4) (@ah _ _ _ _ _ (@aE _ _ _ 5 _ _ _ cJ.nd rfl v4 (@ay _ _ _ (aD (sJ T) T.x_plus hr (@aa _ _ _ _ _ _ (ae 5) (@aa _ _ _ _ _ _ (@ay _ _ _ (aD (pA T) T.x_gain_of hr (@aa _ _ _ _ _ _ (ae 0) (@aa _ _ _ _ _ _ (ae 1) (@aa _ _ _ _ _ _ (ae 6) (@aa _ _ _ _ _ _ (@au _ _ _ _ _ _ (ae 3) (ae 6) (λ_ _=>rfl)) af z_) z_) z_) z_))) af z_) z_))) z_ (by first | exact .inl rfl | exact .inr rfl)) (@ao _ _ _ (@cS _ _ _ _ _ _ _ _ (Q0.pb (jU (bP (aD (fT T) T.x_under hr (@aa _ _ _ _ _ _ (ae 4) (@aa _ _ _ _ _ _ (ae 5) af z_) z_))) (iR (bP (aD (fT T) T.x_under hr (@aa _ _ _ _ _ _ (ae 5) (@aa _ _ _ _ _ _ (@ay _ _ _ (aD (jq T) T.x_minus hr (@aa _ _ _ _ _ _ (j4 T.g_NOUGHT rfl) (@aa _ _ _ _ _ _ (ae 4) af z_) z_))) af z_) z_)))))) (@ao _ _ _ (@aC _ _ _ _ iQ)) aY)))) (@ao _ _ _ (@aC _ _ _ _ iQ))))))
  qg
theorem fC:az rG ["ring","sending","thing"] (aq gu):=⟨rfl,rfl,rfl,y_,rfl,y_,y_⟩
theorem fE(T:Tx K mg ad fd):FnOk P w K mg base CX0 8 (ad 45) (fd 45) ["ring","sending","thing"] (spF K 3 bF) :=
 bc (k:=7) T.x_lets_rounding.f fC gA (λcdv A outer s H E hr=>by exact(@ah _ _ _ _ _ (@cS _ _ _ _ _ _ _ _ (Q0.pb (jU (fZ (bP (pH qM rfl T.z_isinstance rfl T.z_tuple y_ (ae 2)))) (jU (Q2 (l9 hr.units) (aQ eY rfl T.z_len y_ (@aa _ _ _ _ _ _ (ae 2) af z_)) ag (aS _)) (iR (fZ (bP (aD (zJ T) T.x_are_ways hr (@aa _ _ _ _ _ _ (ae 0) (@aa _ _ _ _ _ _ (@au _ _ _ _ _ _ (ae 2) ag (λ_ _=>rfl)) af z_) z_)))))))) (@ao _ _ _ (@aC _ _ _ _ iQ)) aY) (@ah _ _ _ _ _ (JP rfl rfl T.h_NoSlide rfl (λ_ _ xt=>(Gi (JO (i:=3) fC.nd rfl v4 (JN (MC (iN T) T.x_slid_by hr (@aa _ _ _ _ _ _ (ae 0) (@aa _ _ _ _ _ _ (ae 1) (@aa _ _ _ _ _ _ (@au _ _ _ _ _ _ (ae 2) ag (λ_ _=>rfl)) af z_) z_) z_)))))) (λ_=>(@ao _ _ _ (@aC _ _ _ _ iQ)))) (@ah _ _ _ _ _ (@aE _ _ _ 4 _ _ _ fC.nd rfl v4 (@ay _ _ _ (aD (cH T) T.x_parted_in hr (@aa _ _ _ _ _ _ (ae 0) (@aa _ _ _ _ _ _ (ae 3) af z_) z_))) z_ (by first | exact .inl rfl | exact .inr rfl)) (@ah _ _ _ _ _ (@cS _ _ _ _ _ _ _ _ (Q2 z8 (aD (cI T) T.x_first_side_by_side hr (@aa _ _ _ _ _ _ (ae 0) (@aa _ _ _ _ _ _ (ae 4) af z_) z_)) mW (aS _)) (@ao _ _ _ (@aC _ _ _ _ iQ)) aY) (@ao _ _ _ (@aC _ _ _ _ (jx (aD (mS T) T.x_keeps_whole_asks hr (@aa _ _ _ _ _ _ (ae 0) (@aa _ _ _ _ _ _ (ae 3) (@aa _ _ _ _ _ _ (ae 4) (@aa _ _ _ _ _ _ (@au _ _ _ _ _ _ (ae 2) ag (λ_ _=>rfl)) af z_) z_) z_) z_)) (m5 (aD (sQ T) T.x_keeps_within hr (@aa _ _ _ _ _ _ (ae 0) (@aa _ _ _ _ _ _ (ae 3) (@aa _ _ _ _ _ _ (ae 4) (@aa _ _ _ _ _ _ (@au _ _ _ _ _ _ (ae 2) ag (λ_ _=>rfl)) af z_) z_) z_) z_)))))))))))
  o7
theorem bN:az lK ["ring","slid"] (aq eM):=⟨rfl,rfl,rfl,y_,rfl,y_,y_⟩
theorem sR(T:Tx K mg ad fd):FnOk P w K mg base CX0 6 (ad 46) (fd 46) ["ring","slid"] (spF K 2 gB) :=
 bc (k:=5) T.x_rounded_ways.f bN ij (λcdv A outer s H E hr=>by exact(@ah _ _ _ _ _ (@aE _ _ _ 2 _ _ _ bN.nd rfl v4 (@ay _ _ _ (aD (cH T) T.x_parted_in hr (@aa _ _ _ _ _ _ (ae 0) (@aa _ _ _ _ _ _ (ae 1) af z_) z_))) z_ (by first | exact .inl rfl | exact .inr rfl)) (@ah _ _ _ _ _ (yu bN.nd (j:=3) rfl v4 (sc:=(aq eM)) (N:=lK) (Nt:=[ "ask" ,"part" ]) (Nf:=[]) (fi:=[]) rfl rfl rfl (yz rfl T.z_zip (@au _ _ _ _ _ _ (ae 0) ag (λ_ _=>rfl)) (ae 1)) rfl y_ y_ y_ x_ rfl y_ x_ (λ_ _ _ _=>(Ad rfl (gK (i:=0) x_ (show(([ "ask" ,"part" ]:List Str)++([]:List Str)).Nodup by decide +kernel) rfl (Or.inl rfl) (gK (i:=1) x_ (show(([ "ask" ,"part" ]:List Str)++([]:List Str)).Nodup by decide +kernel) rfl (Or.inl rfl) uR)))) (λ_ _ _ _=>iV) (λ_ _ _ _=>(aD (lZ T) T.x_nearest_way hr (@aa _ _ _ _ _ _ (ae 0) (@aa _ _ _ _ _ _ (ae 1) af z_) z_)))) (@ah _ _ _ _ _ (@aE _ _ _ 4 _ _ _ bN.nd rfl v4 (@ay _ _ _ (aD (gF T) T.x_half_of_greatest hr (@aa _ _ _ _ _ _ (ae 0) (@aa _ _ _ _ _ _ (ae 2) af z_) z_))) z_ (by first | exact .inl rfl | exact .inr rfl)) (@ah _ _ _ _ _ (@aE _ _ _ 5 _ _ _ bN.nd rfl v4 (j4 T.g_NOUGHT rfl) z_ (by first | exact .inl rfl | exact .inr rfl)) (@ah _ _ _ _ _ (cy Vk rfl (di (aD (hG T) T.x_by_lesser_place hr (@aa _ _ _ _ _ _ (ae 0) (@aa _ _ _ _ _ _ (ae 2) af z_) z_))) (dg (i:=6) bN.nd rfl v4) (@ah _ _ _ _ _ (j2 3 (ae 6) (aD (jr T) T.x_rising_way hr (@aa _ _ _ _ _ _ (ae 0) (@aa _ _ _ _ _ _ (ae 6) af z_) z_))) (@ah _ _ _ _ _ (@cS _ _ _ _ _ _ _ _ (bP (aD (fT T) T.x_under hr (@aa _ _ _ _ _ _ (ae 4) (@aa _ _ _ _ _ _ (@ay _ _ _ (aD (sJ T) T.x_plus hr (@aa _ _ _ _ _ _ (ae 5) (@aa _ _ _ _ _ _ (@ay _ _ _ (aD (pA T) T.x_gain_of hr (@aa _ _ _ _ _ _ (ae 0) (@aa _ _ _ _ _ _ (ae 1) (@aa _ _ _ _ _ _ (ae 6) (@aa _ _ _ _ _ _ (@fJ _ _ _ _ _ (gj 3 (ae 6) (λ_ _=>rfl)) (@au _ _ _ _ _ _ (ae 3) (ae 6) (λ_ _=>rfl))) af z_) z_) z_) z_))) af z_) z_))) af z_) z_))) (@ao _ _ _ (j2 3 (ae 6) (aD (xV T) T.x_other_way hr (@aa _ _ _ _ _ _ (@fJ _ _ _ _ _ (gj 3 (ae 6) (λ_ _=>rfl)) (@au _ _ _ _ _ _ (ae 3) (ae 6) (λ_ _=>rfl))) af z_)))) aY) (@ao _ _ _ (@aE _ _ _ 5 _ _ _ bN.nd rfl v4 (@ay _ _ _ (aD (sJ T) T.x_plus hr (@aa _ _ _ _ _ _ (ae 5) (@aa _ _ _ _ _ _ (@ay _ _ _ (aD (pA T) T.x_gain_of hr (@aa _ _ _ _ _ _ (ae 0) (@aa _ _ _ _ _ _ (ae 1) (@aa _ _ _ _ _ _ (ae 6) (@aa _ _ _ _ _ _ (@fJ _ _ _ _ _ (gj 3 (ae 6) (λ_ _=>rfl)) (@au _ _ _ _ _ _ (ae 3) (ae 6) (λ_ _=>rfl))) af z_) z_) z_) z_))) af z_) z_))) z_ (by first | exact .inl rfl | exact .inr rfl)))))) (@ao _ _ _ (@aC _ _ _ _ (fY 3)))))))))
  qh
theorem l3:az vj ["ring","sending"] (aq i4):=⟨rfl,rfl,rfl,y_,rfl,y_,y_⟩
theorem l4(T:Tx K mg ad fd):FnOk P w K mg base CX0 8 (ad 47) (fd 47) ["ring","sending"] (spF K 2 eQ) :=
 bc (k:=7) T.x_rounding_of.f l3 jf (λcdv A outer s H E hr=>(ah (aE (i:=2) l3.nd rfl v4 (aD (n8 T) T.x_slides_for hr (aa (ae 0) (aa (ae 1) af))))
  (ao (aC (JZ 2 (dF 2 (aa (aD (sR T) T.x_rounded_ways hr (aa (ae 0) (aa (ay (JB 2 (Am (iN T) T.x_slid_by hr Al (aa (ae 0) (aa (ae 1) (aa (ae 2) af)))))) af))) af)))))))
  sE
theorem sS:az uo ["ring","sending","ways"] (aq lg):=⟨rfl,rfl,rfl,y_,rfl,y_,y_⟩
theorem sT(T:Tx K mg ad fd):FnOk P w K mg base CX0 7 (ad 48) (fd 48) ["ring","sending","ways"] (spF K 3 jg) :=
 bc (k:=6) T.x_gains_of.f sS o8 (λcdv A outer s H E hr=>(ah (aE (i:=3) sS.nd rfl v4 (ay (aD (sO T) T.x_loads_of hr (aa (ae 0) (aa (ay (aD (pj T) T.x_sent_by hr (aa (ae 0) (aa (ae 2) af)))) af)))))
  (ao (aC (iW (sc:=(aq lg)) (N:=uo) (Nt:=["load","parted"]) (Nf:=[]) (fi:=[]) rfl rfl rfl (yz rfl T.z_zip (ae 3) (aD (sO T) T.x_loads_of hr (aa (ae 0) (aa (ae 1) af)))) rfl y_ y_ y_ x_ rfl y_ x_ (λ_ _ _ _=>(Ad rfl (gK (i:=0) x_ (show((["load","parted"]:List Str)++([]:List Str)).Nodup by decide +kernel) rfl (Or.inl rfl) (gK (i:=1) x_ (show((["load","parted"]:List Str)++([]:List Str)).Nodup by decide +kernel) rfl (Or.inl rfl) uR)))) (λ_ _ _ _=>iV) (λ_ _ _ _=>(aD (jq T) T.x_minus hr (aa (ae 0) (aa (ae 1) af)))))))))
  xO
theorem jt:az xv ["_law_script","_law_k"] (aq kf):=⟨rfl,rfl,rfl,y_,rfl,y_,y_⟩
theorem fU(T:Tx K mg ad fd):FnOk P w K mg base CX0 1 (ad 49) (fd 49) ["_law_script","_law_k"] (spF K 2 cL) :=
 bc (k:=0) T.x__law_begun.f jt kG (λcdv A outer s H E hr=>(ah (aE (i:=2) jt.nd rfl v4 ag)
  (ah (cS (Q2 m9 (ae 1) (aQ eY rfl T.z_len y_ (aa (ae 0) af)) (aS _)) (ao (aE (i:=2) jt.nd rfl v4 (au (ae 0) (ae 1) (λ_ _=>rfl)))) aY)
  (ao (aC (eW (aa (ae 2) (aa (aG fG (aG cU (aG cU (aG fG (ae 2) ag) (aG br (aG br ag (ae 1)) (ae 1))) ag) ag) (aa (fX LV (ae 2) (aG CT ag ag) (aS _)) af)))))))))
  tP
theorem fb:az zh ["_law_state","_law_many"] (aq mx):=⟨rfl,rfl,rfl,y_,rfl,y_,y_⟩
theorem bD(T:Tx K mg ad fd):FnOk P w K mg base CX0 1 (ad 50) (fd 50) ["_law_state","_law_many"] (spF K 2 bg) :=
 bc (k:=0) T.x__law_take.f fb mN (λcdv A outer s H E hr=>(ah (cS (bP (fJ (gj 0 ag (λ_ _=>rfl)) (au (ae 0) ag (λ_ _=>rfl)))) (ah (aE (i:=2) fb.nd rfl v4 (aG fG (fJ (gj 0 ag (λ_ _=>rfl)) (au (ae 0) ag (λ_ _=>rfl))) (ae 1)))
  (ah (j2 0 ag (aG t8 (fJ (gj 0 ag (λ_ _=>rfl)) (au (ae 0) ag (λ_ _=>rfl))) (ae 1)))
  (ah (j2 0 ag (fX LU (fJ (gj 0 ag (λ_ _=>rfl)) (au (ae 0) ag (λ_ _=>rfl))) ag (aS _)))
  (ao (aC (fY 2)))))) aY)
  (ah (aE (i:=3) fb.nd rfl v4 ag)
  (ah (cy Vk rfl (fO rfl T.z_range (aG cU ag (aG br ag (jY HM rfl T.z_int y_ (aa (fX LU (ae 1) (aG CT ag ag) (aS _)) af))))) (dg (i:=4) fb.nd rfl v4) (ah (j2 0 ag (aG fG (aG cU (aG br (fJ (gj 0 ag (λ_ _=>rfl)) (au (ae 0) ag (λ_ _=>rfl))) ag) ag) ag))
  (ao (aE (i:=3) fb.nd rfl v4 (ay (aG cU (aG br (ae 3) ag) (aG fG (aG br (fJ (gj 0 ag (λ_ _=>rfl)) (au (ae 0) ag (λ_ _=>rfl))) (fJ (gj 0 ag (λ_ _=>rfl)) (au (ae 0) ag (λ_ _=>rfl)))) ag)))))))
  (ao (aC (aG fG (aG t8 (ae 3) ag) (ae 1))))))))
  vE
theorem gG:az BV ["_law_top","_law_bottom"] (aq oT):=⟨rfl,rfl,rfl,y_,rfl,y_,y_⟩
theorem gH(T:Tx K mg ad fd):FnOk P w K mg base CX0 1 (ad 51) (fd 51) ["_law_top","_law_bottom"] (spF K 2 dB) :=
 bc (k:=0) T.x__law_low.f gG o9 (λcdv A outer s H E hr=>(ah (aE (i:=2) gG.nd rfl v4 (ay (aQ CU rfl T.z_abs y_ (aa (ae 0) af))))
  (ah (aE (i:=3) gG.nd rfl v4 (ay (aQ CU rfl T.z_abs y_ (aa (ae 1) af))))
  (ah (qp Vk (Q2 (l9 hr.units) (ae 2) ag (aS _)) (ao (HN (i:=2) (j:=3) rfl gG.nd rfl rfl x_ rfl rfl (aG fG (ae 3) (ae 2)) (ae 2) rfl)))
  (ah (cS (Q2 m9 (ae 1) ag (aS _)) (ao (aE (i:=3) gG.nd rfl v4 (aG m8 ag (ae 3)))) aY)
  (ao (aC (cf (aa (aG t8 (ae 0) (ae 3)) (aa (aG t8 (ae 1) (ae 3)) af))))))))))
  xQ
theorem iw:az vk ["_law_state","_law_least","_law_kind"] (aq i5):=⟨rfl,rfl,rfl,y_,rfl,y_,y_⟩
theorem l5(T:Tx K mg ad fd):FnOk P w K mg base CX0 2 (ad 52) (fd 52) ["_law_state","_law_least","_law_kind"] (spF K 3 eR) :=
 bc (k:=1) T.x__law_amount.f iw ji (λcdv A outer s H E hr=>by exact(@ah _ _ _ _ _ (@aE _ _ _ 3 _ _ _ iw.nd rfl v4 (@ay _ _ _ (@aG _ _ _ _ _ _ _ _ cU ag (iB (bD T) T.x__law_take hr 0 0 (dF 0 (@aa _ _ _ _ _ _ (@au _ _ _ _ _ _ (@eW _ _ _ _ _ (@aa _ _ _ _ _ _ ag (@aa _ _ _ _ _ _ ag (@aa _ _ _ _ _ _ ag (@aa _ _ _ _ _ _ ag (@aa _ _ _ _ _ _ ag af z_) z_) z_) z_) z_)) (ae 2) (λ_ _=>rfl)) af z_))))) z_ (by first | exact .inl rfl | exact .inr rfl)) (@ah _ _ _ _ _ (@aE _ _ _ 4 _ _ _ iw.nd rfl v4 (@ay _ _ _ (@aG _ _ _ _ _ _ _ _ cU (ae 1) (iB (bD T) T.x__law_take hr 0 0 (dF 0 (@aa _ _ _ _ _ _ (@au _ _ _ _ _ _ (@eW _ _ _ _ _ (@aa _ _ _ _ _ _ ag (@aa _ _ _ _ _ _ ag (@aa _ _ _ _ _ _ ag (@aa _ _ _ _ _ _ ag (@aa _ _ _ _ _ _ (@aG _ _ _ _ _ _ _ _ CT ag ag) af z_) z_) z_) z_) z_)) (ae 2) (λ_ _=>rfl)) af z_))))) z_ (by first | exact .inl rfl | exact .inr rfl)) (@ao _ _ _ (@aC _ _ _ _ (aD (gH T) T.x__law_low hr (@aa _ _ _ _ _ _ (ae 4) (@aa _ _ _ _ _ _ (ae 3) af z_) z_)))))))
  sF
theorem bh:az zi ["_law_script"] (aq my):=⟨rfl,rfl,rfl,y_,rfl,y_,y_⟩
theorem xZ(T:Tx K mg ad fd):FnOk P w K mg base CX0 3 (ad 53) (fd 53) ["_law_script"] (spF K 1 kJ) :=
 bc (k:=2) T.x__law_made.f bh mO (λcdv A outer s H E hr=>by exact(@ah _ _ _ _ _ (@aE _ _ _ 1 _ _ _ bh.nd rfl v4 (aD (fU T) T.x__law_begun hr (@aa _ _ _ _ _ _ (ae 0) (@aa _ _ _ _ _ _ ag af z_) z_)) z_ (by first | exact .inl rfl | exact .inr rfl)) (@ah _ _ _ _ _ (@aE _ _ _ 2 _ _ _ bh.nd rfl v4 (aD (fU T) T.x__law_begun hr (@aa _ _ _ _ _ _ (ae 0) (@aa _ _ _ _ _ _ ag af z_) z_)) z_ (by first | exact .inl rfl | exact .inr rfl)) (@ah _ _ _ _ _ (@aE _ _ _ 3 _ _ _ bh.nd rfl v4 (@ay _ _ _ (iB (bD T) T.x__law_take hr 0 1 (dF 1 (@aa _ _ _ _ _ _ ag af z_)))) z_ (by first | exact .inl rfl | exact .inr rfl)) (@ah _ _ _ _ _ (@aE _ _ _ 4 _ _ _ bh.nd rfl v4 (@eW _ _ _ _ _ af) z_ (by first | exact .inl rfl | exact .inr rfl)) (@ah _ _ _ _ _ (@aE _ _ _ 5 _ _ _ bh.nd rfl v4 (yD rfl T.z_list rfl T.z_range rfl ag) z_ (by first | exact .inl rfl | exact .inr rfl)) (@ah _ _ _ _ _ (cy Vk rfl (fO rfl T.z_range (@aG _ _ _ _ _ _ _ _ cU ag (iB (bD T) T.x__law_take hr 0 1 (dF 1 (@aa _ _ _ _ _ _ ag af z_))))) (dg (i:=6) bh.nd rfl v4) (@ah _ _ _ _ _ (@aE _ _ _ 7 _ _ _ bh.nd rfl v4 (@ay _ _ _ (Gp 5 (iB (bD T) T.x__law_take hr 0 1 (dF 1 (@aa _ _ _ _ _ _ (@ay _ _ _ (@fJ _ _ _ _ _ (Jn 5 rfl T.z_len) (aQ eY rfl T.z_len PySem.boot_len (@aa _ _ _ _ _ _ (ae 5) af z_)))) af z_))))) z_ (by first | exact .inl rfl | exact .inr rfl)) (@ah _ _ _ _ _ (@aE _ _ _ 8 _ _ _ bh.nd rfl v4 (@eW _ _ _ _ _ (@aa _ _ _ _ _ _ (ae 7) (@aa _ _ _ _ _ _ (@ay _ _ _ (@aG _ _ _ _ _ _ _ _ cU (ae 7) ag)) af z_) z_)) z_ (by first | exact .inl rfl | exact .inr rfl)) (@ah _ _ _ _ _ (@cS _ _ _ _ _ _ _ _ (Q2 (lu hr.units) (iB (bD T) T.x__law_take hr 0 1 (dF 1 (@aa _ _ _ _ _ _ ag af z_))) ag (aS _)) (@ao _ _ _ (ou (BF 8))) aY) (@ao _ _ _ (ou (jZ 4 (@cf _ _ _ _ _ _ (@aa _ _ _ _ _ _ (@au _ _ _ _ _ _ mX (ae 6) (λ_ _=>rfl)) (@aa _ _ _ _ _ _ (@fJ _ _ _ _ _ (gj 8 ag (λ_ _=>rfl)) (@au _ _ _ _ _ _ (ae 8) ag (λ_ _=>rfl))) (@aa _ _ _ _ _ _ (@fJ _ _ _ _ _ (gj 8 ag (λ_ _=>rfl)) (@au _ _ _ _ _ _ (ae 8) ag (λ_ _=>rfl))) (@aa _ _ _ _ _ _ (@ay _ _ _ (iB (l5 T) T.x__law_amount hr 0 2 (dF 2 (@aa _ _ _ _ _ _ ag (@aa _ _ _ _ _ _ (ae 3) af z_) z_)))) af z_) z_) z_) z_))))))))) (@ah _ _ _ _ _ (@aE _ _ _ 1 _ _ _ bh.nd rfl v4 (aD (fU T) T.x__law_begun hr (@aa _ _ _ _ _ _ (ae 0) (@aa _ _ _ _ _ _ ag af z_) z_)) z_ (by first | exact .inl rfl | exact .inr rfl)) (@ah _ _ _ _ _ (cy Vk rfl (fO rfl T.z_range (iB (bD T) T.x__law_take hr 0 1 (dF 1 (@aa _ _ _ _ _ _ ag af z_)))) (dg (i:=6) bh.nd rfl v4) (@ah _ _ _ _ _ (@aE _ _ _ 9 _ _ _ bh.nd rfl v4 (@ay _ _ _ (iB (bD T) T.x__law_take hr 0 1 (dF 1 (@aa _ _ _ _ _ _ ag af z_)))) z_ (by first | exact .inl rfl | exact .inr rfl)) (@ah _ _ _ _ _ (@aE _ _ _ 10 _ _ _ bh.nd rfl v4 (@aG _ _ _ _ _ _ _ _ fG (@aG _ _ _ _ _ _ _ _ cU (@aG _ _ _ _ _ _ _ _ cU (ae 9) ag) (iB (bD T) T.x__law_take hr 0 1 (dF 1 (@aa _ _ _ _ _ _ ag af z_)))) ag) z_ (by first | exact .inl rfl | exact .inr rfl)) (@ao _ _ _ (ou (jZ 4 (@cf _ _ _ _ _ _ (@aa _ _ _ _ _ _ (@ay _ _ _ (@aG _ _ _ _ _ _ _ _ cU mX (@au _ _ _ _ _ _ mX (ae 6) (λ_ _=>rfl)))) (@aa _ _ _ _ _ _ (ae 9) (@aa _ _ _ _ _ _ (ae 10) (@aa _ _ _ _ _ _ (@ay _ _ _ (iB (l5 T) T.x__law_amount hr 0 1 (dF 1 (@aa _ _ _ _ _ _ ag (@aa _ _ _ _ _ _ (ae 3) af z_) z_)))) af z_) z_) z_) z_)))))))) (@ao _ _ _ (@aC _ _ _ _ (@cf _ _ _ _ _ _ (@aa _ _ _ _ _ _ (@ay _ _ _ (Dl (@eW _ _ _ _ _ (@aa _ _ _ _ _ _ (@cf _ _ _ _ _ _ (@aa _ _ _ _ _ _ ag (@aa _ _ _ _ _ _ ag af z_) z_)) af z_)) ag)) (@aa _ _ _ _ _ _ (ae 4) af z_) z_)))))))))))))
  vF
theorem bW:az zj ["_law_ring","_law_k","_law_way"] (aq mz):=⟨rfl,rfl,rfl,y_,rfl,y_,y_⟩
theorem ya(T:Tx K mg ad fd):FnOk P w K mg base CX0 1 (ad 54) (fd 54) ["_law_ring","_law_k","_law_way"] (spF K 3 kK) :=
 bc (k:=0) T.x__law_ties.f bW mP (λcdv A outer s H E hr=>(ah (yv (jX rfl (aX (i:=3) bW.nd rfl v4 (aX (i:=4) bW.nd rfl v4 (aX (i:=5) bW.nd rfl v4 (aX (i:=6) bW.nd rfl v4 gh))))) (au (au (ae 0) ag (λ_ _=>rfl)) (ae 1) (λ_ _=>rfl)))
  (ah (cS (Q2 (lu hr.units) (ae 2) mX (aS _)) (ao (HN (i:=4) (j:=5) rfl bW.nd rfl rfl x_ rfl rfl (ae 5) (ae 4) rfl)) aY)
  (ah (aE (i:=7) bW.nd rfl v4 (eW af))
  (ah (qp Vk (Q2 (l9 hr.units) (ae 4) (ae 5) (aS _)) (ah (ou (jZ 7 (ae 4)))
  (ao (aE (i:=4) bW.nd rfl v4 (aG fG (aG cU (ae 4) ag) (aQ eY rfl T.z_len y_ (aa (au (ae 0) ag (λ_ _=>rfl)) af)))))))
  (ao (aC (fY 7))))))))
  vH
theorem vM:az xw ["_law_one","_law_other"] (aq kg):=⟨rfl,rfl,rfl,y_,rfl,y_,y_⟩
theorem oa(T:Tx K mg ad fd):FnOk P w K mg base CX0 2 (ad 55) (fd 55) ["_law_one","_law_other"] (spF K 2 fS) :=
 bc (k:=1) T.x__law_minus.f vM kM (λcdv A outer s H E hr=>(ao (aC (aD (gH T) T.x__law_low hr (aa (aG m8 (aG br (au (ae 0) ag (λ_ _=>rfl)) (au (ae 1) ag (λ_ _=>rfl))) (aG br (au (ae 1) ag (λ_ _=>rfl)) (au (ae 0) ag (λ_ _=>rfl)))) (aa (ay (aG br (au (ae 0) ag (λ_ _=>rfl)) (au (ae 1) ag (λ_ _=>rfl)))) af))))))
  tR
theorem yb:az zk ["_law_one","_law_other"] (aq mB):=⟨rfl,rfl,rfl,y_,rfl,y_,y_⟩
theorem yc(T:Tx K mg ad fd):FnOk P w K mg base CX0 2 (ad 56) (fd 56) ["_law_one","_law_other"] (spF K 2 gR) :=
 bc (k:=1) T.x__law_plus.f yb mQ (λcdv A outer s H E hr=>(ao (aC (aD (gH T) T.x__law_low hr (aa (ay (aG cU (aG br (au (ae 0) ag (λ_ _=>rfl)) (au (ae 1) ag (λ_ _=>rfl))) (aG br (au (ae 1) ag (λ_ _=>rfl)) (au (ae 0) ag (λ_ _=>rfl))))) (aa (ay (aG br (au (ae 0) ag (λ_ _=>rfl)) (au (ae 1) ag (λ_ _=>rfl)))) af))))))
  vI
theorem b9:az xx ["_law_ring","_law_sending"] (aq ki):=⟨rfl,rfl,rfl,y_,rfl,y_,y_⟩
theorem ju(T:Tx K mg ad fd):FnOk P w K mg base CX0 3 (ad 57) (fd 57) ["_law_ring","_law_sending"] (spF K 2 dU) :=
 bc (k:=2) T.x__law_loads.f b9 kN (λcdv A outer s H E hr=>by exact(@ah _ _ _ _ _ (@aE _ _ _ 2 _ _ _ b9.nd rfl v4 (Dl (@eW _ _ _ _ _ (@aa _ _ _ _ _ _ (@cf _ _ _ _ _ _ (@aa _ _ _ _ _ _ ag (@aa _ _ _ _ _ _ ag af z_) z_)) af z_)) (aQ eY rfl T.z_len y_ (@aa _ _ _ _ _ _ (@au _ _ _ _ _ _ (ae 0) ag (λ_ _=>rfl)) af z_))) z_ (by first | exact .inl rfl | exact .inr rfl)) (@ah _ _ _ _ _ (cy Vk rfl (iX rfl T.z_enumerate (ae 1)) (jX rfl (aX (i:=3) b9.nd rfl v4 (aX (i:=4) b9.nd rfl v4 gh))) (@ao _ _ _ (cy Vk rfl (di (@eW _ _ _ _ _ (@aa _ _ _ _ _ _ (@cf _ _ _ _ _ _ (@aa _ _ _ _ _ _ mX (@aa _ _ _ _ _ _ (ae 4) af z_) z_)) (@aa _ _ _ _ _ _ (@cf _ _ _ _ _ _ (@aa _ _ _ _ _ _ mX (@aa _ _ _ _ _ _ (@ay _ _ _ (aD (oa T) T.x__law_minus hr (@aa _ _ _ _ _ _ (@au _ _ _ _ _ _ (@au _ _ _ _ _ _ (@au _ _ _ _ _ _ (ae 0) ag (λ_ _=>rfl)) (ae 3) (λ_ _=>rfl)) ag (λ_ _=>rfl)) (@aa _ _ _ _ _ _ (ae 4) af z_) z_))) af z_) z_)) af z_) z_))) (jX rfl (aX (i:=5) b9.nd rfl v4 (aX (i:=6) b9.nd rfl v4 gh))) (@ao _ _ _ (cy Vk rfl (di (aD (ya T) T.x__law_ties hr (@aa _ _ _ _ _ _ (ae 0) (@aa _ _ _ _ _ _ (ae 3) (@aa _ _ _ _ _ _ (ae 5) af z_) z_) z_))) (dg (i:=7) b9.nd rfl v4) (@ao _ _ _ (j2 2 (ae 7) (aD (yc T) T.x__law_plus hr (@aa _ _ _ _ _ _ (@fJ _ _ _ _ _ (gj 2 (ae 7) (λ_ _=>rfl)) (@au _ _ _ _ _ _ (ae 2) (ae 7) (λ_ _=>rfl))) (@aa _ _ _ _ _ _ (ae 6) af z_) z_))))))))) (@ao _ _ _ (@aC _ _ _ _ (fY 2))))))
  tS
theorem vN:az xy ["_law_one","_law_other"] (aq kj):=⟨rfl,rfl,rfl,y_,rfl,y_,y_⟩
theorem jv(T:Tx K mg ad fd):FnOk P w K mg base CX0 1 (ad 58) (fd 58) ["_law_one","_law_other"] (spF K 2 dW) :=
 bc (k:=0) T.x__law_under.f vN kO (λcdv A outer s H E hr=>(ao (aC (fX m9 (aG br (au (ae 0) ag (λ_ _=>rfl)) (au (ae 1) ag (λ_ _=>rfl))) (aG br (au (ae 1) ag (λ_ _=>rfl)) (au (ae 0) ag (λ_ _=>rfl))) (aS _)))))
  tT
theorem c8:az rH ["_law_ring","_law_some"] (aq gv):=⟨rfl,rfl,rfl,y_,rfl,y_,y_⟩
theorem qk(T:Tx K mg ad fd):FnOk P w K mg base CX0 2 (ad 59) (fd 59) ["_law_ring","_law_some"] (spF K 2 fz) :=
 bc (k:=1) T.x__law_greatest.f c8 gC (λcdv A outer s H E hr=>(ah (aE (i:=2) c8.nd rfl v4 (cf (aa ag (aa ag af))))
  (ah (cy Vk rfl (di (ae 1)) (dg (i:=3) c8.nd rfl v4) (ao (cS (bP (aD (jv T) T.x__law_under hr (aa (ae 2) (aa (au (au (au (ae 0) ag (λ_ _=>rfl)) (ae 3) (λ_ _=>rfl)) ag (λ_ _=>rfl)) af)))) (ao (aE (i:=2) c8.nd rfl v4 (au (au (au (ae 0) ag (λ_ _=>rfl)) (ae 3) (λ_ _=>rfl)) ag (λ_ _=>rfl)))) aY)))
  (ao (aC (fY 2))))))
  pd
theorem bA:az jz ["_law_ring","_law_sending","_law_rounding"] (aq cX):=⟨rfl,rfl,rfl,y_,rfl,y_,y_⟩
theorem pB(T:Tx K mg ad fd):FnOk P w K mg base CX0 9 (ad 60) (fd 60) ["_law_ring","_law_sending","_law_rounding"] (spF K 3 eG) :=
 bc (k:=8) T.x__law_bent_fall.f bA fA (λcdv A outer s H E hr=>by exact(@ah _ _ _ _ _ (yv (jX rfl (aX (i:=3) bA.nd rfl v4 (aX (i:=4) bA.nd rfl v4 gh))) (ae 2)) (@ah _ _ _ _ _ (@cS _ _ _ _ _ _ _ _ (bP (aD (fE T) T.x_lets_rounding hr (@aa _ _ _ _ _ _ (ae 0) (@aa _ _ _ _ _ _ (ae 1) (@aa _ _ _ _ _ _ (@cf _ _ _ _ _ _ (@aa _ _ _ _ _ _ (ae 3) (@aa _ _ _ _ _ _ (@ay _ _ _ (jY FP rfl T.z_tuple y_ (@aa _ _ _ _ _ _ (ae 4) af z_))) af z_) z_)) af z_) z_) z_))) (@ao _ _ _ (@aC _ _ _ _ iQ)) aY) (@ah _ _ _ _ _ (@aE _ _ _ 5 _ _ _ bA.nd rfl v4 (@ay _ _ _ (aD (cH T) T.x_parted_in hr (@aa _ _ _ _ _ _ (ae 0) (@aa _ _ _ _ _ _ (@ay _ _ _ (Am (iN T) T.x_slid_by hr Al (@aa _ _ _ _ _ _ (ae 0) (@aa _ _ _ _ _ _ (ae 1) (@aa _ _ _ _ _ _ (ae 3) af z_) z_) z_))) af z_) z_))) z_ (by first | exact .inl rfl | exact .inr rfl)) (@ah _ _ _ _ _ (yu bA.nd (j:=6) rfl v4 (sc:=(aq cX)) (N:=jz) (Nt:=[ "_law_k" ]) (Nf:=[ "_law_parted" ,"_law_ring" ]) (fi:=[5,0]) rfl rfl rfl (fO rfl T.z_range (aQ eY rfl T.z_len y_ (@aa _ _ _ _ _ _ (ae 4) af z_))) rfl y_ y_ y_ x_ rfl y_ x_ (λ_ _ _ _=>(j3 x_ (show(([ "_law_k" ]:List Str)++([ "_law_parted" ,"_law_ring" ]:List Str)).Nodup by decide +kernel) rfl (Or.inl rfl))) (λ_ _ _ _=>(yt (Q0.pb (oo (Q2 zY (ae 0) (ae 1) rfl) (mZ (Q2 (l9 hr.units) (@au _ _ _ _ _ _ (@au _ _ _ _ _ _ (@au _ _ _ _ _ _ (ae 2) ag (λ_ _=>rfl)) (ae 0) (λ_ _=>rfl)) ag (λ_ _=>rfl)) (@cf _ _ _ _ _ _ (@aa _ _ _ _ _ _ ag (@aa _ _ _ _ _ _ ag af z_) z_)) (aS _))))))) (λ_ _ _ _=>(ae 0))) (@ah _ _ _ _ _ (cy Vk rfl (di (@aG _ _ _ _ _ _ _ _ cU (@j6 _ _ _ _ _ _ _ _ _ (ae 6) trivial ag) (@j6 _ _ _ _ _ _ _ _ _ (ae 6) (HJ ag) trivial))) (dg (i:=7) bA.nd rfl v4) (@ah _ _ _ _ _ (@aE _ _ _ 8 _ _ _ bA.nd rfl v4 (@au _ _ _ _ _ _ (@eW _ _ _ _ _ (@aa _ _ _ _ _ _ mX (@aa _ _ _ _ _ _ mX af z_) z_)) (jY HM rfl T.z_int y_ (@aa _ _ _ _ _ _ (fX (lu hr.units) (@au _ _ _ _ _ _ (ae 4) (ae 7) (λ_ _=>rfl)) mX (aS _)) af z_)) (λ_ _=>rfl)) z_ (by first | exact .inl rfl | exact .inr rfl)) (@ao _ _ _ (@cS _ _ _ _ _ _ _ _ (bP (aD (fE T) T.x_lets_rounding hr (@aa _ _ _ _ _ _ (ae 0) (@aa _ _ _ _ _ _ (ae 1) (@aa _ _ _ _ _ _ (@cf _ _ _ _ _ _ (@aa _ _ _ _ _ _ (ae 3) (@aa _ _ _ _ _ _ (@ay _ _ _ (@aG _ _ _ _ _ _ _ _ cU (@aG _ _ _ _ _ _ _ _ cU (@j6 _ _ _ _ _ _ _ _ _ (ae 4) trivial (ae 7)) (@eW _ _ _ _ _ (@aa _ _ _ _ _ _ (ae 8) af z_))) (@j6 _ _ _ _ _ _ _ _ _ (ae 4) (@aG _ _ _ _ _ _ _ _ cU (ae 7) ag) trivial))) af z_) z_)) af z_) z_) z_))) (@ao _ _ _ (@aC _ _ _ _ iQ)) aY)))) (@ao _ _ _ (@aC _ _ _ _ iQ))))))))
  nY
theorem eK:az qd ["_law_ring","_law_some"] (aq fu):=⟨rfl,rfl,rfl,y_,rfl,y_,y_⟩
theorem pC(T:Tx K mg ad fd):FnOk P w K mg base CX0 3 (ad 61) (fd 61) ["_law_ring","_law_some"] (spF K 2 eH) :=
 bc (k:=2) T.x__law_all_cross.f eK fB (λcdv A outer s H E hr=>(ah (cy Vk rfl (di (ae 1)) (dg (i:=2) eK.nd rfl v4) (ao (cy Vk rfl (di (ae 1)) (dg (i:=3) eK.nd rfl v4) (ao (cS (Q0.pb (oo (Q2 m9 (ae 2) (ae 3) (aS _)) (mZ (fZ (bP (aD (sM T) T.x_do_cross hr (aa (ae 0) (aa (ae 2) (aa (ae 3) af))))))))) (ao (aC iQ)) aY)))))
  (ao (aC iQ))))
  nZ
theorem ba:az xA ["_law_ring","_law_sending"] (aq kq):=⟨rfl,rfl,rfl,y_,rfl,y_,y_⟩
theorem vO(T:Tx K mg ad fd):FnOk P w K mg base CX0 10 (ad 62) (fd 62) ["_law_ring","_law_sending"] (spF K 2 jm) :=
 bc (k:=9) T.x__law_right.f ba kP (λcdv A outer s H E hr=>by exact(@ah _ _ _ _ _ (@aE _ _ _ 2 _ _ _ ba.nd rfl v4 (@ay _ _ _ (aD (ju T) T.x__law_loads hr (@aa _ _ _ _ _ _ (ae 0) (@aa _ _ _ _ _ _ (ae 1) af z_) z_))) z_ (by first | exact .inl rfl | exact .inr rfl)) (@ah _ _ _ _ _ (@aE _ _ _ 3 _ _ _ ba.nd rfl v4 (@ay _ _ _ (Am (iN T) T.x_slid_by hr Al (@aa _ _ _ _ _ _ (ae 0) (@aa _ _ _ _ _ _ (ae 1) (@aa _ _ _ _ _ _ (@ay _ _ _ (aD (n8 T) T.x_slides_for hr (@aa _ _ _ _ _ _ (ae 0) (@aa _ _ _ _ _ _ (ae 1) af z_) z_))) af z_) z_) z_))) z_ (by first | exact .inl rfl | exact .inr rfl)) (@ah _ _ _ _ _ (cy Vk rfl (iX rfl T.z_enumerate (aD (ju T) T.x__law_loads hr (@aa _ _ _ _ _ _ (ae 0) (@aa _ _ _ _ _ _ (ae 3) af z_) z_))) (jX rfl (aX (i:=4) ba.nd rfl v4 (aX (i:=5) ba.nd rfl v4 gh))) (@ao _ _ _ (@cS _ _ _ _ _ _ _ _ (bP (aD (jv T) T.x__law_under hr (@aa _ _ _ _ _ _ (@au _ _ _ _ _ _ (ae 2) (ae 4) (λ_ _=>rfl)) (@aa _ _ _ _ _ _ (ae 5) af z_) z_))) (@ao _ _ _ (@aC _ _ _ _ mW)) aY))) (@ah _ _ _ _ _ (@aE _ _ _ 6 _ _ _ ba.nd rfl v4 (@ay _ _ _ (aD (l4 T) T.x_rounding_of hr (@aa _ _ _ _ _ _ (ae 0) (@aa _ _ _ _ _ _ (ae 1) af z_) z_))) z_ (by first | exact .inl rfl | exact .inr rfl)) (@ah _ _ _ _ _ (@cS _ _ _ _ _ _ _ _ (Q0.pb (jU (fZ (bP (aD (pC T) T.x__law_all_cross hr (@aa _ _ _ _ _ _ (ae 0) (@aa _ _ _ _ _ _ (@ay _ _ _ (aD (cH T) T.x_parted_in hr (@aa _ _ _ _ _ _ (ae 0) (@aa _ _ _ _ _ _ (ae 3) af z_) z_))) af z_) z_)))) (iR (fZ (bP (aD (fE T) T.x_lets_rounding hr (@aa _ _ _ _ _ _ (ae 0) (@aa _ _ _ _ _ _ (ae 1) (@aa _ _ _ _ _ _ (ae 6) af z_) z_) z_))))))) (@ao _ _ _ (@aC _ _ _ _ mW)) aY) (@ah _ _ _ _ _ (@cS _ _ _ _ _ _ _ _ (fZ (bP (aD (pB T) T.x__law_bent_fall hr (@aa _ _ _ _ _ _ (ae 0) (@aa _ _ _ _ _ _ (ae 1) (@aa _ _ _ _ _ _ (ae 6) af z_) z_) z_)))) (@ao _ _ _ (@aC _ _ _ _ mW)) aY) (@ah _ _ _ _ _ (@aE _ _ _ 7 _ _ _ ba.nd rfl v4 (@ay _ _ _ (aD (pj T) T.x_sent_by hr (@aa _ _ _ _ _ _ (ae 0) (@aa _ _ _ _ _ _ (@au _ _ _ _ _ _ (ae 6) ag (λ_ _=>rfl)) af z_) z_))) z_ (by first | exact .inl rfl | exact .inr rfl)) (@ah _ _ _ _ _ (@aE _ _ _ 8 _ _ _ ba.nd rfl v4 (@ay _ _ _ (aD (qk T) T.x__law_greatest hr (@aa _ _ _ _ _ _ (ae 0) (@aa _ _ _ _ _ _ (@ay _ _ _ (aD (cH T) T.x_parted_in hr (@aa _ _ _ _ _ _ (ae 0) (@aa _ _ _ _ _ _ (@ay _ _ _ (Am (iN T) T.x_slid_by hr Al (@aa _ _ _ _ _ _ (ae 0) (@aa _ _ _ _ _ _ (ae 1) (@aa _ _ _ _ _ _ (@au _ _ _ _ _ _ (ae 6) ag (λ_ _=>rfl)) af z_) z_) z_))) af z_) z_))) af z_) z_))) z_ (by first | exact .inl rfl | exact .inr rfl)) (@ah _ _ _ _ _ (@aE _ _ _ 9 _ _ _ ba.nd rfl v4 (@ay _ _ _ (aD (sT T) T.x_gains_of hr (@aa _ _ _ _ _ _ (ae 0) (@aa _ _ _ _ _ _ (ae 1) (@aa _ _ _ _ _ _ (@au _ _ _ _ _ _ (ae 6) ag (λ_ _=>rfl)) af z_) z_) z_))) z_ (by first | exact .inl rfl | exact .inr rfl)) (@ah _ _ _ _ _ (cy Vk rfl (iX rfl T.z_enumerate (aD (ju T) T.x__law_loads hr (@aa _ _ _ _ _ _ (ae 0) (@aa _ _ _ _ _ _ (ae 7) af z_) z_))) (jX rfl (aX (i:=4) ba.nd rfl v4 (aX (i:=5) ba.nd rfl v4 gh))) (@ah _ _ _ _ _ (@aE _ _ _ 10 _ _ _ ba.nd rfl v4 (@ay _ _ _ (aD (oa T) T.x__law_minus hr (@aa _ _ _ _ _ _ (ae 5) (@aa _ _ _ _ _ _ (@au _ _ _ _ _ _ (ae 2) (ae 4) (λ_ _=>rfl)) af z_) z_))) z_ (by first | exact .inl rfl | exact .inr rfl)) (@ao _ _ _ (@cS _ _ _ _ _ _ _ _ (Q0.pb (jU (Q2 (l9 hr.units) (ae 10) (@au _ _ _ _ _ _ (ae 9) (ae 4) (λ_ _=>rfl)) (aS _)) (iR (bP (aD (jv T) T.x__law_under hr (@aa _ _ _ _ _ _ (@ay _ _ _ (aD (gH T) T.x__law_low hr (@aa _ _ _ _ _ _ (@ay _ _ _ (@aG _ _ _ _ _ _ _ _ br ag (@au _ _ _ _ _ _ (ae 8) ag (λ_ _=>rfl)))) (@aa _ _ _ _ _ _ (@ay _ _ _ (@aG _ _ _ _ _ _ _ _ br ag (@au _ _ _ _ _ _ (ae 8) ag (λ_ _=>rfl)))) af z_) z_))) (@aa _ _ _ _ _ _ (ae 10) af z_) z_)))))) (@ao _ _ _ (@aC _ _ _ _ mW)) aY)))) (@ao _ _ _ (@aC _ _ _ _ (@au _ _ _ _ _ _ (ae 6) ag (λ_ _=>rfl)))))))))))))))
  tU
theorem bS:az xB ["_law_state","_law_ring"] (aq kr):=⟨rfl,rfl,rfl,y_,rfl,y_,y_⟩
theorem vP(T:Tx K mg ad fd):FnOk P w K mg base CX0 2 (ad 63) (fd 63) ["_law_state","_law_ring"] (spF K 2 jn) :=
 bc (k:=1) T.x__law_parts.f bS kQ (λcdv A outer s H E hr=>(ah (aE (i:=2) bS.nd rfl v4 (eW af))
  (ah (cy Vk rfl (di (au (ae 1) ag (λ_ _=>rfl))) (jX rfl (aX (i:=3) bS.nd rfl v4 (aX (i:=4) bS.nd rfl v4 (aX (i:=5) bS.nd rfl v4 (aX (i:=6) bS.nd rfl v4 gh))))) (ah (aE (i:=7) bS.nd rfl v4 (ay (iB (bD T) T.x__law_take hr 0 0 (dF 0 (aa ag af)))))
  (ah (aE (i:=8) bS.nd rfl v4 (ay (iB (bD T) T.x__law_take hr 0 0 (dF 0 (aa ag af)))))
  (ao (ou (jZ 2 (au (eW (aa (cf (aa ag (aa ag af))) (aa (ae 6) (aa (ay (aD (gH T) T.x__law_low hr (aa (ay (aG br (au (ae 6) ag (λ_ _=>rfl)) (ae 8))) (aa (ay (aG br (au (ae 6) ag (λ_ _=>rfl)) ag)) af)))) af)))) (aQ (CW rfl) rfl T.z_min y_ (aa (ae 7) (aa ag af))) (λ_ _=>rfl))))))))
  (ao (aC (fY 2))))))
  tV
theorem oe:az Nm ["_law_script"] (aq Er):=⟨rfl,rfl,rfl,y_,rfl,y_,y_⟩
theorem NC(T:Tx K mg ad fd):FnOk P w K mg base CX0 11 (ad 64) (fd 64) ["_law_script"] (spF K 1 fs_law) :=
 bc (k:=10) T.x_law.f oe KY (λcdv A outer s H E hr=>by exact(@ah _ _ _ _ _ (@aE _ _ _ 1 _ _ _ oe.nd rfl v4 (@ay _ _ _ (aD (xZ T) T.x__law_made hr (@aa _ _ _ _ _ _ (ae 0) af z_))) z_ (by first | exact .inl rfl | exact .inr rfl)) (@ah _ _ _ _ _ (@aE _ _ _ 2 _ _ _ oe.nd rfl v4 (@ay _ _ _ (aQ (Dk hr) rfl T.z_repr y_ (@aa _ _ _ _ _ _ (ae 1) af z_))) z_ (by first | exact .inl rfl | exact .inr rfl)) (@ah _ _ _ _ _ (cy Vk rfl (FN rfl T.z_range ag (aQ (HL rfl) rfl T.z_max y_ (@aa _ _ _ _ _ _ ag (@aa _ _ _ _ _ _ (@ay _ _ _ (aQ (CW rfl) rfl T.z_min y_ (@aa _ _ _ _ _ _ (@ay _ _ _ (aQ eY rfl T.z_len y_ (@aa _ _ _ _ _ _ (ae 0) af z_))) (@aa _ _ _ _ _ _ ag af z_) z_))) af z_) z_))) (dg (i:=3) oe.nd rfl v4) (@ah _ _ _ _ _ (@aE _ _ _ 4 _ _ _ oe.nd rfl v4 (@ay _ _ _ (aD (vO T) T.x__law_right hr (@aa _ _ _ _ _ _ (ae 1) (@aa _ _ _ _ _ _ (@ay _ _ _ (aD (vP T) T.x__law_parts hr (@aa _ _ _ _ _ _ (aD (fU T) T.x__law_begun hr (@aa _ _ _ _ _ _ (ae 0) (@aa _ _ _ _ _ _ (ae 3) af z_) z_)) (@aa _ _ _ _ _ _ (ae 1) af z_) z_))) af z_) z_))) z_ (by first | exact .inl rfl | exact .inr rfl)) (@ah _ _ _ _ _ (@cS _ _ _ _ _ _ _ _ (Q2 Js (ae 4) mW (aS _)) (@ao _ _ _ (@aC _ _ _ _ iQ)) aY) (@ah _ _ _ _ _ (@aE _ _ _ 5 _ _ _ oe.nd rfl v4 (@ay _ _ _ (aD (pj T) T.x_sent_by hr (@aa _ _ _ _ _ _ (ae 1) (@aa _ _ _ _ _ _ (ae 4) af z_) z_))) z_ (by first | exact .inl rfl | exact .inr rfl)) (@ah _ _ _ _ _ (yv (jX rfl (aX (i:=6) oe.nd rfl v4 (aX (i:=7) oe.nd rfl v4 gh))) (aD (l4 T) T.x_rounding_of hr (@aa _ _ _ _ _ _ (ae 1) (@aa _ _ _ _ _ _ (ae 5) af z_) z_))) (@ah _ _ _ _ _ (yu oe.nd (j:=8) rfl v4 (sc:=(aq Er)) (N:=Nm) (Nt:=[ "_law_one" ]) (Nf:=[ "_law_ring" ,"_law_again" ,"_law_ways" ]) (fi:=[1,7,4]) rfl rfl rfl (fO rfl T.z_range (aQ eY rfl T.z_len y_ (@aa _ _ _ _ _ _ (ae 4) af z_))) rfl y_ y_ y_ x_ rfl y_ x_ (λ_ _ _ _=>(j3 x_ (show(([ "_law_one" ]:List Str)++([ "_law_ring" ,"_law_again" ,"_law_ways" ]:List Str)).Nodup by decide +kernel) rfl (Or.inl rfl))) (λ_ _ _ _=>(yt (Q0.pb (oo (Q2 (l9 hr.units) (@au _ _ _ _ _ _ (@au _ _ _ _ _ _ (@au _ _ _ _ _ _ (ae 1) ag (λ_ _=>rfl)) (ae 0) (λ_ _=>rfl)) ag (λ_ _=>rfl)) (@cf _ _ _ _ _ _ (@aa _ _ _ _ _ _ ag (@aa _ _ _ _ _ _ ag af z_) z_)) (aS _)) (mZ (Q2 (l9 hr.units) (@au _ _ _ _ _ _ (ae 2) (ae 0) (λ_ _=>rfl)) (@au _ _ _ _ _ _ (ae 3) (ae 0) (λ_ _=>rfl)) (aS _))))))) (λ_ _ _ _=>(ae 0))) (@ao _ _ _ (@cS _ _ _ _ _ _ _ _ (Q0.pb (jU (Q2 (l9 hr.units) (ae 6) (@eW _ _ _ _ _ af) (aS _)) (jU (Q2 (l9 hr.units) (ae 8) (@eW _ _ _ _ _ af) (aS _)) (iR (Q2 (l9 hr.units) (aD (sT T) T.x_gains_of hr (@aa _ _ _ _ _ _ (ae 1) (@aa _ _ _ _ _ _ (ae 5) (@aa _ _ _ _ _ _ (ae 7) af z_) z_) z_)) (Dl (@eW _ _ _ _ _ (@aa _ _ _ _ _ _ (@cf _ _ _ _ _ _ (@aa _ _ _ _ _ _ ag (@aa _ _ _ _ _ _ ag af z_) z_)) af z_)) ag) (aS _)))))) (@ao _ _ _ (@aC _ _ _ _ iQ)) aY)))))))) (@ao _ _ _ (@aC _ _ _ _ (fX Mq (aQ (Dk hr) rfl T.z_repr y_ (@aa _ _ _ _ _ _ (ae 1) af z_)) (ae 2) (aS _))))))))
  K0
end
noncomputable def UK(i:Nat):Addr:=([21,67,74,81,88,96,103,110,117,124,131,138,145,152,159,166,171,178,185,192,197,204,211,216,221,226,231,285,278,257,252,264,271,245,238,306,299,292,328,321,342,349,356,363,335,314,375,370,380,387,394,401,408,464,443,429,422,450,436,457,476,471,483,415,488]:List Addr).getD i 0
noncomputable abbrev UL:Value:=(.str "ringloads.divisors" 187)
noncomputable abbrev UM:Value:=(.str "ringloads.names" 251)
noncomputable abbrev UN:Value:=(.str "ringloads.ratios" 282)
noncomputable abbrev UO:Value:=(.str "ringloads.crossing" 353)
noncomputable abbrev UP:Value:=(.str "ringloads.ways" 401)
noncomputable abbrev UQ:Value:=(.str "ringloads.loads" 441)
noncomputable abbrev UR:Value:=(.str "ringloads.sendings" 465)
noncomputable abbrev US:Value:=(.str "ringloads.slides" 479)
noncomputable abbrev UT:Value:=(.str "ringloads.rounding" 587)
noncomputable abbrev UU:Value:=(.str "ringloads.gains" 690)
noncomputable abbrev l6:Value:=(.str "law_ringloads_k91_whole_sendings_rounded" 698)
noncomputable def UV(i:Nat):FuncData:=[Ru "greatest_shared" eh UL 20,Ru "is_whole" oM UM 66,Ru "is_number_below" eu UM 73,Ru "are_two_wholes" fm UM 80,Ru "is_ratio" oO UM 87,Ru "lowest" vd UN 95,Ru "plus" El UN 102,Ru "minus" y6 UN 109,Ru "times" y7 UN 116,Ru "under" y9 UN 123,Ru "greater" rn UN 130,Ru "lesser" ve UN 137,Ru "sum_of" vf UN 144,Ru "lesser_place" hX UO 151,Ru "greater_place" gp UO 158,Ru "do_cross" oP UO 165,Ru "parted_in" iZ UO 170,Ru "first_side_by_side" cP UO 177,Ru "is_way" vg UP 184,Ru "other_way" mn UP 191,Ru "ties_of" ka UP 196,Ru "is_over" rD UP 203,Ru "sent_over" mq UQ 210,Ru "load_of" nH UQ 215,Ru "loads_of" k8 UQ 220,Ru "are_ways" k9 UR 225,Ru "sent_by" nI UR 230,Ru "part_behind" i0 US 284,Ru "slid_once" mr US 277,Ru "share_no_tie" eL US 256,Ru "has_form_of_slide" du US 251,Ru "not_sent" oQ US 263,Ru "most_slid" mw US 270,Ru "is_slide" oR US 244,Ru "slid_by" rE US 237,Ru "ways_apart" kb US 305,Ru "greatest_slide" ft US 298,Ru "slides_for" kc US 291,Ru "nearest_way" i3 UT 327,Ru "keeps_whole_asks" dM UT 320,Ru "half_of_greatest" dN UT 341,Ru "by_lesser_place" cK UT 348,Ru "rising_way" ke UT 355,Ru "gain_of" rF UT 362,Ru "keeps_within" ia UT 334,Ru "lets_rounding" gu UT 313,Ru "rounded_ways" eM UT 374,Ru "rounding_of" i4 UT 369,Ru "gains_of" lg UU 379,Ru "_law_begun" kf l6 386,Ru "_law_take" mx l6 393,Ru "_law_low" oT l6 400,Ru "_law_amount" i5 l6 407,Ru "_law_made" my l6 463,Ru "_law_ties" mz l6 442,Ru "_law_minus" kg l6 428,Ru "_law_plus" mB l6 421,Ru "_law_loads" ki l6 449,Ru "_law_under" kj l6 435,Ru "_law_greatest" gv l6 456,Ru "_law_bent_fall" cX l6 475,Ru "_law_all_cross" fu l6 470,Ru "_law_right" kq l6 482,Ru "_law_parts" kr l6 414,Ru "law" Er l6 487].getD i (Ru "law" Er UL 0)
theorem tx{Pm:Params}{h:Heap}{mg:Str->Option Value}(X:(Hd.Kf Pm).In h)(G:h.Ns mainGlobals mg):Tx (Hd.Kf Pm) mg UK UV where
 x_greatest_shared:=FX.mk' X G (a:=21) (c:=20) (md:=UL) z_ z_ z_ z_ λ_ _ _ _ _ _ u l=>match u,l with | [_,_],_=>rfl
 x_is_whole:=FX.mk' X G (a:=67) (c:=66) (md:=UM) z_ z_ z_ z_ λ_ _ _ _ _ _ u l=>match u,l with | [_],_=>rfl
 x_is_number_below:=FX.mk' X G (a:=74) (c:=73) (md:=UM) z_ z_ z_ z_ λ_ _ _ _ _ _ u l=>match u,l with | [_,_],_=>rfl
 x_are_two_wholes:=FX.mk' X G (a:=81) (c:=80) (md:=UM) z_ z_ z_ z_ λ_ _ _ _ _ _ u l=>match u,l with | [_],_=>rfl
 x_is_ratio:=FX.mk' X G (a:=88) (c:=87) (md:=UM) z_ z_ z_ z_ λ_ _ _ _ _ _ u l=>match u,l with | [_],_=>rfl
 x_lowest:=FX.mk' X G (a:=96) (c:=95) (md:=UN) z_ z_ z_ z_ λ_ _ _ _ _ _ u l=>match u,l with | [_,_],_=>rfl
 x_plus:=FX.mk' X G (a:=103) (c:=102) (md:=UN) z_ z_ z_ z_ λ_ _ _ _ _ _ u l=>match u,l with | [_,_],_=>rfl
 x_minus:=FX.mk' X G (a:=110) (c:=109) (md:=UN) z_ z_ z_ z_ λ_ _ _ _ _ _ u l=>match u,l with | [_,_],_=>rfl
 x_times:=FX.mk' X G (a:=117) (c:=116) (md:=UN) z_ z_ z_ z_ λ_ _ _ _ _ _ u l=>match u,l with | [_,_],_=>rfl
 x_under:=FX.mk' X G (a:=124) (c:=123) (md:=UN) z_ z_ z_ z_ λ_ _ _ _ _ _ u l=>match u,l with | [_,_],_=>rfl
 x_greater:=FX.mk' X G (a:=131) (c:=130) (md:=UN) z_ z_ z_ z_ λ_ _ _ _ _ _ u l=>match u,l with | [_,_],_=>rfl
 x_lesser:=FX.mk' X G (a:=138) (c:=137) (md:=UN) z_ z_ z_ z_ λ_ _ _ _ _ _ u l=>match u,l with | [_,_],_=>rfl
 x_sum_of:=FX.mk' X G (a:=145) (c:=144) (md:=UN) z_ z_ z_ z_ λ_ _ _ _ _ _ u l=>match u,l with | [_],_=>rfl
 x_lesser_place:=FX.mk' X G (a:=152) (c:=151) (md:=UO) z_ z_ z_ z_ λ_ _ _ _ _ _ u l=>match u,l with | [_,_],_=>rfl
 x_greater_place:=FX.mk' X G (a:=159) (c:=158) (md:=UO) z_ z_ z_ z_ λ_ _ _ _ _ _ u l=>match u,l with | [_,_],_=>rfl
 x_do_cross:=FX.mk' X G (a:=166) (c:=165) (md:=UO) z_ z_ z_ z_ λ_ _ _ _ _ _ u l=>match u,l with | [_,_,_],_=>rfl
 x_parted_in:=FX.mk' X G (a:=171) (c:=170) (md:=UO) z_ z_ z_ z_ λ_ _ _ _ _ _ u l=>match u,l with | [_,_],_=>rfl
 x_first_side_by_side:=FX.mk' X G (a:=178) (c:=177) (md:=UO) z_ z_ z_ z_ λ_ _ _ _ _ _ u l=>match u,l with | [_,_],_=>rfl
 x_is_way:=FX.mk' X G (a:=185) (c:=184) (md:=UP) z_ z_ z_ z_ λ_ _ _ _ _ _ u l=>match u,l with | [_],_=>rfl
 x_other_way:=FX.mk' X G (a:=192) (c:=191) (md:=UP) z_ z_ z_ z_ λ_ _ _ _ _ _ u l=>match u,l with | [_],_=>rfl
 x_ties_of:=FX.mk' X G (a:=197) (c:=196) (md:=UP) z_ z_ z_ z_ λ_ _ _ _ _ _ u l=>match u,l with | [_,_,_],_=>rfl
 x_is_over:=FX.mk' X G (a:=204) (c:=203) (md:=UP) z_ z_ z_ z_ λ_ _ _ _ _ _ u l=>match u,l with | [_,_,_,_],_=>rfl
 x_sent_over:=FX.mk' X G (a:=211) (c:=210) (md:=UQ) z_ z_ z_ z_ λ_ _ _ _ _ _ u l=>match u,l with | [_,_,_,_],_=>rfl
 x_load_of:=FX.mk' X G (a:=216) (c:=215) (md:=UQ) z_ z_ z_ z_ λ_ _ _ _ _ _ u l=>match u,l with | [_,_,_],_=>rfl
 x_loads_of:=FX.mk' X G (a:=221) (c:=220) (md:=UQ) z_ z_ z_ z_ λ_ _ _ _ _ _ u l=>match u,l with | [_,_],_=>rfl
 x_are_ways:=FX.mk' X G (a:=226) (c:=225) (md:=UR) z_ z_ z_ z_ λ_ _ _ _ _ _ u l=>match u,l with | [_,_],_=>rfl
 x_sent_by:=FX.mk' X G (a:=231) (c:=230) (md:=UR) z_ z_ z_ z_ λ_ _ _ _ _ _ u l=>match u,l with | [_,_],_=>rfl
 x_part_behind:=FX.mk' X G (a:=285) (c:=284) (md:=US) z_ z_ z_ z_ λ_ _ _ _ _ _ u l=>match u,l with | [_,_,_],_=>rfl
 x_slid_once:=FX.mk' X G (a:=278) (c:=277) (md:=US) z_ z_ z_ z_ λ_ _ _ _ _ _ u l=>match u,l with | [_,_],_=>rfl
 x_share_no_tie:=FX.mk' X G (a:=257) (c:=256) (md:=US) z_ z_ z_ z_ λ_ _ _ _ _ _ u l=>match u,l with | [_,_,_,_,_],_=>rfl
 x_has_form_of_slide:=FX.mk' X G (a:=252) (c:=251) (md:=US) z_ z_ z_ z_ λ_ _ _ _ _ _ u l=>match u,l with | [_,_],_=>rfl
 x_not_sent:=FX.mk' X G (a:=264) (c:=263) (md:=US) z_ z_ z_ z_ λ_ _ _ _ _ _ u l=>match u,l with | [_,_,_,_],_=>rfl
 x_most_slid:=FX.mk' X G (a:=271) (c:=270) (md:=US) z_ z_ z_ z_ λ_ _ _ _ _ _ u l=>match u,l with | [_,_,_],_=>rfl
 x_is_slide:=FX.mk' X G (a:=245) (c:=244) (md:=US) z_ z_ z_ z_ λ_ _ _ _ _ _ u l=>match u,l with | [_,_,_],_=>rfl
 x_slid_by:=FX.mk' X G (a:=238) (c:=237) (md:=US) z_ z_ z_ z_ λ_ _ _ _ _ _ u l=>match u,l with | [_,_,_],_=>rfl
 x_ways_apart:=FX.mk' X G (a:=306) (c:=305) (md:=US) z_ z_ z_ z_ λ_ _ _ _ _ _ u l=>match u,l with | [_,_,_],_=>rfl
 x_greatest_slide:=FX.mk' X G (a:=299) (c:=298) (md:=US) z_ z_ z_ z_ λ_ _ _ _ _ _ u l=>match u,l with | [_,_,_,_],_=>rfl
 x_slides_for:=FX.mk' X G (a:=292) (c:=291) (md:=US) z_ z_ z_ z_ λ_ _ _ _ _ _ u l=>match u,l with | [_,_],_=>rfl
 x_nearest_way:=FX.mk' X G (a:=328) (c:=327) (md:=UT) z_ z_ z_ z_ λ_ _ _ _ _ _ u l=>match u,l with | [_,_],_=>rfl
 x_keeps_whole_asks:=FX.mk' X G (a:=321) (c:=320) (md:=UT) z_ z_ z_ z_ λ_ _ _ _ _ _ u l=>match u,l with | [_,_,_,_],_=>rfl
 x_half_of_greatest:=FX.mk' X G (a:=342) (c:=341) (md:=UT) z_ z_ z_ z_ λ_ _ _ _ _ _ u l=>match u,l with | [_,_],_=>rfl
 x_by_lesser_place:=FX.mk' X G (a:=349) (c:=348) (md:=UT) z_ z_ z_ z_ λ_ _ _ _ _ _ u l=>match u,l with | [_,_],_=>rfl
 l_by_lesser_place:=MK.mk' (c0:=348) z_ rfl z_
 x_rising_way:=FX.mk' X G (a:=356) (c:=355) (md:=UT) z_ z_ z_ z_ λ_ _ _ _ _ _ u l=>match u,l with | [_,_],_=>rfl
 x_gain_of:=FX.mk' X G (a:=363) (c:=362) (md:=UT) z_ z_ z_ z_ λ_ _ _ _ _ _ u l=>match u,l with | [_,_,_,_],_=>rfl
 x_keeps_within:=FX.mk' X G (a:=335) (c:=334) (md:=UT) z_ z_ z_ z_ λ_ _ _ _ _ _ u l=>match u,l with | [_,_,_,_],_=>rfl
 x_lets_rounding:=FX.mk' X G (a:=314) (c:=313) (md:=UT) z_ z_ z_ z_ λ_ _ _ _ _ _ u l=>match u,l with | [_,_,_],_=>rfl
 x_rounded_ways:=FX.mk' X G (a:=375) (c:=374) (md:=UT) z_ z_ z_ z_ λ_ _ _ _ _ _ u l=>match u,l with | [_,_],_=>rfl
 x_rounding_of:=FX.mk' X G (a:=370) (c:=369) (md:=UT) z_ z_ z_ z_ λ_ _ _ _ _ _ u l=>match u,l with | [_,_],_=>rfl
 x_gains_of:=FX.mk' X G (a:=380) (c:=379) (md:=UU) z_ z_ z_ z_ λ_ _ _ _ _ _ u l=>match u,l with | [_,_,_],_=>rfl
 x__law_begun:=FX.mk' X G (a:=387) (c:=386) (md:=l6) z_ z_ z_ z_ λ_ _ _ _ _ _ u l=>match u,l with | [_,_],_=>rfl
 x__law_take:=FX.mk' X G (a:=394) (c:=393) (md:=l6) z_ z_ z_ z_ λ_ _ _ _ _ _ u l=>match u,l with | [_,_],_=>rfl
 x__law_low:=FX.mk' X G (a:=401) (c:=400) (md:=l6) z_ z_ z_ z_ λ_ _ _ _ _ _ u l=>match u,l with | [_,_],_=>rfl
 x__law_amount:=FX.mk' X G (a:=408) (c:=407) (md:=l6) z_ z_ z_ z_ λ_ _ _ _ _ _ u l=>match u,l with | [_,_,_],_=>rfl
 x__law_made:=FX.mk' X G (a:=464) (c:=463) (md:=l6) z_ z_ z_ z_ λ_ _ _ _ _ _ u l=>match u,l with | [_],_=>rfl
 x__law_ties:=FX.mk' X G (a:=443) (c:=442) (md:=l6) z_ z_ z_ z_ λ_ _ _ _ _ _ u l=>match u,l with | [_,_,_],_=>rfl
 x__law_minus:=FX.mk' X G (a:=429) (c:=428) (md:=l6) z_ z_ z_ z_ λ_ _ _ _ _ _ u l=>match u,l with | [_,_],_=>rfl
 x__law_plus:=FX.mk' X G (a:=422) (c:=421) (md:=l6) z_ z_ z_ z_ λ_ _ _ _ _ _ u l=>match u,l with | [_,_],_=>rfl
 x__law_loads:=FX.mk' X G (a:=450) (c:=449) (md:=l6) z_ z_ z_ z_ λ_ _ _ _ _ _ u l=>match u,l with | [_,_],_=>rfl
 x__law_under:=FX.mk' X G (a:=436) (c:=435) (md:=l6) z_ z_ z_ z_ λ_ _ _ _ _ _ u l=>match u,l with | [_,_],_=>rfl
 x__law_greatest:=FX.mk' X G (a:=457) (c:=456) (md:=l6) z_ z_ z_ z_ λ_ _ _ _ _ _ u l=>match u,l with | [_,_],_=>rfl
 x__law_bent_fall:=FX.mk' X G (a:=476) (c:=475) (md:=l6) z_ z_ z_ z_ λ_ _ _ _ _ _ u l=>match u,l with | [_,_,_],_=>rfl
 x__law_all_cross:=FX.mk' X G (a:=471) (c:=470) (md:=l6) z_ z_ z_ z_ λ_ _ _ _ _ _ u l=>match u,l with | [_,_],_=>rfl
 x__law_right:=FX.mk' X G (a:=483) (c:=482) (md:=l6) z_ z_ z_ z_ λ_ _ _ _ _ _ u l=>match u,l with | [_,_],_=>rfl
 x__law_parts:=FX.mk' X G (a:=415) (c:=414) (md:=l6) z_ z_ z_ z_ λ_ _ _ _ _ _ u l=>match u,l with | [_,_],_=>rfl
 x_law:=FX.mk' X G (a:=488) (c:=487) (md:=l6) z_ z_ z_ z_ λ_ _ _ _ _ _ u l=>match u,l with | [_],_=>rfl
 li:=Do.mk' X G z_ z_ z_ z_ z_ z_ z_ λ_ _ _ _ _ _ u l=>match u,l with | [_,_],_=>rfl
 i_NoSlide:=t6 (oc:=.type "function") (od:=none) (osl:=#[]) z_ z_ z_
 c_NoSlide:=XT.mk' X G z_ z_ z_ ((t6 (x:="__init__") (qual:="NoSlide.__init__") (st:=g7) (f:=55) (oc:=.type "function") (od:=none) (osl:=#[]) z_ z_ z_).binds λ_ _ _ _ _ _ u l=>match u,l with | [_,_],_=>rfl) z_ z_
 h_NoSlide:=XH.mk' X G z_ z_ z_ z_
 z_ValueError:=Vs X G z_
 z_abs:=Vs X G z_
 z_all:=Vs X G z_
 z_any:=Vs X G z_
 z_bool:=Vs X G z_
 z_enumerate:=Vs X G z_
 z_int:=Vs X G z_
 z_isinstance:=Vs X G z_
 z_len:=Vs X G z_
 z_list:=Vs X G z_
 z_max:=Vs X G z_
 z_min:=Vs X G z_
 z_range:=Vs X G z_
 z_repr:=Vs X G z_
 z_sorted:=Vs X G z_
 z_str:=Vs X G z_
 z_tuple:=Vs X G z_
 z_zip:=Vs X G z_
 g_BACK:=z7 (PySem.W.mg_of X G (v:=(.str "back" 405)) z_)
 g_HALF:=z6 (PySem.W.mg_of X G (v:=.ref 307) z_) (show(Hd.Kf Pm).lookup 307=some (Obj.mk (.type "tuple") none (.seq #[(.int 1 589),(.int 2 590)] 0) #[]) by kernel_rfl) ⟨_,_,[L2.V.int 1,L2.V.int 2],_,rfl,rfl,rfl,x_,(.cons ⟨_,rfl⟩ (.cons ⟨_,rfl⟩ .nil)),λK H=>(.cons (.int _) (.cons (.int _) .nil))⟩
 g_NOUGHT:=z6 (PySem.W.mg_of X G (v:=.ref 89) z_) (show(Hd.Kf Pm).lookup 89=some (Obj.mk (.type "tuple") none (.seq #[(.int 0 284),(.int 1 285)] 0) #[]) by kernel_rfl) ⟨_,_,[L2.V.int 0,L2.V.int 1],_,rfl,rfl,rfl,x_,(.cons ⟨_,rfl⟩ (.cons ⟨_,rfl⟩ .nil)),λK H=>(.cons (.int _) (.cons (.int _) .nil))⟩
 g_ON:=z7 (PySem.W.mg_of X G (v:=(.str "on" 403)) z_)
theorem walkF(w:World)(mg:Str→Option Value)(fa:Addr)(h:Heap)(X:(Hd.Kf w.params).In h)(G:h.Ns mainGlobals mg) (hmg:mg "law"=some (.ref fa)) :
  ∃ fd:FuncData,(∀(s:Shared)(u:Value),BindsTo s fd ⟨[u],[]⟩ [("_law_script",u)])∧∀ base:Heap,(Hd.Kf w.params).In base→base.Ns mainGlobals mg→FnOk PySem.Challenge.pw_ringloads_k91_whole_sendings_rounded w (Hd.Kf w.params) mg base CX0 11 fa fd ["_law_script"] (spF (Hd.Kf w.params) 1 fs_law):=by
 have T:=tx X G
 have e:=hmg.symm.trans T.x_law.m
 cases e
 exact⟨_,fun s v=>.of_eq rfl,fun base _ _=>NC T⟩
theorem tabR(w:World):∀x∈L2.lamNames,PySem.W.tabIn (Hd.Kf w.params) x=none∨((PyProof.Rows.recsOf Hd.q).find? λe=>e.name == x).isSome=true:=by
 intro x hx;simp only[L2.lamNames,Vc,WO,or_false]at hx;rcases hx with rfl|rfl|rfl
 . exact .inl z_
 . exact .inr z_
 . exact .inl z_
theorem walk{l:PySem.W.OpenLaw}{q:Program}{loose:List Str}{XP:(Str->Option Value)->Heap->Prop}{YP:World->Heap->Prop}{d:DefRec}{K:Params->PySem.W.Frag}(hn:l.most=some 63)(hq:PyProof.Rows.importsNone q=true)(hdf:d.params.defaults=[])
  (hY:∀(w:World)(h:Heap),YP w h->(K w.params).In h) (hto:∀w:World,L2.tabsOk (K w.params)=true) (hrc:∀(w:World),∀x∈L2.lamNames,PySem.W.tabIn (K w.params) x=none∨((PyProof.Rows.recsOf q).find? λe=>e.name == x).isSome=true)
  (F:∀(w:World)(mg:Str->Option Value)(fa:Addr)(h:Heap),(K w.params).In h->h.Ns mainGlobals mg->mg d.name=some (.ref fa) ->
   ∃ fd:FuncData,(∀(s:Shared)(u:Value),BindsTo s fd ⟨[u],[]⟩ [("_law_script",u)])/\∀ base:Heap,(K w.params).In base->base.Ns mainGlobals mg->FnOk l.prog w (K w.params) mg base CX0 11 fa fd ["_law_script"] (spF (K w.params) 1 fs_law)) :
  PySem.W.WalkO q loose XP YP l.row.toRowW d [] (λf vs=>PySem.call f vs) :=
 L2.walk_of (n:=63) (k:=11) (x:="_law_script") (CX:=λ_=>CX0) (sp:=λw=>spF (K w.params) 1 fs_law) hn hq x_ hdf ⟨rfl,x_,x_,rfl⟩ hY hto hrc F (λ_ H a ns hl hO hS=>C2 hl hO hS (ET hl)) λ_ _ _ _ _ z=>z
end My
open PySem PySem.W PyProof.Rows
noncomputable abbrev PySem.W.Fast.tw6097934805810295006:PySem.Program:=PySem.Challenge.pw_ringloads_k91_whole_sendings_rounded
theorem PySem.W.Fast.te6097934805810295006:PySem.Challenge.pw_ringloads_k91_whole_sendings_rounded=PySem.W.Fast.tw6097934805810295006:=rfl
set_option maxRecDepth 100000 in
theorem PySem.Challenge.cw_ringloads_k91_whole_sendings_rounded_holds : PySem.Challenge.rw_ringloads_k91_whole_sendings_rounded.Holds := by
 w_on;o_law
 refine PySem.W.holds_open (q:=Hd.q) (loose:=Hd.loose) (Xt:=Hd.Xt) (XP:=XL Hd.q []) (Yf:=Hook.obs Hd.Hk) (Ya:=Hook.val Hd.Hk) (YP:=Hook.says Hd.Hk) (N:=_) Hd.left (Hook.of Hd.Hk) (Hook.keeps Hd.Hk) (fun s e=>xl_of s (WW.mp e).1) XL.keeps (by rfl) (by rfl) (by rfl) (fun s e=>recFacts_of (WW.mp e).2) (by rfl) (by assumption) y_ ⟨rfl,rfl,rfl,rfl,rfl,y_⟩ ?hw ?hc
 case hw=>w_witness2
 case hc=>exact My.walk (l:=PySem.Challenge.rw_ringloads_k91_whole_sendings_rounded) (K:=Hd.Kf) rfl y_ rfl (fun w h Y=>PySem.W.kIn_of Y) (fun w=>by kernel_rfl) My.tabR My.walkF