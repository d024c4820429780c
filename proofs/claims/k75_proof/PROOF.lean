import PyProof.Rows.All
import Wide.All
import OpenK.AllK
import Wide.FinOn
import Lean
import PyProof.EqAt
import PyProof.EqKinds
import PyProof.TupleCall
import PyProof.ExcArgs
import KE.KSortKey
import KE.KIsAll
import PyProof.ExcInit
import PyProof.StationsW
import PyProof.NsDelKeeps
import PyProof.RulesAs
import PyProof.PassesOwn
import PyProof.ExcBaseAll.ValueError
import PyProof.InstStoreFacts
import PyProof.Rows.EqDataRows
import PyProof.ReprRoads
import PyProof.Rows.Range3
import PyProof.ConsumeWalk
import PyProof.FString5
import PyProof.ReprLen
import PyProof.Rows.TupAdd
import PyProof.Rows.RuleIs
import PyProof.ListNew
import KE.KRevIter
import PyProof.Rows.SeqMore2
import PyProof.ListRange
import KE.KEqDict
import PyProof.NeKinds
import PyProof.CallStr
import PyProof.ListMulAny
import PyProof.Rows.SetFrom
import PyProof.SetRoads
import KE.KSortTup
import PySem.Challenge.RW_ringloads_k75_ring_texts_refused
set_option Elab.async false
set_option linter.all false
set_option maxRecDepth 100000
set_option maxHeartbeats 0
theorem z_ {α:Sort _} {a b:α} (h:a=b:=by kernel_rfl):a=b:=h
theorem y_ {p:Prop} [Decidable p] (h:decide p=true:=by decide +kernel):p:=of_decide_eq_true h
theorem x_ {p:Prop} [Decidable p] (h:decide p=true:=by decide):p:=of_decide_eq_true h
theorem xL{p:Prop}(h:p:=by omega):p:=h
theorem v6{p:Prop}(h:p:=by simp):p:=h
section
open PySem PySem.Spec PyProof.Rows PySem.W
theorem kS:type_of% @wpAny_bind:=@wpAny_bind
theorem tu:type_of% @List.length_map:=@List.length_map
theorem Ud:type_of% @List.mem_cons_of_mem:=@List.mem_cons_of_mem
theorem Ue:type_of% @List.length_append:=@List.length_append
theorem Ug:type_of% @Heap.get?_push_of_some:=@Heap.get?_push_of_some
theorem Uh:type_of% @List.getElem?_eq_some_iff:=@List.getElem?_eq_some_iff
theorem Ui:type_of% @List.mem_cons_self:=@List.mem_cons_self
theorem Uj:type_of% @Nat.lt_of_lt_of_le:=@Nat.lt_of_lt_of_le
theorem Uk:type_of% @List.length_cons:=@List.length_cons
theorem Ul:type_of% @Nat.le_refl:=@Nat.le_refl
theorem Um:type_of% @wpAny_pure:=@wpAny_pure
theorem Uo:type_of% @List.mem_cons:=@List.mem_cons
theorem Up:type_of% @Heap.lt_size:=@Heap.lt_size
theorem Uq:type_of% @List.length_drop:=@List.length_drop
theorem Ur:type_of% @List.mem_append:=@List.mem_append
theorem Us:type_of% @List.length_singleton:=@List.length_singleton
theorem Ut:type_of% @List.length_take:=@List.length_take
theorem Uu:type_of% @List.getElem?_eq_getElem:=@List.getElem?_eq_getElem
theorem Uv:type_of% @Nat.le_trans:=@Nat.le_trans
theorem Uw:type_of% @decide_eq_true:=@decide_eq_true
theorem Ux:type_of% @List.mem_singleton:=@List.mem_singleton
theorem Uy:type_of% @decide_eq_false:=@decide_eq_false
theorem Uz:type_of% @List.mem_append_left:=@List.mem_append_left
theorem UA:type_of% @List.length_nil:=@List.length_nil
theorem UB:type_of% @List.size_toArray:=@List.size_toArray
theorem UC:type_of% @List.map_cons:=@List.map_cons
theorem UD:type_of% @List.mem_append_right:=@List.mem_append_right
theorem UE:type_of% @Bool.and_eq_true:=@Bool.and_eq_true
theorem UF:type_of% @List.getElem?_append_left:=@List.getElem?_append_left
theorem UG:type_of% @List.getElem?_append_right:=@List.getElem?_append_right
theorem UH:type_of% @Heap.get?_push_size:=@Heap.get?_push_size
theorem UI:type_of% @Nat.ne_of_lt:=@Nat.ne_of_lt
theorem UJ:type_of% @List.getElem?_map:=@List.getElem?_map
theorem UK:type_of% @List.length_reverse:=@List.length_reverse
theorem UL:type_of% @Bool.false_ne_true:=@Bool.false_ne_true
theorem UM:type_of% @Option.some.inj:=@Option.some.inj
theorem UN:type_of% @List.nodup_cons:=@List.nodup_cons
theorem UO:type_of% @wpAny_truthy_bool:=@wpAny_truthy_bool
theorem UP:type_of% @beq_eq_false_iff_ne:=@beq_eq_false_iff_ne
theorem UQ:type_of% @List.nodup_append:=@List.nodup_append
theorem UR:type_of% @Array.toList_append:=@Array.toList_append
theorem US:type_of% @List.all_eq_true:=@List.all_eq_true
theorem UT:type_of% @List.append_assoc:=@List.append_assoc
theorem UU:type_of% @List.length_flatten:=@List.length_flatten
theorem UV:type_of% @Int.eq_ofNat_of_zero_le:=@Int.eq_ofNat_of_zero_le
theorem UW:type_of% @List.mem_map:=@List.mem_map
theorem UX:type_of% @Option.some.injEq:=@Option.some.injEq
theorem UY:type_of% @List.map_replicate:=@List.map_replicate
theorem UZ:type_of% @PySem.W.mg_none_of:=@PySem.W.mg_none_of
theorem U0:type_of% @List.lookup_cons:=@List.lookup_cons
theorem U1:type_of% @List.replicate_succ:=@List.replicate_succ
theorem U2:type_of% @Int.fmod_eq_emod_of_nonneg:=@Int.fmod_eq_emod_of_nonneg
theorem U3:type_of% @List.mem_of_mem_take:=@List.mem_of_mem_take
theorem U4:type_of% @decide_eq_true_eq:=@decide_eq_true_eq
theorem U5:type_of% @List.append_nil:=@List.append_nil
theorem U6:type_of% @Int.natAbs_natCast:=@Int.natAbs_natCast
theorem U7:type_of% @Heap.get?_update_other:=@Heap.get?_update_other
theorem U8:type_of% @wpAny_mono:=@wpAny_mono
theorem U9:type_of% @Nat.pow_le_pow_right:=@Nat.pow_le_pow_right
theorem Va:type_of% @Nat.add_sub_cancel_left:=@Nat.add_sub_cancel_left
theorem Vb:type_of% @wpAny_loadPart_at:=@wpAny_loadPart_at
theorem Vc:type_of% @List.getElem?_set_self:=@List.getElem?_set_self
theorem Vd:type_of% @SeqAt.canLay_of_shaped:=@SeqAt.canLay_of_shaped
theorem Ve:type_of% @wpAny_Call_Name_kw:=@wpAny_Call_Name_kw
theorem Vf:type_of% @List.perm_append_comm:=@List.perm_append_comm
theorem Vg:type_of% @List.map_append:=@List.map_append
theorem Vh:type_of% @List.mem_of_getElem?:=@List.mem_of_getElem?
theorem Vi:type_of% @Nat.lt_of_le_of_lt:=@Nat.lt_of_le_of_lt
theorem Vj:type_of% @List.nil_append:=@List.nil_append
theorem Vk:type_of% @exists_eq_left':=@exists_eq_left'
theorem Vl:type_of% @strLen_append:=@strLen_append
theorem Vm:type_of% @List.getElem_mem:=@List.getElem_mem
theorem Vn:type_of% @Ne.symm:=@Ne.symm
theorem Vo:type_of% @List.getElem?_set_ne:=@List.getElem?_set_ne
theorem Vp:type_of% @List.mem_of_mem_drop:=@List.mem_of_mem_drop
theorem Vq:type_of% @PySem.W.kia_tup:=@PySem.W.kia_tup
theorem Vr:type_of% @Bool.true_and:=@Bool.true_and
theorem Vs:type_of% @PySem.W.kia_one:=@PySem.W.kia_one
theorem Vt:type_of% @List.zip_append:=@List.zip_append
theorem Vu:type_of% @List.sublist_append_right:=@List.sublist_append_right
theorem Vv:type_of% @PySem.mem_of_lookup:=@PySem.mem_of_lookup
theorem Vw:type_of% @List.filterMap_cons:=@List.filterMap_cons
theorem Vx:type_of% @Heap.get?_update_self:=@Heap.get?_update_self
theorem Vy:type_of% @congrArg:=@congrArg
theorem Vz:type_of% @wpAny_holding:=@wpAny_holding
theorem VA:type_of% @List.set_set:=@List.set_set
theorem VB:type_of% @List.zip_cons_cons:=@List.zip_cons_cons
theorem VC:type_of% @Nat.zero_le:=@Nat.zero_le
theorem VD:type_of% @List.length_eq_zero_iff:=@List.length_eq_zero_iff
theorem VE:type_of% @codeAny_call_builtin:=@codeAny_call_builtin
theorem VF:type_of% @Bool.eq_false_iff:=@Bool.eq_false_iff
theorem VG:type_of% @Array.length_toList:=@Array.length_toList
theorem VH:type_of% @List.drop_eq_getElem_cons:=@List.drop_eq_getElem_cons
theorem VI:type_of% @List.length_replicate:=@List.length_replicate
theorem VJ:type_of% @List.contains_cons:=@List.contains_cons
theorem VL:type_of% @List.any_cons:=@List.any_cons
theorem VM:type_of% @Bool.and_eq_true_iff:=@Bool.and_eq_true_iff
theorem VN:type_of% @List.set_append_left:=@List.set_append_left
theorem VO:type_of% @List.getElem?_cons_succ:=@List.getElem?_cons_succ
theorem VP:type_of% @List.flatten_cons:=@List.flatten_cons
theorem VQ:type_of% @wpAny_newObj_type:=@wpAny_newObj_type
theorem VR:type_of% @PassesOwn.never:=@PassesOwn.never
theorem VS:type_of% @wpAny_execs_nil:=@wpAny_execs_nil
theorem VT:type_of% @List.take_of_length_le:=@List.take_of_length_le
theorem VU:type_of% @Fast.te14364793385576792824:=@Fast.te14364793385576792824
theorem VV:type_of% @PyProof.Rows.callWith_type1:=@PyProof.Rows.callWith_type1
theorem VW:type_of% @List.map_map:=@List.map_map
theorem VX:type_of% @wpAny_field:=@wpAny_field
theorem VY:type_of% @List.not_mem_nil:=@List.not_mem_nil
theorem VZ:type_of% @List.filter_cons:=@List.filter_cons
theorem V0:type_of% @Int.emod_lt_of_pos:=@Int.emod_lt_of_pos
theorem V1:type_of% @PySem.W.callWith_K:=@PySem.W.callWith_K
theorem V2:type_of% @Bool.false_and:=@Bool.false_and
theorem V3:type_of% @Calls.spliced_cons:=@Calls.spliced_cons
theorem V4:type_of% @wpAny_passesOwn:=@wpAny_passesOwn
theorem V5:type_of% @List.foldl_cons:=@List.foldl_cons
theorem V6:type_of% @List.mem_filter:=@List.mem_filter
theorem V7:type_of% @Int.emod_nonneg:=@Int.emod_nonneg
theorem V8:type_of% @codeAny_mono:=@codeAny_mono
theorem V9:type_of% @List.Sublist.refl:=@List.Sublist.refl
theorem Wa:type_of% @wpAny_call:=@wpAny_call
theorem Wb:type_of% @Nat.lt_irrefl:=@Nat.lt_irrefl
theorem Wc:type_of% @PySem.W.mg_of:=@PySem.W.mg_of
theorem Wd:type_of% @Bool.or_false:=@Bool.or_false
theorem We:type_of% @wpAny_standAt:=@wpAny_standAt
theorem Wf:type_of% @List.cons_append:=@List.cons_append
theorem Wg:type_of% @List.nodup_nil:=@List.nodup_nil
theorem Wh:type_of% @List.mem_range:=@List.mem_range
theorem Wi:type_of% @Array.all_toList:=@Array.all_toList
theorem Wj:type_of% @beq_iff_eq:=@beq_iff_eq
theorem Wk:type_of% @Bool.eq_iff_iff:=@Bool.eq_iff_iff
end
theorem Wl{p:Prop}(h:p:=by exact λ_ _=>rfl):p:=h
theorem Wm{p:Prop}(h:p:=by exact λ_ _ _ _ _ _ u l=>match u,l with | [_],_=>rfl):p:=h
theorem Wn{p:Prop}(h:p:=by exact λ_ _ _ _ _ _ u l=>match u,l with | [_,_],_=>rfl):p:=h
theorem Wo{p:Prop}(h:p:=by exact λ_ _ _ _ _ _ u l=>match u,l with | [_,_,_],_=>rfl):p:=h
section
open PySem PySem.Spec
abbrev XR:Value:=.str "ringloads.errors" 187
abbrev XS:Value:=.str "law_ringloads_k75_ring_texts_refused" 487
abbrev XU:Value:=.str "ringloads.ringtexts" 433
abbrev XW:Value:=.str "LoadError" 197
abbrev XX:Value:=.str "ringloads.names" 335
abbrev XY:Value:=.str "ringloads.rings" 374
end
theorem aaa{p:Prop}(h:p:=by first | exact .inl rfl | exact .inr rfl):p:=h
abbrev aab(x:PySem.Str):Prop:=(x == ("__debug__":PySem.Str))=false
abbrev aac(x:PySem.Str):Prop:=(x == ("__classdict__":PySem.Str))=false
namespace L2
open PySem PySem.Spec PyProof.Rows
noncomputable abbrev PQ:=Sum Int Str
noncomputable def Ah:PQ->Value->Bool
 |.inl k,v=>Value.isInt k v
 |.inr x,v=>Value.isStrOf x v
noncomputable def OS(w:World):PQ->Int
 |.inl k=>hashInt k
 |.inr x=>hashStr w x
theorem bX:∀{k:PQ}{v:Value},Ah k v=true->(∃i t,k=Sum.inl i/\v=Value.int i t)∨(∃x t,k=Sum.inr x/\v=Value.str x t)
 | .inl i,v,h=>by obtain⟨t,e⟩:=Value.isInt_shape (k:=i) (v:=v) h;exact .inl ⟨i,t,rfl,e⟩
 | .inr x,v,h=>by obtain⟨t,e⟩:=Value.isStrOf_shape (x:=x) (v:=v) h;exact .inr ⟨x,t,rfl,e⟩
theorem Bh(i:Int)(t:Tok):Ah (.inl i) (.int i t)=true:=by simp[Ah,Value.isInt]
theorem Bj(x:Str)(t:Tok):Ah (.inr x) (.str x t)=true:=by simp[Ah,Value.isStrOf]
theorem Ku(a b:Int):decide ((Sum.inl a:PQ)=Sum.inl b)=(a == b):=by
 by_cases e:a=b
 . subst e;simp
 . have h:¬(Sum.inl a:PQ)=Sum.inl b:=λq=>e (Sum.inl.inj q);rw[Uy h];exact(UP.mpr e).symm
theorem Kv(a b:Str):decide ((Sum.inr a:PQ)=Sum.inr b)=decide (a=b):=by
 by_cases e:a=b
 . subst e;simp
 . have h:¬(Sum.inr a:PQ)=Sum.inr b:=λq=>e (Sum.inr.inj q);rw[Uy h,Uy e]
theorem Kw(a:Int)(b:Str):decide ((Sum.inl a:PQ)=Sum.inr b)=false:=Uy (λq=>nomatch q)
theorem Kx(a:Str)(b:Int):decide ((Sum.inr a:PQ)=Sum.inl b)=false:=Uy (λq=>nomatch q)
noncomputable def jP(prog:Program)(w:World):PySem.KeyKind prog w PQ where
 is:=Ah
 hash:=OS w
 inj:=λv a b ha hb=>by
  rcases bX ha with⟨i,t,rfl,rfl⟩|⟨x,t,rfl,rfl⟩
  .
   rcases bX hb with⟨j,u,rfl,e⟩|⟨y,u,rfl,e⟩
   . injection e with e1 _;rw[e1]
   . exact nomatch e
  .
   rcases bX hb with⟨j,u,rfl,e⟩|⟨y,u,rfl,e⟩
   . exact nomatch e
   . injection e with e1 _;rw[e1]
 byValue:=λk v h=>by rcases bX h with⟨i,t,rfl,rfl⟩|⟨x,t,rfl,rfl⟩<;>rfl
 pyHash:=λhv h=>by
  rcases bX hv with⟨i,t,rfl,rfl⟩|⟨x,t,rfl,rfl⟩
  . exact wpAny_pyHash_int h
  . exact wpAny_pyHash_str h
 eqBool:=λhu hv h=>by
  rcases bX hu with⟨i,t,rfl,rfl⟩|⟨x,t,rfl,rfl⟩
  .
   rcases bX hv with⟨j,u,rfl,rfl⟩|⟨y,u,rfl,rfl⟩
   . rw[Ku]at h;exact wpAny_eqBool_int h
   . rw[Kw]at h;exact SeqAt.EqAt.int_str i t y u _ _ _ _ h
  .
   rcases bX hv with⟨j,u,rfl,rfl⟩|⟨y,u,rfl,rfl⟩
   . rw[Kx]at h;exact SeqAt.EqAt.str_int x t j u _ _ _ _ h
   . rw[Kv]at h;exact wpAny_eqBool_str h
 «strs»:=λk x t v h=>by
  rcases bX h with⟨i,u,rfl,e⟩|⟨y,u,rfl,e⟩
  . exact nomatch e
  . injection e with e1 _;subst e1;cases v<;>rfl
theorem xm(prog:Program)(w:World)(i:Int)(t:Tok):(jP prog w).is (.inl i) (.int i t)=true:=Bh i t
theorem xn(prog:Program)(w:World)(x:Str)(t:Tok):(jP prog w).is (.inr x) (.str x t)=true:=Bj x t
inductive V where
 |non|bl (b:Bool)|int (i:Int)|str (x:Str)|byt (b:Array UInt8)|flt (b:UInt64)|ref (a:Addr)|ty (n:String)
 deriving DecidableEq
def bS:V->Value->Prop
 |.non,u=>u=Value.none
 |.bl b,u=>u=Value.bool b
 |.int i,u=>∃t,u=Value.int i t
 |.str x,u=>∃t,u=Value.str x t
 |.byt b,u=>∃t,u=Value.bytes b t
 |.flt b,u=>∃t,u=Value.float b t
 |.ref a,u=>u=Value.ref a
 |.ty n,u=>u=Value.type n
abbrev bT:List V->List Value->Prop:=Paired bS
theorem bT.length{xs:List V}{us:List Value}(r:bT xs us):xs.length=us.length:=Paired.length r
theorem bT.get:∀{xs:List V}{us:List Value}{i:Nat}{x:V},bT xs us->xs[i]?=some x->∃u,us[i]?=some u/\bS x u
 |_,_,_,_,.nil,e=>by simp at e
 |_,_,0,_,.cons r _,e=>by simp at e;subst e;exact⟨_,rfl,r⟩
 | _,_,i+1,x,.cons _ t,e=>by obtain⟨u,h1,h2⟩:=bT.get (i:=i) (x:=x) t (by simpa using e);exact⟨u,by simpa using h1,h2⟩
theorem bT.set{x:V}{u:Value}(r:bS x u):∀{xs:List V}{us:List Value}(i:Nat),bT xs us->bT (xs.set i x) (us.set i u)
 |_,_,_,.nil=>.nil
 |_,_,0,.cons _ t=>.cons r t
 |_,_,i+1,.cons q t=>.cons q (bT.set r i t)
theorem bT.append:∀{xs ys:List V}{us ws:List Value},bT xs us->bT ys ws->bT (xs++ys) (us++ws)
 |_,_,_,_,.nil,s=>s
 |_,_,_,_,.cons r t,s=>.cons r (bT.append t s)
theorem bT.take:∀{xs:List V}{us:List Value}(n:Nat),bT xs us->bT (xs.take n) (us.take n)
 |_,_,0,_=>.nil
 |_,_,_+1,.nil=>.nil
 |_,_,n+1,.cons r t=>.cons r (bT.take n t)
theorem bT.drop:∀{xs:List V}{us:List Value}(n:Nat),bT xs us->bT (xs.drop n) (us.drop n)
 |_,_,0,r=>r
 |_,_,_+1,.nil=>.nil
 |_,_,n+1,.cons _ t=>bT.drop n t
def xq:Option V->Option Value->Prop
 |some v,some u=>bS v u
 |none,none=>True
 |_,_=>False
def KV{κ:Type}:List (κ×V)->List (κ×Value)->Prop:=Paired λ(p:κ×V) (q:κ×Value)=>p.1=q.1/\bS p.2 q.2
noncomputable def kV:PQ->V
 |.inl i=>.int i
 |.inr x=>.str x
inductive HO where
 |lst (xs:List V)
 |tup (xs:List V)
 |dK (kvs:List (PQ×V))|dT (kvs:List (List PQ×V))
 |set (S:Int->Bool) (n:Nat)
 |ins (C dx:Addr) (fs:List (Str×V))
 |own (x:Addr)
 |xd (fs:List (Str×V))
 |met (f x:Addr)
 |rng (lo hi:Int)
 |frz (o:Obj) (u:HO)
 |tbl (q:Str)
 |ext (φ:Heap->Prop)
noncomputable abbrev Hp:=Addr->Option HO
noncomputable def PR(H:Hp)(a:Addr)(o:HO):Hp:=λb=>if b=a then some o else H b
theorem aT{H:Hp}{a:Addr}{o:HO}:PR H a o a=some o:=by unfold PR;rw[if_pos rfl]
theorem ay{H:Hp}{a b:Addr}{o:HO}(h:b≠a):PR H a o b=H b:=by unfold PR;rw[if_neg h]
theorem He{H:Hp}{a:Addr}{o u:HO}:PR (PR H a o) a u=PR H a u:=by
 funext b;unfold PR;split<;>rfl
theorem bb{H:Hp}{a b:Addr}{o:HO}(h:H a=some o)(h':H b=none):a≠b:=by intro e;subst e;rw[h]at h';cases h'
def ly(oc:Obj)(q:Str):Prop:=∃vs t,oc.data=.fields vs/\vs[1]?=some (.str q t)
section
variable(P:Program)(w:World)
def cR(H:Hp)(h:Heap)(a:Addr):HO->Prop
 |.lst xs=>xs.length<=sizeLine/\∃(its:List Value)(n:Nat),bT xs its/\h.get? a=some {cls:=.type "list",data:=.seq its.toArray n}
 |.tup xs=>xs.length<=sizeLine/\∃its:List Value,bT xs its/\IsTup h a its.toArray
 |.dK kvs=>kvs.length<=sizeLine/\(a == sysModules)=false/\∃vs,KV kvs vs/\h.DictOf (jP P w) a vs
 | .dT kvs=>kvs.length<=sizeLine/\(a == sysModules)=false/\∃xs:List (List PQ×Addr×Value),
   Paired (λ(p:List PQ×V) (q:List PQ×Addr×Value)=>p.1=q.1/\H q.2.1=some (.tup (p.1.map kV))/\bS p.2 q.2.2) kvs xs /\
   ∃o es ep,h.get? a=some o/\o.ExactDict/\o.data=.dict es ep/\es.toList=xs.map (entryOfKey (tupleKind (jP P w)))/\(xs.map (·.1)).Nodup
 |.set S n=>h.SetOf (intKind P w) a S n
 | .ins C dx fs=>H dx=some (.own a)/\fs.length<=1000/\dx≠a/\h.get? a=some (W.instObj C dx) /\
   ∃mA,h.Ns1 dx mA/\(∀f,xq (fs.lookup f) (mA f))/\PySem.Within mA (fs.map (·.1))
 |.own _=>∃o,h.get? a=some o
 |.xd fs=>∃mA,h.Ns1 a mA/\∀f,xq (fs.lookup f) (mA f)
 |.rng lo hi=>∃ t u v,h.get? a=some {cls:=.type "range",data:=.fields #[.int lo t,.int hi u,.int 1 v] }
 |.frz o u=>h.get? a=some o/\cR H h a u
 |.tbl q=>∃ps:Array Value,h.get? a=some {cls:=.none,data:=.fields ps}/\TriplesOk ps.toList/\∀pos cv,codeAmong pos ps.toList=some cv->∃c' oc,cv=.ref c'/\H c'=some (.frz oc (.own c'))/\ly oc q
 |.met f x=>h.get? a=some (W.methodObj (.ref f) (.ref x))
 |.ext φ=>φ h/\(∃o,h.get? a=some o)/\∀h1 h2:Heap,φ h1->(∀o,h1.get? a=some o->h2.get? a=some o)->φ h2
def PU(H:Hp)(h:Heap):Prop:=∀a o,H a=some o->cR P w H h a o
end
section
variable{P:Program}{w:World}{H H':Hp}{h h':Heap}{a:Addr}{o:HO}
theorem cR.lt(x:cR P w H h a o):a<h.objs.size:=by
 cases o with
 |lst xs=>obtain⟨_,_,_,_,e⟩:=x;exact Up e
 |tup xs=>obtain⟨_,_,_,p⟩:=x;exact p.lt
 |dK kvs=>obtain⟨_,_,_,_,o,_,_,e,_⟩:=x;exact Up e
 |dT kvs=>obtain⟨_,_,_,_,o,_,_,e,_⟩:=x;exact Up e
 |set S n=>obtain⟨o,_,_,_,e,_⟩:=x;exact Up e
 |ins C dx fs=>obtain⟨_,_,_,e,_⟩:=x;exact Up e
 |own y=>obtain⟨_,e⟩:=x;exact Up e
 |xd fs=>obtain⟨_,⟨_,_,_,e,_⟩,_⟩:=x;exact Up e
 |rng lo hi=>obtain⟨_,_,_,e⟩:=x;exact Up e
 |frz ob u=>obtain⟨e,_⟩:=x;exact Up e
 |tbl q=>obtain⟨_,e,_⟩:=x;exact Up e
 |met f y=>exact Up (show h.get? a=some _ from x)
 |ext φ=>obtain⟨_,⟨_,e⟩,_⟩:=x;exact Up e
theorem Paired.mapP{α β:Type}{F G:α->β->Prop}:∀{l₁:List α}{l₂:List β},Paired F l₁ l₂->(∀a b,F a b->G a b)->Paired G l₁ l₂
 |_,_,.nil,_=>.nil
 |_,_,.cons r t,f=>.cons (f _ _ r) (Paired.mapP t f)
theorem cR.stay(x:cR P w H h a o)(k:∀b u,(b=a∨H b=some (.own a))->h.get? b=some u->h'.get? b=some u)
  (ho:∀b,H b=some (.own a)->H' b=some (.own a)) (ht:∀b xs,H b=some (.tup xs)->H' b=some (.tup xs)) (hf:∀b o q,ly o q->H b=some (.frz o (.own b))->H' b=some (.frz o (.own b))):cR P w H' h' a o:=by
 induction o with
 |lst xs=>obtain⟨z,its,n,r,e⟩:=x;exact⟨z,its,n,r,k _ _ (.inl rfl) e⟩
 |tup xs=>obtain⟨z,its,r,ob,e,c⟩:=x;exact⟨z,its,r,ob,k _ _ (.inl rfl) e,c⟩
 |dK kvs=>obtain⟨z,y,vs,r,ob,es,ep,e,c⟩:=x;exact⟨z,y,vs,r,ob,es,ep,k _ _ (.inl rfl) e,c⟩
 | dT kvs =>
  obtain⟨z,y,xs,r,ob,es,ep,e,c⟩:=x;exact⟨z,y,xs,Paired.mapP r λp q z=>⟨z.1,ht _ _ z.2.1,z.2.2⟩,ob,es,ep,k _ _ (.inl rfl) e,c⟩
 |set S n=>obtain⟨ob,es,ep,t,e,c⟩:=x;exact⟨ob,es,ep,t,k _ _ (.inl rfl) e,c⟩
 | ins C dx fs =>
  obtain⟨d,z,ne,e,mA,⟨od,es,ep,e2,c⟩,r⟩:=x;exact⟨ho _ d,z,ne,k _ _ (.inl rfl) e,mA,⟨od,es,ep,k _ _ (.inr d) e2,c⟩,r⟩
 |own y=>obtain⟨ob,e⟩:=x;exact⟨ob,k _ _ (.inl rfl) e⟩
 |xd fs=>obtain⟨mA,⟨od,es,ep,e,c⟩,r⟩:=x;exact⟨mA,⟨od,es,ep,k _ _ (.inl rfl) e,c⟩,r⟩
 |rng lo hi=>obtain⟨t,u,v,e⟩:=x;exact⟨t,u,v,k _ _ (.inl rfl) e⟩
 |frz ob u ih=>obtain⟨e,q⟩:=x;exact⟨k _ _ (.inl rfl) e,ih q⟩
 | tbl q =>
  obtain⟨ps,e,tr,m⟩:=x
  exact⟨ps,k a _ (.inl rfl) e,tr,λpos cv z=>let ⟨c',oc,a1,a2,a3⟩:=m pos cv z;⟨c',oc,a1,hf _ _ _ a3 a2,a3⟩⟩
 | met f y =>
  have e:h.get? a=some (W.methodObj (.ref f) (.ref y)):=x;show h'.get? a=some (W.methodObj (.ref f) (.ref y));exact k a _ (.inl rfl) e
 |ext φ=>obtain⟨p,⟨o,e⟩,st⟩:=x;exact⟨st _ _ p λo q=>k _ _ (.inl rfl) q,⟨o,k _ _ (.inl rfl) e⟩,st⟩
theorem PU.lt(x:PU P w H h)(e:H a=some o):a<h.objs.size:=(x a o e).lt
theorem PU.fresh(x:PU P w H h)(e:h.objs.size<=a):H a=none:=by
 cases q:H a with
 |none=>rfl
 |some u=>exact absurd (Uj (x.lt q) e) (Wb _)
theorem PU.kept(x:PU P w H h)(k:∀b u,h.get? b=some u->h'.get? b=some u):PU P w H h':=λa o e =>
 (x a o e).stay (λb u _ q=>k b u q) (λ_ q=>q) (λ_ _ q=>q) λ_ _ _ _ q=>q
theorem PU.laid(x:PU P w H h)(k:∀b u,h.get? b=some u->h'.get? b=some u)(hp:h.objs.size<=a)(new:cR P w (PR H a o) h' a o):PU P w (PR H a o) h':=λb u e=>by
 have hn:=x.fresh hp;by_cases hb:b=a
 . subst hb;rw[aT]at e;cases e;exact new
 . rw[ay hb]at e;exact(x b u e).stay (λc v _ q=>k c v q) (λc q=>by rw[ay (bb q hn)];exact q) (λc xs q=>by rw[ay (bb q hn)];exact q) λc ob _ _ q=>by rw[ay (bb q hn)];exact q
end
def Rd(H:Hp)(a:Addr)(u:HO):Prop:=H a=some u∨∃o,H a=some (.frz o u)
theorem Rd.ok{P:Program}{w:World}{H:Hp}{h:Heap}{a:Addr}{u:HO}(r:Rd H a u)(x:PU P w H h):cR P w H h a u:=by
 rcases r with r|⟨o,r⟩
 . exact x a u r
 . obtain⟨_,q⟩:=x a _ r;exact q
def PV:Option HO->Prop
 |some (.lst _)=>True
 |some (.dK _)=>True
 |some (.dT _)=>True
 |some (.set _ _)=>True
 |some (.ins _ _ _)=>True
 |some (.ext _)=>True
 |_=>False
section
variable{P:Program}{w:World}{H:Hp}{h h':Heap}{x e:Addr}{o':HO}
theorem PU.write(ok:PU P w H h)(mu:PV (H x))(he:e=x∨H e=some (.own x))(k:∀b u,b≠e->h.get? b=some u->h'.get? b=some u)(heo:∃u,h'.get? e=some u)
  (new:cR P w (PR H x o') h' x o'):PU P w (PR H x o') h':=λb u q=>by
 have nown:∀c y,H c=some (.own y)->c≠x:=λc y r z=>by subst z;rw[r]at mu;exact mu
 have ntup:∀c xs,H c=some (.tup xs)->c≠x:=λc xs r z=>by subst z;rw[r]at mu;exact mu
 have nfrz:∀c o u,H c=some (.frz o u)->c≠x:=λc o u r z=>by subst z;rw[r]at mu;exact mu
 by_cases hb:b=x
 . subst hb;rw[aT]at q;cases q;exact new
 .
  rw[ay hb]at q;by_cases hbe:b=e
  .
   have q':H b=some (.own x):=by
    rcases he with z|z
    . exact absurd (hbe.trans z) hb
    . rw[hbe];exact z
   rw[q]at q';cases q';obtain⟨v,hv⟩:=heo;exact⟨v,by rw[hbe];exact hv⟩
  .
   refine(ok b u q).stay (λc v hc r=>k c v ?_ r) (λc r=>by rw[ay (nown c b r)];exact r) (λc xs r=>by rw[ay (ntup c xs r)];exact r) λc ob _ _ r=>by rw[ay (nfrz c ob _ r)];exact r
   rcases hc with rfl|hc
   . exact hbe
   .
    rintro rfl;rcases he with z|z
    . exact nown c b hc z
    . rw[hc]at z;cases z;exact hb rfl
end
structure Un (fs ex:List Addr) (H H':Hp) (h h':Heap):Prop where
 keep:∀b o,h.get? b=some o->H b=none->b∉fs->b∉ex->h'.get? b=some o
 slot:∀b o,h.get? b=some o->H b=none->b∈fs->b∉ex->∃sl,h'.get? b=some {o with slots:=sl}
 free:∀b o,h.get? b=some o->H b=none->b∉ex->H' b=none
 there:∀b o,h.get? b=some o->b∉ex->∃o',h'.get? b=some o'
 tups:∀b xs,H b=some (.tup xs)->H' b=some (.tup xs)
 frzs:∀b o u,H b=some (.frz o u)->H' b=some (.frz o u)
 tbls:∀b q,H b=some (.tbl q)->H' b=some (.tbl q)
section
variable{fs fs' ex ex':List Addr}{H H1:Hp}{h h1 h':Heap}{a x e:Addr}{o:HO}
theorem Un.any(u:Un fs ex H H1 h h1){b:Addr}{ob:Obj}(q:h.get? b=some ob)(n:H b=none)(hx:b∉ex):∃sl,h1.get? b=some {ob with slots:=sl}:=by
 by_cases hb:b∈fs
 . exact u.slot b ob q n hb hx
 . exact⟨ob.slots,u.keep b ob q n hb hx⟩
theorem Un.kept(k:∀b u,h.get? b=some u->h'.get? b=some u):Un fs ex H H h h' :=
 ⟨λb ob q _ _ _=>k b ob q,λb ob q _ _ _=>⟨ob.slots,k b ob q⟩,λ_ _ _ n _=>n,λb ob q _=>⟨ob,k b ob q⟩,λ_ _ q=>q,λ_ _ _ q=>q,λ_ _ q=>q⟩
theorem Un.refl:Un fs ex H H h h:=Un.kept λ_ _ q=>q
theorem Un.laid(k:∀b u,h.get? b=some u->h'.get? b=some u)(hp:h.objs.size<=a)(hn:H a=none):Un fs ex H (PR H a o) h h' where
 keep:=λb u q _ _ _=>k b u q
 slot:=λb u q _ _ _=>⟨u.slots,k b u q⟩
 free:=λb u q n _=>by rw[ay (UI (Uj (Up q) hp))];exact n
 there:=λb u q _=>⟨u,k b u q⟩
 tups:=λb xs q=>by rw[ay (bb q hn)];exact q
 frzs:=λb u xs q=>by rw[ay (bb q hn)];exact q
 tbls:=λb ps q=>by rw[ay (bb q hn)];exact q
theorem Un.write(mu:PV (H x))(he:e=x∨H e=some (.own x))(k:∀b u,b≠e->h.get? b=some u->h'.get? b=some u)(heo:∃u,h'.get? e=some u):Un fs ex H (PR H x o) h h':=by
 have hx:∀b,H b=none->b≠x:=λb n z=>by subst z;rw[n]at mu;exact mu
 have hb:∀b,H b=none->b≠e:=λb n z=>by
  subst z;rcases he with r|r
  . exact hx b n r
  . rw[n]at r;cases r
 have hm:∀b u,H b=some u->¬PV (some u)->b≠x:=λb u q nm z=>by subst z;rw[q]at mu;exact nm mu
 refine⟨λb u q n _ _=>k b u (hb b n) q,λb u q n _ _=>⟨u.slots,k b u (hb b n) q⟩,λb u q n _=>by rw[ay (hx b n)];exact n,λb u q _=>?_,
  λb xs q=>by rw[ay (hm b _ q λz=>z)];exact q,λb u xs q=>by rw[ay (hm b _ q λz=>z)];exact q,λb ps q=>by rw[ay (hm b _ q λz=>z)];exact q⟩
 by_cases hbe:b=e
 . subst hbe;exact heo
 . exact⟨u,k b u hbe q⟩
theorem Un.mono(u:Un fs ex H H1 h h1)(hs:∀b∈fs,b∈fs')(hx:∀b∈ex,b∈ex'):Un fs' ex' H H1 h h1 :=
 ⟨λb ob q n hb he=>u.keep b ob q n (λz=>hb (hs b z)) λz=>he (hx b z),λ_ _ q n _ he=>u.any q n λz=>he (hx _ z),λb ob q n he=>u.free b ob q n λz=>he (hx b z),λb ob q he=>u.there b ob q λz=>he (hx b z),u.tups,u.frzs,u.tbls⟩
end
noncomputable def PX(h:Heap)(H:Hp):List Addr:=(List.range h.objs.size).filter λa=>(H a).isSome
noncomputable def Ea(h:Heap)(H:Hp):Heap:=W.hideAll h (PX h H)
theorem Bk(h:Heap)(H:Hp):(Ea h H).objs.size=h.objs.size:=W.hideAll_size _ _
theorem Eb{h:Heap}{H:Hp}{b:Addr}{o:Obj}(e:h.get? b=some o)(n:H b=none):(Ea h H).get? b=some o :=
 W.hideAll_get _ e λhm=>by have q:(H b).isSome=true:=(V6.mp hm).2;rw[n]at q;simp at q
theorem Hf{h:Heap}{H:Hp}{b:Addr}{o:Obj}(e:(Ea h H).get? b=some o):h.get? b=some o/\H b=none:=by
 have e':h.get? b=some o:=W.of_hideAll (PX h H) e;refine⟨e',?_⟩
 cases q:H b with
 |none=>rfl
 | some x =>
  have hm:b∈PX h H:=V6.mpr ⟨Wh.mpr (Up e'),by simp[q]⟩;have z:(Ea h H).get? b=none:=W.hideAll_none (PX h H) hm;rw[z]at e;cases e
noncomputable def Hg(g h:Heap)(L:Addr):List (Addr×Obj):=(List.range h.objs.size).filterMap λa=>if a=L∨(g.get? a).isSome=true then none else(h.get? a).map λo=>(a,o)
noncomputable def rest(g h:Heap)(L d:Addr):List (Addr×Obj):=(Hg g h L).filter λp=>decide (p.1≠d)
def Ky(mg:Str->Option Value)(h:Heap):Prop:=∃ bm ob,mg "__builtins__"=some (.ref bm)/\bm≠builtinsNs/\h.get? bm=some ob/\ob.cls=.type "module"/\ob.dict=some builtinsNs/\ob.data=.plain
noncomputable def lamNames:List Str:=["look_at_asks","by_lesser_place","look_at_string"]
noncomputable def sk(x:Str):Str:=(x++".<locals>.")++"<lambda>"
def PY(K:W.Frag)(H:Hp):Prop:=∀x∈lamNames,∀c P,W.tabIn K x=some (c,P)->H P=some (.tbl (sk x))
theorem PY.un{K:W.Frag}{fs ex:List Addr}{H H':Hp}{h h':Heap}(t:PY K H)(u:Un fs ex H H' h h'):PY K H':=λx hx c P e=>u.tbls _ _ (t x hx c P e)
structure Mod (K:W.Frag) (mg:Str->Option Value) (base:Heap):Prop where
 kin:K.In base
 glob:base.Ns mainGlobals mg
 blt:∃ mb,base.Ns builtinsNs mb/\∀ x:Str,x≠"__name__"->mb x=bootBuiltins x
 nolimit:base.NoLimit
 sysm:∃mm,base.Ns sysModules mm
 bmn:Ky mg base
 cds:∀x∈lamNames,∀c P,W.tabIn K x=some (c,P)->W.CodeHd base c P
/-- the context: a def's body (or a comprehension's Hh) running. base: fixed through the whole law;s₀,H₀: the entry;outer: the frames whose slots others may change (a def's callers);stack: all frames that run;
  ex: iterators that were made ahead of the entry and are walked here (a comprehension's);fn: the names whose cells were made at the entry (a def: all;a comprehension's Hh: its own);calm: not Bl an except suite;pn: gV that every state bears;xe: what is wanted of an exception that leaves the code -/
structure Cx where
 prog:Program
 w:World
 K:W.Frag
 mg:Str->Option Value
 base:Heap
 A:Around
 N:List Str
 s₀:Shared
 H₀:Hp
 env:Env
 outer:List Env
 stack:List Env
 ex:List Addr
 fn:Str->Bool
 calm:Bool
 pn:List (Addr×Obj)
 xe:Value->Shared->Prop
noncomputable def PZ(l:List Env):List Addr:=l.filterMap (·.frame)
noncomputable abbrev Cx.fs(X:Cx):List Addr:=PZ X.outer
def P0(sc:Scope)(x:Str):Prop:=sc.names.lookup x=some .local∨sc.names.lookup x=some .cell∨sc.names.lookup x=some .free
def P2(sc:Scope)(x:Str):Prop:=sc.names.lookup x=some .local∨sc.names.lookup x=some .cell
def OT(env:Env)(h:Heap)(m:Str->Option Value)(x:Str)(u:Value):Prop :=
 (env.kindOf x=some .local/\m x=some u)∨((env.kindOf x=some .cell∨env.kindOf x=some .free)/\∃c,env.cells.lookup x=some c/\h.IsCell c (some u))
structure Cx.Ok (X:Cx):Prop where
 mod:Mod X.K X.mg X.base
 kind:X.env.scope.kind=.function
 glob:X.env.globals=mainGlobals
 blt:X.env.builtins=builtinsNs
 above:X.s₀.heap.objs.size<=X.env.locals
 inj:∀x y c,X.env.cells.lookup x=some c->X.env.cells.lookup y=some c->x=y
 has:∀x,(X.env.kindOf x=some .cell∨X.env.kindOf x=some .free)->∃c,X.env.cells.lookup x=some c
 cab:∀x c,X.fn x=true->X.env.cells.lookup x=some c->X.s₀.heap.objs.size<=c
 hd:X.calm=true->X.A.handled=none
 frames:X.A.frames=some X.stack
 stk:X.stack=X.outer∨(X.stack=X.env::X.outer/\X.env.frame=some X.env.locals)
 exf:∀b∈X.ex,b≠X.env.locals/\∀x c,X.env.cells.lookup x=some c->c≠b
 bs:∀b o,X.base.get? b=some o->X.s₀.heap.get? b=some o/\X.H₀ b=none
 bsz:X.base.objs.size<=X.s₀.heap.objs.size
 noex:∀b o,X.base.get? b=some o->b∉X.ex
 exfs:∀b∈X.ex,b∉X.fs
 funs:X.s₀.heap.FunFrames X.base X.outer
 frf:∀b∈X.fs,X.H₀ b=none
 tbs:PY X.K X.H₀
structure P4 (X:Cx) (gV:List (Addr×Obj)) (σ:List (Option V)) (H:Hp) (s:Shared):Prop where
 ok:X.Ok
 os:s.os=X.s₀.os
 bare:AllBare s.gens
 base:Un X.fs X.ex X.H₀ H X.s₀.heap s.heap
 loc:∃m,s.heap.Ns X.env.locals m/\∀(i:Nat)(x:Str)(v:V),X.N[i]?=some x->σ[i]?=some (some v)->P0 X.env.scope x->∃u,bS v u/\OT X.env s.heap m x u
 cell:∀x c,X.env.cells.lookup x=some c->∃v,s.heap.IsCell c v
 free:H X.env.locals=none
 freeC:∀x c,X.env.cells.lookup x=some c->H c=none∨(X.fn x=false/\∃o,H c=some (.frz o (.own c)))
 pin:∀p∈X.pn++gV,s.heap.get? p.1=some p.2/\H p.1=none/\p.1≠X.env.locals/\p.1∉X.fs/\∀v,p.2.data≠.cell v
 hok:PU X.prog X.w H s.heap
 len:σ.length=X.N.length
section
variable{X:Cx}{gV:List (Addr×Obj)}{σ:List (Option V)}{H H':Hp}{s:Shared}{h':Heap}
theorem Cx.Ok.nofr(ok:X.Ok){b:Addr}{o:Obj}(e:X.base.get? b=some o):b∉X.fs:=λhb=>by have:=(ok.funs.mem hb).1;rw[e]at this;cases this
theorem P4.bs(I:P4 X gV σ H s):∀b o,X.base.get? b=some o->s.heap.get? b=some o/\H b=none:=λb o e =>
 ⟨I.base.keep b o (I.ok.bs b o e).1 (I.ok.bs b o e).2 (I.ok.nofr e) (I.ok.noex b o e),I.base.free b o (I.ok.bs b o e).1 (I.ok.bs b o e).2 (I.ok.noex b o e)⟩
theorem P4.bk(I:P4 X gV σ H s):∀b o,X.base.get? b=some o->s.heap.get? b=some o:=λb o e=>(I.bs b o e).1
theorem P4.tbs(I:P4 X gV σ H s):PY X.K H:=I.ok.tbs.un I.base
theorem P4.mod(I:P4 X gV σ H s):Mod X.K X.mg X.base:=I.ok.mod
theorem P4.kIn(I:P4 X gV σ H s):X.K.In s.heap:=I.ok.mod.kin.keeps I.bk
theorem P4.fr(I:P4 X gV σ H s):∃m,Fr X.base X.env.locals s.heap m :=
 let ⟨m,hn,_⟩:=I.loc
 ⟨m,hn,I.bk,Uv I.ok.bsz I.ok.above⟩
theorem P4.lt(I:P4 X gV σ H s):X.env.locals<s.heap.objs.size:=let ⟨_,hn,_⟩:=I.loc;hn.lt
theorem P4.sz(I:P4 X gV σ H s):X.s₀.heap.objs.size<=s.heap.objs.size:=Uv I.ok.above (Nat.le_of_lt I.lt)
theorem P4.nofs(I:P4 X gV σ H s){a:Addr}(h:s.heap.objs.size<=a):a∉X.fs:=λhb=>by obtain⟨_,o,ho,_⟩:=I.ok.funs.mem hb;exact absurd (Uj (Up ho) (Uv I.sz h)) (Wb _)
theorem P4.cne(I:P4 X gV σ H s):∀x c,X.env.cells.lookup x=some c->c≠X.env.locals:=λx c e z=>by obtain⟨v,o,ho,hd⟩:=I.cell x c e;obtain⟨m,⟨o',es,ep,ho',hd',_⟩,_⟩:=I.loc;rw[z,ho']at ho;cases ho;rw[hd']at hd;cases hd
theorem P4.funs(I:P4 X gV σ H s):s.heap.FunFrames X.base X.outer:=by
 have all:∀(l:List Env),(∀b∈PZ l,b∈X.fs)->X.s₀.heap.FunFrames X.base l->s.heap.FunFrames X.base l:=by
  intro l
  induction l with
  |nil=>intro _ _;trivial
  | cons env r ih =>
   intro hs hl;obtain⟨hk,⟨L,o,hf,hn,ho,hd⟩,hr⟩:=hl;have hL:L∈X.fs:=hs L (by unfold PZ;rw[Vw,hf];exact Ui);obtain⟨sl,e⟩:=I.base.slot L o ho (I.ok.frf L hL) hL λz=>I.ok.exfs L z hL;exact⟨hk,⟨L,_,hf,hn,e,hd⟩,ih (λb hb=>hs b (by unfold PZ;rw[Vw,hf];exact Ud _ hb)) hr⟩
 exact all X.outer (λ_ hb=>hb) I.ok.funs
theorem P4.stack(I:P4 X gV σ H s):s.heap.FunFrames X.base X.stack:=by
 rcases I.ok.stk with e|⟨e,hf⟩
 . rw[e];exact I.funs
 . rw[e];obtain⟨m,hn,_⟩:=I.loc;refine .cons (by rw[I.ok.kind];decide) hf hn ?_ I.funs;exact Heap.get?_none_of_le (Uv I.ok.bsz I.ok.above)
theorem P4.stkSub(I:P4 X gV σ H s):∀b∈PZ X.stack,b∈X.env.locals::X.fs:=λb hb=>by
 rcases I.ok.stk with e|⟨e,hf⟩
 . rw[e]at hb;exact Ud _ hb
 . rw[e]at hb;unfold PZ at hb;rw[Vw,hf]at hb;exact hb
theorem P4.stkFree(I:P4 X gV σ H s):∀b∈PZ X.stack,H b=none:=λb hb=>by
 rcases Uo.mp (I.stkSub b hb)with e|hb
 . rw[e];exact I.free
 . obtain⟨_,o,ho,_⟩:=I.ok.funs.mem hb;exact I.base.free b o ho (I.ok.frf b hb) λz=>I.ok.exfs b z hb
theorem P4.step{g':Array GenState}{t':Nat}{d':Drawn}{ch:List Addr}(I:P4 X gV σ H s)
  (hch:∀b∈ch,(b∈X.ex∨X.s₀.heap.objs.size<=b)/\b≠X.env.locals/\(∀x c,X.env.cells.lookup x=some c->c≠b)/\∀p∈X.pn++gV,p.1≠b)
  (keep:∀b o,b≠X.env.locals->b∉X.fs->b∉ch->s.heap.get? b=some o->H b=none->h'.get? b=some o)
  (slot:∀b o,b≠X.env.locals->b∈X.fs->b∉ch->s.heap.get? b=some o->H b=none->∃sl,h'.get? b=some {o with slots:=sl}) (free:∀b o,b∉ch->s.heap.get? b=some o->H b=none->H' b=none)
  (there:∀b o,b∉ch->s.heap.get? b=some o->∃o',h'.get? b=some o')
  (tups:∀b xs,H b=some (.tup xs)->H' b=some (.tup xs)) (frzs:∀b o u,H b=some (.frz o u)->H' b=some (.frz o u)) (tbls:∀b q,H b=some (.tbl q)->H' b=some (.tbl q))
  (ns:∀m,s.heap.Ns X.env.locals m->h'.Ns X.env.locals m) (hok:PU X.prog X.w H' h') (hg:AllBare g') :
  P4 X gV σ H' {s with heap:=h',gens:=g',drawn:=d',toks:=t' }:=by
 have neL:∀b o,X.s₀.heap.get? b=some o->b≠X.env.locals:=λb o e=>UI (Uj (Up e) I.ok.above)
 have neC:∀b o,X.s₀.heap.get? b=some o->b∉X.ex->b∉ch:=λb o e hx hb=>by
  rcases(hch b hb).1 with z|z
  . exact hx z
  . exact absurd (Uj (Up e) z) (Wb _)
 have cellK:∀x c,X.env.cells.lookup x=some c->∀v,s.heap.IsCell c v->h'.IsCell c v:=λx c e v ⟨o,ho,hd⟩=>by
  have nch:c∉ch:=λz=>(hch c z).2.2.1 x c e rfl;rcases I.freeC x c e with hn|⟨_,o2,hz⟩
  .
   by_cases hc:c∈X.fs
   . obtain⟨sl,q⟩:=slot c o (I.cne x c e) hc nch ho hn;exact⟨_,q,hd⟩
   . exact⟨o,keep c o (I.cne x c e) hc nch ho hn,hd⟩
  . have e1:=(I.hok c _ hz).1;rw[ho]at e1;cases e1;exact⟨o,(hok c _ (frzs c _ _ hz)).1,hd⟩
 refine⟨I.ok,I.os,hg,⟨λb o e n hb hx=>?_,λb o e n hb hx=>?_,λb o e n hx=>?_,λb o e hx=>?_,λb xs e=>tups b xs (I.base.tups b xs e),λb o xs e=>frzs b o xs (I.base.frzs b o xs e),λb ps e=>?_⟩,?_,λx c e=>?_,?_,λx c e=>?_,λp hp=>?_,hok,I.len⟩
 . exact keep b o (neL b o e) hb (neC b o e hx) (I.base.keep b o e n hb hx) (I.base.free b o e n hx)
 . obtain⟨sl,e1⟩:=I.base.slot b o e n hb hx;obtain⟨sl',e2⟩:=slot b _ (neL b o e) hb (neC b o e hx) e1 (I.base.free b o e n hx);exact⟨sl',e2⟩
 . obtain⟨o',e1⟩:=I.base.there b o e hx;exact free b o' (neC b o e hx) e1 (I.base.free b o e n hx)
 . obtain⟨o',e1⟩:=I.base.there b o e hx;exact there b o' (neC b o e hx) e1
 . exact tbls b ps (I.base.tbls b ps e)
 .
  obtain⟨m,hn,hl⟩:=I.loc;refine⟨m,ns m hn,λi x v e1 e2 e3=>?_⟩;obtain⟨u,r,l⟩:=hl i x v e1 e2 e3;refine⟨u,r,?_⟩;rcases l with l|⟨k,c,e,z⟩
  . exact .inl l
  . exact .inr ⟨k,c,e,cellK x c e _ z⟩
 . obtain⟨v,z⟩:=I.cell x c e;exact⟨v,cellK x c e v z⟩
 . obtain⟨m,⟨o,_,_,ho,_⟩,_⟩:=I.loc;exact free _ o (λz=>(hch _ z).2.1 rfl) ho I.free
 .
  obtain⟨v,o,ho,hd⟩:=I.cell x c e;rcases I.freeC x c e with hn|⟨hf,o2,hz⟩
  . exact .inl (free c o (λz=>(hch c z).2.2.1 x c e rfl) ho hn)
  . exact .inr ⟨hf,o2,frzs c _ _ hz⟩
 . obtain⟨e,n,ne,nf,d⟩:=I.pin p hp;have nch:p.1∉ch:=λz=>(hch p.1 z).2.2.2 p hp rfl;exact⟨keep p.1 p.2 ne nf nch e n,free p.1 p.2 nch e n,ne,nf,d⟩
theorem P4.un{t':Nat}(I:P4 X gV σ H s)(u:Un X.fs [] H H' s.heap h')(hok:PU X.prog X.w H' h'):P4 X gV σ H' {s with heap:=h',toks:=t' }:=by
 obtain⟨m,⟨o,es,ep,ho,r⟩,_⟩:=id I.loc;obtain⟨sl,hL⟩:=u.any ho I.free v6
 exact I.step (g':=s.gens) (d':=s.drawn) (ch:=[]) (λ_ z=>nomatch z) (λb o _ hb _ e n=>u.keep b o e n hb v6) (λb o _ hb _ e n=>u.slot b o e n hb v6) (λb o _ e n=>u.free b o e n v6) (λb o _ e=>u.there b o e v6) u.tups u.frzs u.tbls (λm' hm=>by
  obtain⟨o',es',ep',ho',r'⟩:=hm;rw[ho]at ho';cases ho'
  exact⟨_,es',ep',hL,r'⟩) hok I.bare
theorem P4.call{g':Array GenState}{t':Nat}{d':Drawn}{ch:List Addr}(I:P4 X gV σ H s)(u:Un (PZ X.stack) ch H H' s.heap h')(hok:PU X.prog X.w H' h')(hg:AllBare g')
  (hch:∀b∈ch,(b∈X.ex∨X.s₀.heap.objs.size<=b)/\b≠X.env.locals/\(∀x c,X.env.cells.lookup x=some c->c≠b)/\∀p∈X.pn++gV,p.1≠b) :
  P4 X gV σ H' {s with heap:=h',gens:=g',drawn:=d',toks:=t' }:=by
 obtain⟨m,⟨o,es,ep,ho,r⟩,_⟩:=id I.loc;obtain⟨sl,hL⟩:=u.any ho I.free λz=>(hch _ z).2.1 rfl
 exact I.step (ch:=ch) hch (λb o hL hb hc e n=>u.keep b o e n (λz=>(Uo.mp (I.stkSub b z)).elim hL hb) hc) (λb o _ _ hc e n=>u.any e n hc) (λb o hc e n=>u.free b o e n hc) (λb o hc e=>u.there b o e hc) u.tups u.frzs u.tbls (λm' hm=>by
  obtain⟨o',es',ep',ho',r'⟩:=hm;rw[ho]at ho';cases ho'
  exact⟨_,es',ep',hL,r'⟩) hok hg
theorem P4.turned{t':Nat}{it:Addr}(I:P4 X gV σ H s)(k:∀b o,b≠it->s.heap.get? b=some o->h'.get? b=some o)(hn:H it=none)(hL:it≠X.env.locals)
  (h1:it∈X.ex∨X.s₀.heap.objs.size<=it) (h2:∀x c,X.env.cells.lookup x=some c->c≠it) (h3:∀p∈X.pn++gV,p.1≠it):P4 X gV σ H {s with heap:=h',toks:=t' }:=by
 have nit:∀b u,H b=some u->b≠it:=λb u e z=>by rw[z,hn]at e;cases e
 refine I.step (g':=s.gens) (d':=s.drawn) (ch:=[it]) (λb hb=>?_) (λb o _ _ hc e _=>k b o (λz=>hc (by simp[z])) e) (λb o _ _ hc e _=>⟨o.slots,k b o (λz=>hc (by simp[z])) e⟩) (λ_ _ _ _ n=>n)
  (λb o hc e=>⟨o,k b o (λz=>hc (by simp[z])) e⟩) (λ_ _ e=>e) (λ_ _ _ e=>e) (λ_ _ e=>e) (λm hm=>?_) (λb u e=>?_) I.bare
 .
  have e:b=it:=by simpa using hb
  subst e;exact⟨h1,hL,h2,h3⟩
 . obtain⟨o,es,ep,ho,r⟩:=hm;exact⟨o,es,ep,k _ o (Vn hL) ho,r⟩
 .
  refine(I.hok b u e).stay (λc v hc q=>k c v ?_ q) (λ_ q=>q) (λ_ _ q=>q) λ_ _ _ _ q=>q;rcases hc with z|z
  . rw[z];exact nit b u e
  . exact nit c _ z
theorem P4.tok(I:P4 X gV σ H s)(t:Nat):P4 X gV σ H {s with toks:=t}:=I.un (h':=s.heap) (t':=t) Un.refl I.hok
theorem P4.kept{t':Nat}(I:P4 X gV σ H s)(k:∀b u,s.heap.get? b=some u->h'.get? b=some u):P4 X gV σ H {s with heap:=h',toks:=t' }:=I.un (Un.kept k) (I.hok.kept k)
theorem P4.laid{a:Addr}{o:HO}{t':Nat}(I:P4 X gV σ H s)(k:∀b u,s.heap.get? b=some u->h'.get? b=some u)(hp:s.heap.objs.size<=a)(new:cR X.prog X.w (PR H a o) h' a o) :
  P4 X gV σ (PR H a o) {s with heap:=h',toks:=t' }:=I.un (Un.laid k hp (I.hok.fresh hp)) (I.hok.laid k hp new)
theorem P4.write{x e:Addr}{o:HO}{t':Nat}(I:P4 X gV σ H s)(mu:PV (H x))(he:e=x∨H e=some (.own x))(k:∀b u,b≠e->s.heap.get? b=some u->h'.get? b=some u)(heo:∃u,h'.get? e=some u)
  (new:cR X.prog X.w (PR H x o) h' x o):P4 X gV σ (PR H x o) {s with heap:=h',toks:=t' }:=I.un (Un.write mu he k heo) (I.hok.write mu he k heo new)
theorem P4.pins_of{pins':List (Addr×Obj)}(I:P4 X gV σ H s)(h:∀p∈pins',s.heap.get? p.1=some p.2/\H p.1=none/\p.1≠X.env.locals/\p.1∉X.fs/\∀v,p.2.data≠.cell v):P4 X pins' σ H s :=
 ⟨I.ok,I.os,I.bare,I.base,I.loc,I.cell,I.free,I.freeC,λp hp=>(Ur.mp hp).elim (λz=>I.pin p (Uz _ z)) (h p),I.hok,I.len⟩
theorem t9{N:List Str}(hN:N.Nodup){i j:Nat}{x:Str}(a:N[i]?=some x)(b:N[j]?=some x):i=j:=by obtain⟨h1,e1⟩:=Uh.mp a;obtain⟨h2,e2⟩:=Uh.mp b;exact(List.getElem_inj hN).mp (e1.trans e2.symm)
theorem vx{M:Model}{A:Around}{E:Value->Shared->Prop}{i:Nat}{x:Str}{v:V}{u:Value}{Q:Unit->Shared->Prop}(I:P4 X gV σ H s)(hN:X.N.Nodup)(hi:X.N[i]?=some x)(hx:P2 X.env.scope x)(r:bS v u)
  (h:∀s',P4 X gV (σ.set i (some v)) H s'->(∃a,Heap.SameBut a s.heap s'.heap/\(a=X.env.locals∨X.env.cells.lookup x=some a))->Q () s') (hf:X.fn x=true∨X.env.scope.names.lookup x=some .local:=by first|exact .inl rfl|exact .inr rfl|assumption):wpAny M A (storeName X.env x u) Q E s:=by
 obtain⟨m,hn,hl⟩:=id I.loc;have hcls:(X.env.scope.kind == .class ||(X.env.scope.kind == .module && X.env.locals != X.env.globals))=false:=by rw[I.ok.kind];rfl
 have hiσ:i<σ.length:=by rw[I.len];exact(Uh.mp hi).1
 have cne:=I.cne
 have tracked:∀{a:Addr}{h':Heap},(∃o,s.heap.get? a=some o/\H a=none)->Heap.SameBut a s.heap h'->PU X.prog X.w H h':=λ{a h'} ha hs b ob e=>by
  obtain⟨_,_,hfree⟩:=ha;refine(I.hok b ob e).stay (λc w' hc q=>(hs.2 c ?_).trans q) (λ_ q=>q) (λ_ _ q=>q) λ_ _ _ _ q=>q;rintro rfl;rcases hc with rfl|hc
  . rw[hfree]at e;cases e
  . rw[hfree]at hc;cases hc
 rcases hx with hk|hk
 .
  refine wpAny_storeName_local hk hn (λh' hn' hs=>?_) hcls;obtain⟨oL,_,_,hoL,_⟩:=id hn;refine h _ ⟨I.ok,I.os,I.bare,⟨λb o e n hb hx=>?_,λb o e n hb hx=>?_,I.base.free,λb o e hx=>?_,I.base.tups,I.base.frzs,I.base.tbls⟩,⟨_,hn',λj y v' e1 e2 e3=>?_⟩,λy c e=>?_,I.free,I.freeC,λp hp=>?_,tracked ⟨oL,hoL,I.free⟩ hs,by simpa using I.len⟩ ⟨_,hs,.inl rfl⟩
  . exact(hs.2 b (UI (Uj (Up e) I.ok.above))).trans (I.base.keep b o e n hb hx)
  . obtain⟨sl,e1⟩:=I.base.slot b o e n hb hx;exact⟨sl,(hs.2 b (UI (Uj (Up e) I.ok.above))).trans e1⟩
  . obtain⟨o',e1⟩:=I.base.there b o e hx;exact⟨o',(hs.2 b (UI (Uj (Up e) I.ok.above))).trans e1⟩
  .
   by_cases hj:j=i
   . subst hj;rw[hi]at e1;cases e1;rw[Vc hiσ]at e2;cases e2;exact⟨u,r,.inl ⟨hk,v6⟩⟩
   .
    rw[Vo (Vn hj)]at e2;obtain⟨u',r',q⟩:=hl j y v' e1 e2 e3;refine⟨u',r',?_⟩;rcases q with⟨k,e⟩|⟨k,c,e,z⟩
    . refine .inl ⟨k,?_⟩;have:y≠x:=λe=>hj (t9 hN e1 (e ▸ hi));simp[this,e]
    . exact .inr ⟨k,c,e,z.sameBut hs (cne y c e)⟩
  . obtain⟨w',z⟩:=I.cell y c e;exact⟨w',z.sameBut hs (cne y c e)⟩
  . obtain⟨e,n,ne,nf,d⟩:=I.pin p hp;exact⟨(hs.2 p.1 ne).trans e,n,ne,nf,d⟩
 .
  have hfn:X.fn x=true:=by
   rcases hf with z|z
   . exact z
   . rw[z]at hk;cases hk
  obtain⟨c,hc⟩:=I.ok.has x (.inl hk);obtain⟨w',z⟩:=I.cell x c hc;refine wpAny_storeName_cell I.ok.kind hk hc z (λh' hc' hs=>?_);obtain⟨oc,hoc,hocd⟩:=id z;refine h {s with heap:=h' } ⟨I.ok,I.os,I.bare,⟨λb o e n hb hx=>?_,λb o e n hb hx=>?_,I.base.free,λb o e hx=>?_,I.base.tups,I.base.frzs,I.base.tbls⟩,⟨m,hn.sameBut hs (Vn (cne x c hc)),λj y v' e1 e2 e3=>?_⟩,λy c' e=>?_,I.free,I.freeC,λp hp=>?_,tracked ⟨oc,hoc,(I.freeC x c hc).resolve_right λz=>by rw[hfn]at z;exact absurd z.1 x_⟩ hs,by simpa using I.len⟩ ⟨c,hs,.inr hc⟩
  . exact(hs.2 b (UI (Uj (Up e) (I.ok.cab x c hfn hc)))).trans (I.base.keep b o e n hb hx)
  . obtain⟨sl,e1⟩:=I.base.slot b o e n hb hx;exact⟨sl,(hs.2 b (UI (Uj (Up e) (I.ok.cab x c hfn hc)))).trans e1⟩
  . obtain⟨o',e1⟩:=I.base.there b o e hx;exact⟨o',(hs.2 b (UI (Uj (Up e) (I.ok.cab x c hfn hc)))).trans e1⟩
  .
   by_cases hj:j=i
   . subst hj;rw[hi]at e1;cases e1;rw[Vc hiσ]at e2;cases e2;exact⟨u,r,.inr ⟨.inl hk,c,hc,hc'⟩⟩
   .
    rw[Vo (Vn hj)]at e2;obtain⟨u',r',q⟩:=hl j y v' e1 e2 e3;refine⟨u',r',?_⟩;rcases q with q|⟨k,c',e,z'⟩
    . exact .inl q
    . refine .inr ⟨k,c',e,z'.sameBut hs ?_⟩;rintro rfl;exact hj (t9 hN e1 (I.ok.inj _ _ _ e hc ▸ hi))
  .
   by_cases hcc:c'=c
   . subst hcc;exact⟨_,hc'⟩
   . obtain⟨w2,z2⟩:=I.cell y c' e;exact⟨w2,z2.sameBut hs hcc⟩
  . obtain⟨e,n,ne,nf,d⟩:=I.pin p hp;refine⟨(hs.2 p.1 ?_).trans e,n,ne,nf,d⟩;intro q;rw[q,hoc]at e;have q':oc=p.2:=UM e;exact d w' (by rw[<- q'];exact hocd)
theorem kN{M:Model}{A:Around}{E:Value->Shared->Prop}{i:Nat}{x:Str}{v:V}{u:Value}{Q:Unit->Shared->Prop}(I:P4 X gV σ H s)(hN:X.N.Nodup)(hi:X.N[i]?=some x)(hx:P2 X.env.scope x)(r:bS v u)
  (h:∀s',P4 X gV (σ.set i (some v)) H s'->Q () s') (hf:X.fn x=true∨X.env.scope.names.lookup x=some .local:=by first|exact .inl rfl|exact .inr rfl|assumption):wpAny M A (storeName X.env x u) Q E s :=
 vx I hN hi hx r (λs' I' _=>h s' I') hf
theorem P4.call'{s':Shared}{ch:List Addr}(I:P4 X gV σ H s)(ho:s'.os=s.os)(u:Un (PZ X.stack) ch H H' s.heap s'.heap)(hok:PU X.prog X.w H' s'.heap)(hg:AllBare s'.gens)
  (hch:∀b∈ch,(b∈X.ex∨X.s₀.heap.objs.size<=b)/\b≠X.env.locals/\(∀x c,X.env.cells.lookup x=some c->c≠b)/\∀p∈X.pn++gV,p.1≠b):P4 X gV σ H' s':=by
 obtain⟨h',g',d',t',o'⟩:=s';have e:o'=s.os:=ho;subst e;exact I.call (g':=g') (t':=t') (d':=d') u hok hg hch
end
noncomputable abbrev XK:=Value->Option Addr->Hp->Prop
noncomputable abbrev St:=List (Option V)
noncomputable abbrev VK:=V->Hp->Prop
abbrev TE:=St->Hp->VK->Prop
noncomputable abbrev TT:=St->Hp->(Bool->Hp->Prop)->Prop
noncomputable abbrev TA:=St->Hp->(List V->Hp->Prop)->Prop
structure Kk where
 nx:St->Hp->Prop
 rt:VK
 bk:St->Hp->Prop:=λ_ _=>False
 ct:St->Hp->Prop:=λ_ _=>False
abbrev TS:=Kk->St->Hp->Prop
inductive EP (X:Cx) (gV:List (Addr×Obj)) (σ:St) (Q:VK) (u:Value) (s':Shared):Prop
 |mk (v:V) (H':Hp) (i:P4 X gV σ H' s') (r:bS v u) (q:Q v H')
theorem EP.on{G:Prop}{X:Cx}{gV:List (Addr×Obj)}{σ:St}{Q:VK}{u:Value}{s':Shared}(h:EP X gV σ Q u s')(k:∀v H',P4 X gV σ H' s'->bS v u->Q v H'->G):G:=by cases h with|mk v H' i r q=>exact k v H' i r q
inductive TP (X:Cx) (gV:List (Addr×Obj)) (σ:St) (Q:Bool->Hp->Prop) (b:Bool) (s':Shared):Prop
 |mk (H':Hp) (i:P4 X gV σ H' s') (q:Q b H')
inductive AP (X:Cx) (gV:List (Addr×Obj)) (σ:St) (Q:List V->Hp->Prop) (us:List Value) (s':Shared):Prop
 |mk (vs:List V) (H':Hp) (i:P4 X gV σ H' s') (r:bT vs us) (q:Q vs H')
theorem AP.on{G:Prop}{X:Cx}{gV:List (Addr×Obj)}{σ:St}{Q:List V->Hp->Prop}{us:List Value}{s':Shared}(h:AP X gV σ Q us s')(k:∀vs H',P4 X gV σ H' s'->bT vs us->Q vs H'->G):G:=by cases h with|mk v H' i r q=>exact k v H' i r q
inductive P5 (X:Cx) (gV:List (Addr×Obj)) (D:St->Hp->Prop) (s':Shared):Prop
 |mk (σ':St) (H':Hp) (i:P4 X gV σ' H' s') (q:D σ' H')
inductive P6 (X:Cx) (gV:List (Addr×Obj)) (D:VK) (u:Value) (s':Shared):Prop
 |mk (v:V) (σ':St) (H':Hp) (i:P4 X gV σ' H' s') (r:bS v u) (q:D v H')
def SP(X:Cx)(gV:List (Addr×Obj))(D:Kk)(f:Flow)(s':Shared):Prop :=
 match f with
 |.next=>P5 X gV D.nx s'
 |.brk=>P5 X gV D.bk s'
 |.cont=>P5 X gV D.ct s'
 |.ret u=>P6 X gV D.rt u s'
def PE(X:Cx)(e:Expr)(t:TE):Prop :=
 ∀(gV:List (Addr×Obj))(s:Shared)(σ:St)(H:Hp)(Q:VK),P4 X gV σ H s->t σ H Q->wpAny (model X.prog X.w) X.A (eval e X.env) (EP X gV σ Q) X.xe s
def PT(X:Cx)(e:Expr)(t:TT):Prop :=
 ∀(gV:List (Addr×Obj))(s:Shared)(σ:St)(H:Hp)(Q:Bool->Hp->Prop),P4 X gV σ H s->t σ H Q->wpAny (model X.prog X.w) X.A (isTrue e X.env (eval e X.env)) (TP X gV σ Q) X.xe s
def PA(X:Cx)(es:List Expr)(t:TA):Prop :=
 ∀(pos:Pos)(gV:List (Addr×Obj))(s:Shared)(σ:St)(H:Hp)(Q:List V->Hp->Prop),P4 X gV σ H s->t σ H Q->wpAny (model X.prog X.w) X.A (spliced (backTo pos (starEach es X.env))) (AP X gV σ Q) X.xe s
def PS(X:Cx)(st:Stmt)(t:TS):Prop :=
 ∀(gV:List (Addr×Obj))(s:Shared)(σ:St)(H:Hp)(D:Kk),P4 X gV σ H s->t D σ H->wpAny (model X.prog X.w) X.A (exec st X.env) (SP X gV D) X.xe s
def P7(X:Cx)(st:List Stmt)(t:TS):Prop :=
 ∀(gV:List (Addr×Obj))(s:Shared)(σ:St)(H:Hp)(D:Kk),P4 X gV σ H s->t D σ H->wpAny (model X.prog X.w) X.A (execs st X.env) (SP X gV D) X.xe s
theorem P8{α:Type}{t:Sem α}{Q Q':α->Shared->Prop}{M:Model}{A:Around}{E:Value->Shared->Prop}{s:Shared}(h:wpAny M A t Q E s)(hQ:∀a s,Q a s->Q' a s):wpAny M A t Q' E s:=U8 h hQ λ_ _ x=>x
section
variable{X:Cx}
theorem P9{a b:Expr}{ta tb:TE}(ha:PE X a ta)(hb:PE X b tb){gV:List (Addr×Obj)}{s:Shared}{σ:St}{H:Hp}{R:V->V->Hp->Prop}(I:P4 X gV σ H s)(h:ta σ H λx H1=>tb σ H1 λy H2=>R x y H2)
  {α:Type} {Q:α->Shared->Prop} {f:Value->Value->Sem α}
  (hf:∀v u s2 x y H2,P4 X gV σ H2 s2->bS x v->bS y u->R x y H2->wpAny (model X.prog X.w) X.A (f v u) Q X.xe s2) :
  wpAny (model X.prog X.w) X.A (eval a X.env) (λv s₁=>wpAny (model X.prog X.w) X.A (eval b X.env) (λu s₂=>wpAny (model X.prog X.w) X.A (f v u) Q X.xe s₂) X.xe s₁) X.xe s:=by
 refine P8 (ha gV s σ H _ I h) λv s1 ⟨x,H1,I1,r1,q1⟩=>?_;refine P8 (hb gV s1 σ H1 _ I1 q1) λu s2 ⟨y,H2,I2,r2,q2⟩=>?_;exact hf v u s2 x y H2 I2 r1 r2 q2
def Bc(i:Nat):TE:=λσ H Q=>∃v,σ[i]?=some (some v)/\Q v H
def tC(v:V):TE:=λ_ H Q=>Q v H
theorem dY{i:Nat}{x:Str}{pos:Pos}(hN:X.N[i]?=some x)(hv:P0 X.env.scope x) (hd:aab x:=by decide) (hcd:aac x:=by decide):PE X (.Name x pos) (Bc i):=by
 intro gV s σ H Q I h;obtain⟨v,e,h⟩:=h;obtain⟨m,hn,hl⟩:=I.loc;obtain⟨u,r,l⟩:=hl i x v hN e hv;have fin:EP X gV σ Q u s:=⟨v,H,I,r,h⟩;rcases l with⟨hk,hm⟩|⟨hk,c,hc,hcell⟩
 . exact wpAny_Name (wpAny_loadName_local I.ok.kind hk hn hm fin) hd
 .
  rcases hk with hk|hk
  . exact wpAny_Name (wpAny_loadName_cell I.ok.kind hk hc hcell fin) hd
  . exact wpAny_Name (wpAny_loadName_free I.ok.kind hk hc hcell fin hcd) hd
theorem GB {i j pos}:PE X (.Constant (.int i) j pos) (tC (.int i)):=λ_ _ _ H _ I h=>wpAny_Constant_int ⟨.int i,H,I.tok _,⟨_,rfl⟩,h⟩
theorem M9 {b j pos}:PE X (.Constant (.bool b) j pos) (tC (.bl b)):=λ_ _ _ H _ I h=>Constant_bool ⟨.bl b,H,I,rfl,h⟩
theorem Kz {j pos}:PE X (.Constant .none j pos) (tC .non):=λ_ _ _ H _ I h=>Constant_none ⟨.non,H,I,rfl,h⟩
theorem sT {x j pos}:PE X (.Constant (.str x) j pos) (tC (.str x)):=λ_ _ _ H _ I h=>Calls.Constant_str ⟨.str x,H,I.tok _,⟨_,rfl⟩,h⟩
def Gl(X:Cx)(x:Str):Prop:=X.env.kindOf x=some .globalImplicit
theorem gF{E:Value->Shared->Prop}{gV:List (Addr×Obj)}{s:Shared}{σ:St}{H:Hp}{x:Str}{u:Value}{pos:Pos}{Q:Value->Shared->Prop}(I:P4 X gV σ H s)(hg:Gl X x)(hm:X.mg x=some u)(h:Q u s)
  (hd:aab x:=by decide):wpAny (model X.prog X.w) X.A (eval (.Name x pos) X.env) Q E s :=
 Calls.Name_function_global I.ok.kind hg (Calls.loadGlobal_global (by rw[I.ok.glob];exact I.mod.glob.keeps I.bk) hm h) hd
theorem mV{E:Value->Shared->Prop}{gV:List (Addr×Obj)}{s:Shared}{σ:St}{H:Hp}{x:Str}{u:Value}{pos:Pos}{Q:Value->Shared->Prop}(I:P4 X gV σ H s)(hg:Gl X x)(hm:X.mg x=none)(hv:bootBuiltins x=some u)(h:Q u s)
  (hn:x≠"__name__":=by decide) (hd:aab x:=by decide):wpAny (model X.prog X.w) X.A (eval (.Name x pos) X.env) Q E s:=by
 obtain⟨mb,h1,h2⟩:=I.mod.blt;exact Calls.Name_function_global I.ok.kind hg (Calls.loadGlobal_builtin (by rw[I.ok.glob];exact I.mod.glob.keeps I.bk) hm (by rw[I.ok.blt];exact h1.keeps I.bk) ((h2 x hn).trans hv) h) hd
theorem xr{x:Str}{v:V}{u:Value}{pos:Pos}(hg:Gl X x)(hm:X.mg x=some u)(r:bS v u) (hd:aab x:=by decide):PE X (.Name x pos) (tC v) :=
 λ_ _ _ H _ I h=>gF I hg hm ⟨v,H,I,r,h⟩ hd
theorem Hi{x:Str}{v:V}{u:Value}{pos:Pos}(hg:Gl X x)(hm:X.mg x=none)(hv:bootBuiltins x=some u)(r:bS v u) (hn:x≠"__name__":=by decide) (hd:aab x:=by decide):PE X (.Name x pos) (tC v) :=
 λ_ _ _ H _ I h=>mV I hg hm hv ⟨v,H,I,r,h⟩ hn hd
variable{a b:Expr}{ta tb:TE}{pos:Pos}
noncomputable def tB(t:TE):TT:=λσ H Q=>t σ H λx H1=>∃c,x=.bl c/\Q c H1
end
def Qa(K:W.Frag)(H:Hp)(a:Addr)(xs:List V):Prop :=
 Rd H a (.lst xs) ∨
  ∃(o:Obj)(its:Array Value)(n:Nat),K.lookup a=some o/\o.cls=.type "list"/\o.dict=none/\o.data=.seq its n/\its.size<=sizeLine/\bT xs its.toList
def Qb(K:W.Frag)(H:Hp)(a:Addr)(xs:List V):Prop :=
 Rd H a (.tup xs) ∨
  ∃(o:Obj)(its:Array Value)(n:Nat),K.lookup a=some o/\o.cls=.type "tuple"/\o.data=.seq its n/\its.size<=sizeLine/\bT xs its.toList
noncomputable def OU:Value->Option V
 |.none=>some .non
 |.bool b=>some (.bl b)
 |.int i _=>some (.int i)
 |.str x _=>some (.str x)
 |.bytes b _=>some (.byt b)
 |.float b _=>some (.flt b)
 |.ref a=>some (.ref a)
 |.type n=>some (.ty n)
 |_=>none
theorem bS.abs{x:V}{u:Value}(r:bS x u):OU u=some x:=by
 cases x with
 |non=>cases r;rfl
 |bl _=>cases r;rfl
 |int _=>obtain⟨t,rfl⟩:=r;rfl
 |str _=>obtain⟨t,rfl⟩:=r;rfl
 |byt _=>obtain⟨t,rfl⟩:=r;rfl
 |flt _=>obtain⟨t,rfl⟩:=r;rfl
 |ref _=>cases r;rfl
 |ty _=>cases r;rfl
theorem bS.inj{x y:V}{u:Value}(r:bS x u)(q:bS y u):x=y:=UM (r.abs.symm.trans q.abs)
theorem bT.inj:∀{xs ys:List V}{us:List Value},bT xs us->bT ys us->xs=ys
 |_,_,_,.nil,.nil=>rfl
 |_,_,_,.cons r t,.cons r' t'=>by rw[r.inj r',bT.inj t t']
section
variable{X:Cx}{gV:List (Addr×Obj)}{σ:St}{H:Hp}{s:Shared}{a:Addr}{xs ys:List V}
theorem Qa.of{K:W.Frag}(h:H a=some (.lst xs)):Qa K H a xs:=.inl (.inl h)
theorem Qb.of{K:W.Frag}(h:H a=some (.tup xs)):Qb K H a xs:=.inl (.inl h)
theorem P4.list(I:P4 X gV σ H s)(h:Qa X.K H a xs):∃its:List Value,bT xs its/\PlainL s.heap a its.toArray/\xs.length<=sizeLine:=by
 rcases h with h|⟨o,its,n,hk,hc,hd,hs,hz,r⟩
 . obtain⟨z,its,n,r,e⟩:=h.ok I.hok;exact⟨its,r,⟨_,n,e,rfl,rfl,rfl⟩,z⟩
 . refine⟨its.toList,r,⟨o,n,I.kIn a o hk,hc,hd,by simpa using hs⟩,?_⟩;have e:=r.length;simp only[VG]at e;omega
theorem P4.tuple(I:P4 X gV σ H s)(h:Qb X.K H a xs):∃its:List Value,bT xs its/\IsTup s.heap a its.toArray/\xs.length<=sizeLine:=by
 rcases h with h|⟨o,its,n,hk,hc,hs,hz,r⟩
 . obtain⟨z,its,r,p⟩:=h.ok I.hok;exact⟨its,r,p,z⟩
 . refine⟨its.toList,r,⟨o,I.kIn a o hk,hc,n,by simpa using hs⟩,?_⟩;have e:=r.length;simp only[VG]at e;omega
theorem P4.list_inj(I:P4 X gV σ H s)(h:Qa X.K H a xs)(h':Qa X.K H a ys):xs=ys:=by
 obtain⟨its,r,⟨o,n,e,_,_,d⟩,_⟩:=I.list h;obtain⟨its',r',⟨o',n',e',_,_,d'⟩,_⟩:=I.list h';rw[e]at e';cases e';rw[d]at d';injection d' with d1 _;have:its=its':=by simpa using Vy Array.toList d1
 subst this;exact r.inj r'
theorem P4.tuple_inj(I:P4 X gV σ H s)(h:Qb X.K H a xs)(h':Qb X.K H a ys):xs=ys:=by
 obtain⟨its,r,⟨o,e,_,n,d⟩,_⟩:=I.tuple h;obtain⟨its',r',⟨o',e',_,n',d'⟩,_⟩:=I.tuple h';rw[e]at e';cases e';rw[d]at d';injection d' with d1 _;have:its=its':=by simpa using Vy Array.toList d1
 subst this;exact r.inj r'
end
noncomputable abbrev Cx.wish(X:Cx)(E:Value->Shared->Prop):Cx:={X with xe:=E}
noncomputable abbrev Cx.nox(X:Cx):Cx:=X.wish λ_ _=>False
theorem Cx.Ok.wish{X:Cx}(ok:X.Ok)(E:Value->Shared->Prop):(X.wish E).Ok :=
 ⟨ok.mod,ok.kind,ok.glob,ok.blt,ok.above,ok.inj,ok.has,ok.cab,ok.hd,ok.frames,ok.stk,ok.exf,ok.bs,ok.bsz,ok.noex,ok.exfs,ok.funs,ok.frf,ok.tbs⟩
theorem Cx.Ok.unwish{X:Cx}{E:Value->Shared->Prop}(ok:(X.wish E).Ok):X.Ok :=
 ⟨ok.mod,ok.kind,ok.glob,ok.blt,ok.above,ok.inj,ok.has,ok.cab,ok.hd,ok.frames,ok.stk,ok.exf,ok.bs,ok.bsz,ok.noex,ok.exfs,ok.funs,ok.frf,ok.tbs⟩
section
variable{X:Cx}{gV:List (Addr×Obj)}{σ:St}{H:Hp}{s:Shared}{E:Value->Shared->Prop}
theorem P4.wish(I:P4 X gV σ H s)(E:Value->Shared->Prop):P4 (X.wish E) gV σ H s:=⟨I.ok.wish E,I.os,I.bare,I.base,I.loc,I.cell,I.free,I.freeC,I.pin,I.hok,I.len⟩
theorem P4.unwish(I:P4 (X.wish E) gV σ H s):P4 X gV σ H s:=⟨I.ok.unwish,I.os,I.bare,I.base,I.loc,I.cell,I.free,I.freeC,I.pin,I.hok,I.len⟩
theorem SP.unwish{D:Kk}{f:Flow}{s':Shared}(h:SP (X.wish E) gV D f s'):SP X gV D f s':=by
 cases f with
 |next=>obtain⟨σ',H',I,q⟩:=h;exact⟨σ',H',I.unwish,q⟩
 |brk=>obtain⟨σ',H',I,q⟩:=h;exact⟨σ',H',I.unwish,q⟩
 |cont=>obtain⟨σ',H',I,q⟩:=h;exact⟨σ',H',I.unwish,q⟩
 |ret u=>obtain⟨v,σ',H',I,r,q⟩:=h;exact⟨v,σ',H',I.unwish,r,q⟩
theorem P7.nox{st:List Stmt}{t:TS}(h:P7 X.nox st t):P7 X st t:=λgV s σ H D I hw =>
 U8 (h gV s σ H D (I.wish _) hw) (λ_ _ q=>q.unwish) λ_ _ z=>False.elim z
end
section
variable{X:Cx}{st:Stmt}{rest:List Stmt}{t u:TS}{e:Expr}{te:TE}{pos:Pos}
def MW(t u:TS):TS:=λD σ H=>t {D with nx:=u D} σ H
theorem ua(h1:PS X st t)(h2:P7 X rest u):P7 X (st::rest) (MW t u):=by
 intro gV s σ H D I h;refine wpAny_execs_cons (P8 (h1 gV s σ H {D with nx:=u D} I h) λf s1 q=>?_)
 cases f with
 | next =>
  obtain⟨σ',H',I',q⟩:=q;exact h2 gV s1 σ' H' D I' q
 |ret v=>exact q
 |brk=>exact q
 |cont=>exact q
theorem xu(h1:PS X st t):P7 X [st] t:=by
 intro gV s σ H D I h;refine wpAny_execs_cons (P8 (h1 gV s σ H D I h) λf s1 q=>?_)
 cases f with
 |next=>exact VS q
 |ret v=>exact q
 |brk=>exact q
 |cont=>exact q
theorem P4.quiet{gV:List (Addr×Obj)}{σ:St}{H:Hp}{s:Shared}(I:P4 X gV σ H s):interactive X.env=false:=by simp[interactive,I.ok.kind]
def Ec(te:TE):TS:=λD σ H=>te σ H λ_ H1=>D.nx σ H1
theorem xv(he:PE X e te)(hs:swapsWith e none pos.line X.env=pure false:=by rfl):PS X (.Expr e pos) (Ec te):=by intro gV s σ H D I h;exact wpAny_Expr_any (P8 (he gV s σ H _ I h) λv s1 ⟨x,H1,I1,r1,q1⟩=>⟨σ,H1,I1,q1⟩) I.quiet hs
end
noncomputable abbrev TG:=V->St->Hp->(St->Hp->Prop)->Prop
noncomputable abbrev Qc:=List V->St->Hp->(St->Hp->Prop)->Prop
def PG(X:Cx)(target:Expr)(t:TG):Prop :=
 ∀(gV:List (Addr×Obj))(s:Shared)(σ:St)(H:Hp)(v:V)(u:Value)(Q:St->Hp->Prop),P4 X gV σ H s->bS v u->t v σ H Q ->
  wpAny (model X.prog X.w) X.A (assign target X.env u) (λ_ s'=>∃σ' H',P4 X gV σ' H' s'/\Q σ' H') X.xe s
def Qd(X:Cx)(ts:List Expr)(t:Qc):Prop :=
 ∀(gV:List (Addr×Obj))(s:Shared)(σ:St)(H:Hp)(vs:List V)(us:List Value)(Q:St->Hp->Prop),P4 X gV σ H s->bT vs us->t vs σ H Q ->
  wpAny (model X.prog X.w) X.A (assignInOrder ((assignEach ts X.env).map (·.2)) us) (λ_ s'=>∃σ' H',P4 X gV σ' H' s'/\Q σ' H') X.xe s
noncomputable abbrev Na:=V->V->V->Hp->(Hp->Prop)->Prop
def Oq(X:Cx)(t:Na):Prop :=
 ∀(gV:List (Addr×Obj))(s:Shared)(σ:St)(H:Hp)(o i v:V)(ov iv u:Value)(Q:Hp->Prop),P4 X gV σ H s->bS o ov->bS i iv->bS v u->t o i v H Q ->
  wpAny (model X.prog X.w) X.A (setItem ov iv u) (λ_ s'=>∃H',P4 X gV σ H' s'/\Q H') X.xe s
section
variable{X:Cx}{pos:Pos}
noncomputable def Nc(i:Nat):TG:=λv σ H Q=>Q (σ.set i (some v)) H
theorem xw{i:Nat}{x:Str}(hN:X.N.Nodup)(hi:X.N[i]?=some x)(hx:P2 X.env.scope x)(hf:X.fn x=true∨X.env.scope.names.lookup x=some .local:=by first|exact .inl rfl|exact .inr rfl|assumption):PG X (.Name x pos) (Nc i):=by intro gV s σ H v u Q I r h;exact wpAny_assign_Name (kN I hN hi hx r (λs' I'=>⟨_,H,I',h⟩) hf)
noncomputable def OV:Qc:=λvs σ H Q=>vs=[]/\Q σ H
noncomputable def Nd(t:TG)(u:Qc):Qc:=λvs σ H Q=>∃v r,vs=v::r/\t v σ H λσ' H'=>u r σ' H' Q
theorem Hj:Qd X [] OV:=by intro gV s σ H vs us Q I r h;obtain⟨e,h⟩:=h;subst e;cases r;exact assignInOrder_nil ⟨σ,H,I,h⟩
theorem Ed{e:Expr}{es:List Expr}{t:TG}{u:Qc}(h1:PG X e t)(h2:Qd X es u)
  (hs:(assignEach (e::es) X.env).map (·.2)=assign e X.env::(assignEach es X.env).map (·.2):=by rfl):Qd X (e::es) (Nd t u):=by
 intro gV s σ H vs us Q I r h;obtain⟨v,vr,e1,h⟩:=h;subst e1
 cases r with
 | cons r rr =>
  rw[hs];refine assignInOrder_cons (P8 (h1 gV s σ H _ _ _ I r h) λ_ s1 ⟨σ1,H1,I1,q1⟩=>?_);exact h2 gV s1 σ1 H1 _ _ Q I1 rr q1
noncomputable def OW(K:W.Frag)(n:Nat)(t:Qc):TG:=λv σ H Q=>∃a xs,v=.ref a/\Qb K H a xs/\xs.length=n/\t xs σ H Q
theorem KA{es:List Expr}{k:Nat}{t:Qc}{n:Nat}(hc:X.calm=true)(h:Qd X es t)
  (hn:(assignEach es X.env).length=n:=by rfl) (hst:(assignEach es X.env).findIdx? (·.1)=none:=by rfl):PG X (.Tuple es k pos) (OW X.K n t):=by
 intro gV s σ H v u Q I r hw;obtain⟨a,xs,e1,hq,hl,hw⟩:=hw;subst e1;cases r;obtain⟨its,rv,ht,hz⟩:=I.tuple hq;refine assign_Tuple_tuple (I.ok.hd hc) ht (by simp[hn,<- hl,rv.length]) hst λh' hx=>?_;have I1:P4 X gV σ H {s with heap:=h' }:=I.kept (t':=s.toks) λb o e=>hx b o (UI (Up e)) e;exact h gV _ σ H xs _ Q I1 (by simpa using rv) hw
noncomputable def OX(to ti:TE)(t:Na):TG:=λv σ H Q=>to σ H λo H1=>ti σ H1 λi H2=>t o i v H2 λH3=>Q σ H3
theorem KB{o i:Expr}{to ti:TE}{t:Na}(ho:PE X o to)(hi:PE X i ti)(hs:Oq X t)
  (ha:∀v,assign (.Subscript o i pos) X.env v=(do
   let ov <- holding [v] (eval o X.env)
   let iv <- holding [v,ov] (eval i X.env)
   standAt pos
   holding [v,ov,iv] (setItem ov iv v)
   release [v,ov,iv] []):=by intro _;rfl):PG X (.Subscript o i pos) (OX to ti t):=by
 intro gV s σ H v u Q I r h;rw[ha];refine kS (Vz (P8 (ho gV s σ H _ I h) λov s1 ⟨x,H1,I1,r1,q1⟩=>?_));refine kS (Vz (P8 (hi gV s1 σ H1 _ I1 q1) λiv s2 ⟨y,H2,I2,r2,q2⟩=>?_));refine kS (We (kS (Vz (P8 (hs gV s2 σ H2 x y v ov iv u _ I2 r1 r2 r q2) λ_ s3 ⟨H3,I3,q3⟩=>?_))));exact wpAny_release ⟨σ,H3,I3,q3⟩
def OY(te:TE)(g:TG):TS:=λD σ H=>te σ H λx H1=>g x σ H1 D.nx
theorem KC{tg e:Expr}{te:TE}{g:TG}(he:PE X e te)(hg:PG X tg g)(hs:swapsWithSole [tg] e pos.line X.env=pure false:=by rfl)(hw:swappedStores [tg] e X.env=pure none:=by rfl)
  (h1:(assignEach [tg] X.env).map (·.2)=[assign tg X.env]:=by rfl):PS X (.Assign [tg] e pos) (OY te g):=by
 intro gV s σ H D I h;refine wpAny_Assign_stores (P8 (he gV s σ H _ I h) λv s1 ⟨x,H1,I1,r1,q1⟩=>?_) hs hw;rw[h1];exact P8 (hg gV s1 σ H1 x v _ I1 r1 q1) λ_ s2 ⟨_,_,a,b⟩=>⟨_,_,a,b⟩
def OZ(i j:Nat)(ta:TA):TS:=λD σ H=>ta σ H λvs H1=>∃v w,vs=[v,w]/\D.nx ((σ.set i (some v)).set j (some w)) H1
theorem KD{i j:Nat}{x y:Str}{a b:Expr}{ta:TA}{px py pt:Pos} {kt k2 pt2} (hc:X.calm=true) (hN:X.N.Nodup) (hi:X.N[i]?=some x) (hj:X.N[j]?=some y) (hij:i≠j)
  (hx:X.env.scope.names.lookup x=some .local) (hy:X.env.scope.names.lookup y=some .local) (ha:PA X [a,b] ta)
  (hw:swappedStores [.Tuple [.Name x px,.Name y py] kt pt] (.Tuple [a,b] k2 pt2) X.env=pure (some [x,y]))
  (hs:swapsWithSole [.Tuple [.Name x px,.Name y py] kt pt] (.Tuple [a,b] k2 pt2) pos.line X.env=pure false:=by rfl) :
  PS X (.Assign [.Tuple [.Name x px,.Name y py] kt pt] (.Tuple [a,b] k2 pt2) pos) (OZ i j ta):=by
 intro gV s σ H D I h;rw[exec_Assign_arm];refine kS (We ?_);rw[hs];refine kS (Um ?_);rw[if_neg (by decide)];refine kS (Tuple_ (P8 (ha _ gV s σ H _ I h) λus s1 ⟨vs,H1,I1,r1,q1⟩=>?_));obtain⟨v,w,e1,q1⟩:=q1;subst e1
 obtain⟨u1,u2,rfl,rv,rw'⟩:∃u1 u2,us=[u1,u2]/\bS v u1/\bS w u2:=by
  cases r1 with
  | cons p q =>
   cases q with
   | cons p' q' =>
    cases q';exact⟨_,_,rfl,p,p'⟩
 refine VQ ?_ (by show 2<=sizeLine;decide);have I2:P4 X gV σ H1 {s1 with heap:=s1.heap.push {cls:=.type "tuple",data:=.seq [u1,u2].toArray} }:=I1.kept (t':=s1.toks) λb o e=>Ug _ e;rw[hw];refine kS (Um ?_)
 show wpAny (model X.prog X.w) X.A (do rule "assign.swapped-stores"; let items <- unpackItems (.ref s1.heap.objs.size) 2 none; assignInOrder [λv=>bindName X.env y v,λv=>bindName X.env x v] items.reverse; pure Flow.next) _ _ _
 refine kS (wpAny_rule (kS (unpackItems_tuple (items:=#[u1,u2]) (I.ok.hd hc) (IsTup.new s1.heap _) λh' hx'=>?_)));have I3:=I2.kept (h':=h') (t':=s1.toks) λb o e=>hx' b o (UI (Up e)) e
 show wpAny _ _ (assignInOrder [λv=>bindName X.env y v,λv=>bindName X.env x v] [u2,u1] >>= λ_=>pure Flow.next) _ _ _
 refine kS (assignInOrder_cons (wpAny_bindName (kN I3 hN hj (.inl hy) rw' (λs2 I4=>?_) (.inr hy))));refine assignInOrder_cons (wpAny_bindName (kN I4 hN hi (.inl hx) rv (λs3 I5=>assignInOrder_nil (Um ?_)) (.inr hx)));rw[List.set_comm _ _ (Vn hij)]at I5;exact⟨_,H1,I5,q1⟩
end
section
variable{X:Cx}{pos:Pos}
def KF(c:TT)(tb:TS):TS:=λD σ H=>∃W:Nat->St->Hp->Prop,(∃m,W m σ H)/\∀m σ H,W m σ H ->
 c σ H λb H1=>if b=true then ∃N:St->Hp->Prop,(∀σ' H',N σ' H'->∃m',m' < m/\W m' σ' H')/\tb {D with nx:=N,ct:=N,bk:=D.nx} σ H1 else D.nx σ H1
theorem Ee{c:Expr}{body:List Stmt}{tc:TT}{tb:TS}(hp:PassesOwn (model X.prog X.w) X.A X.env X.xe)(hc:PT X c tc)(hb:P7 X body tb):PS X (.While c body [] pos) (KF tc tb):=by
 intro gV s σ H D I h;obtain⟨W,⟨m0,w0⟩,turn⟩:=h;refine wpAny_While (codeAny_whileLoop (λn s'=>∃σ' H',P4 X gV σ' H' s'/\W n σ' H') ?_ m0 ⟨σ,H,I,w0⟩);rintro n s1 ⟨σ1,H1,I1,w1⟩;refine V4 hp (P8 (hc gV s1 σ1 H1 _ I1 (turn n σ1 H1 w1)) λb s2 ⟨H2,I2,q2⟩=>?_)
 cases b with
 | true =>
  obtain⟨N,hN,q2⟩:=q2;rw[if_pos rfl];refine V4 hp (P8 (hb gV s2 σ1 H2 _ I2 q2) λf s3 q3=>?_)
  cases f with
  | next =>
   obtain⟨σ3,H3,I3,n3⟩:=q3;obtain⟨m',hm,w3⟩:=hN σ3 H3 n3;exact⟨m',hm,σ3,H3,I3,w3⟩
  | cont =>
   obtain⟨σ3,H3,I3,n3⟩:=q3;obtain⟨m',hm,w3⟩:=hN σ3 H3 n3;exact⟨m',hm,σ3,H3,I3,w3⟩
  |brk=>exact q3
  |ret v=>exact q3
 | false =>
  rw[if_neg UL];exact VS ⟨σ1,H2,I2,q2⟩
end
structure It where
 go:Nat->Hp->Prop
 yld:Nat->Hp->V->Hp->Prop
 stop:Nat->Hp->Prop
def Bm(X:Cx)(gV:List (Addr×Obj))(H:Hp)(b:Addr):Prop :=
 H b=none/\b≠X.env.locals/\b∉X.fs/\(b∈X.ex∨X.s₀.heap.objs.size<=b)/\(∀x c,X.env.cells.lookup x=some c->c≠b)/\∀p∈X.pn++gV,p.1≠b
theorem P4.fpOk{X:Cx}{gV:List (Addr×Obj)}{σ:St}{H H':Hp}{s:Shared}{b:Addr}(I:P4 X gV σ H s)(hb:s.heap.objs.size<=b)(hn:H' b=none):Bm X gV H' b:=by
 refine⟨hn,Nat.ne_of_gt (Uj I.lt hb),I.nofs hb,.inr (Uv I.sz hb),λx c e z=>?_,λp hp z=>?_⟩
 . obtain⟨v,q⟩:=I.cell x c e;exact absurd (Uj q.lt (by rw[z];exact hb)) (Wb _)
 . exact absurd (Uj (Up (I.pin p hp).1) (by rw[z];exact hb)) (Wb _)
structure GC (P:Program) (w:World) (K:W.Frag) (tg:Expr) (J:It) (fp:List Addr) (it:Addr) (tn:Nat->Heap->Prop):Prop where
 mem:it∈fp
 obj:∀i h,tn i h->∀b∈fp,∃o,h.get? b=some o/\∀v,o.data≠.cell v
 keep:∀i h h',tn i h->(∀b∈fp,∀o,h.get? b=some o->h'.get? b=some o)->tn i h'
 item:∀(X:Cx),X.prog=P->X.w=w->X.K=K->X.calm=true->∀(i:Nat)(gV:List (Addr×Obj))(s:Shared)(σ:St)(H:Hp)(E:Value->Shared->Prop),P4 X gV σ H s->(∀b∈fp,Bm X gV H b)->tn i s.heap->J.go i H ->
  wpAny (model P w) X.A (pyNext (.ref it)) (λr s1=>∃u,r=some u /\
   wpAny (model P w) X.A (letOwnedTupleGo tg (.ref it) u) (λ_ s2=>∃x H',P4 X gV σ H' s2/\bS x u/\J.yld i H x H'/\tn (i+1) s2.heap/\∀b∈fp,H' b=none) E s1) E s
 done:∀(X:Cx),X.prog=P->X.w=w->X.K=K->X.calm=true->∀(i:Nat)(gV:List (Addr×Obj))(s:Shared)(σ:St)(H:Hp)(E:Value->Shared->Prop),P4 X gV σ H s->(∀b∈fp,Bm X gV H b)->tn i s.heap->J.stop i H ->
  wpAny (model P w) X.A (pyNext (.ref it)) (λr s1=>r=none/\P4 X gV σ H s1) E s
 self:∀(A:Around)(i:Nat)(s:Shared)(Q:Value->Shared->Prop)(E:Value->Shared->Prop),tn i s.heap->Q (.ref it) s->wpAny (model P w) A (pyIter (.ref it)) Q E s
noncomputable abbrev TI:=St->Hp->(It->Hp->Prop)->Prop
inductive Qe (X:Cx) (gV:List (Addr×Obj)) (σ:St) (tg:Expr) (R:It->Hp->Prop) (itv:Value) (s2:Shared):Prop
 |mk (it:Addr) (fp:List Addr) (tn:Nat->Heap->Prop) (J:It) (H':Hp) (hv:itv=.ref it) (i:P4 X gV σ H' s2) (t:GC X.prog X.w X.K tg J fp it tn) (h0:tn 0 s2.heap) (hf:∀b∈fp,Bm X gV H' b) (q:R J H')
def PI(X:Cx)(tg iter:Expr)(wi:TI):Prop :=
 ∀(gV:List (Addr×Obj))(s:Shared)(σ:St)(H:Hp)(R:It->Hp->Prop),P4 X gV σ H s->wi σ H R ->
  wpAny (model X.prog X.w) X.A (eval iter X.env) (λv s1=>wpAny (model X.prog X.w) X.A (pyIter v) (Qe X gV σ tg R) X.xe s1) X.xe s
theorem Ef {M : Model} {A : Around} {E : Value → Shared → Prop} {s : Shared} {tg : Expr} {it : Addr} {u : Value} {o : Obj} {n : String} {vs : Array Value} {Q : Unit → Shared → Prop} (ho : s.heap.get? it = some o) (hc : o.cls = .type n) (hd : o.data = .fields vs)
    (hn : ["enumerate", "zip", "dict_itemiterator", "dict_reverseitemiterator", "odict_iterator", "itertools.zip_longest", "itertools.pairwise"].contains n = false) (hQ : Q () s) : wpAny M A (letOwnedTupleGo tg (.ref it) u) Q E s := by
  unfold letOwnedTupleGo
  cases tg<;>first
    |exact Um hQ
    | (cases u<;>first
        |exact Um hQ
        | (refine kS (wpAny_load ho ?_)
           rw[hc, hd]
           show wpAny M A (if(["enumerate", "zip", "dict_itemiterator", "dict_reverseitemiterator", "odict_iterator", "itertools.zip_longest", "itertools.pairwise"].contains n && vs[0]? == some (rawInt _)) = true then _ else _) Q E s
           rw[if_neg (by intro h;rw[hn, V2]at h;cases h)]
           exact Um hQ))
noncomputable def Qf(K:W.Frag)(a:Addr):It :=
 ⟨λi H=>∃xs x,Qa K H a xs/\xs[i]?=some x,λi H x H'=>H'=H/\∀xs,Qa K H a xs->xs[i]?=some x,λi H=>∃xs,Qa K H a xs/\xs.length<=i⟩
noncomputable def Qg(K:W.Frag)(a:Addr):It :=
 ⟨λi H=>∃xs x,Qb K H a xs/\xs[i]?=some x,λi H x H'=>H'=H/\∀xs,Qb K H a xs->xs[i]?=some x,λi H=>∃xs,Qb K H a xs/\xs.length<=i⟩
noncomputable def Qh(lo:Int)(n:Nat):It:=⟨λi _=>i<n,λi H x H'=>H'=H/\x=.int (lo+i),λi _=>n<=i⟩
theorem Bo{P:Program}{w:World}{K:W.Frag}{tg:Expr}(a it:Addr):GC P w K tg (Qf K a) [it] it (λi h=>h.IsListIter it a i) where
 mem:=by simp
 obj:=λi h st b hb=>by
  have e:b=it:=by simpa using hb
  subst e;obtain⟨o,e,c,d⟩:=st;exact⟨o,e,λv z=>by rw[d]at z;cases z⟩
 keep:=λi h h' st k=>st.at λo e=>k it v6 o e
 item:=by intro X hP hw hK hc i gV s σ H E I hf st hg;subst hP hw hK;obtain⟨xs,x,hq,hx⟩:=hg;obtain⟨its,rv,p,hz⟩:=I.list hq;obtain⟨u,hu,ru⟩:=rv.get hx;obtain⟨f0,f1,f2,f3,f4,f5⟩:=hf it v6;refine wpAny_pyNext_list_item st p.isList (x:=u) (by simpa using hu) λh' st' sb=>?_;have I1:P4 X gV σ H {s with heap:=h' }:=I.turned (t':=s.toks) (λb o hb e=>(sb.2 b hb).trans e) f0 f1 f3 f4 f5;obtain⟨o,e,c,d⟩:=id st';exact⟨u,rfl,Ef (s:={s with heap:=h' }) e c d x_ ⟨x,H,I1,ru,⟨rfl,λys hy=>by rw[I.list_inj hy hq];exact hx⟩,st',λb hb=>(hf b hb).1⟩⟩
 done:=by intro X hP hw hK hc i gV s σ H E I hf st hg;subst hP hw hK;obtain⟨xs,hq,hx⟩:=hg;obtain⟨its,rv,p,hz⟩:=I.list hq;obtain⟨f0,f1,f2,f3,f4,f5⟩:=hf it v6;have hl:=rv.length;exact wpAny_pyNext_list_end (I.ok.hd hc) st p.isList (by simp;omega) λh' eb=>⟨rfl,I.turned (t':=s.toks) (λb o hb e=>eb b o hb e) f0 f1 f3 f4 f5⟩
 self:=λ_ _ _ _ _ st h=>wpAny_pyIter_listiter st h
theorem Ai{P:Program}{w:World}{K:W.Frag}{tg:Expr}(a it:Addr):GC P w K tg (Qg K a) [it] it (λi h=>h.IsTupleIter it a i) where
 mem:=by simp
 obj:=λi h st b hb=>by
  have e:b=it:=by simpa using hb
  subst e;obtain⟨o,e,c,d⟩:=st;exact⟨o,e,λv z=>by rw[d]at z;cases z⟩
 keep:=λi h h' st k=>st.at λo e=>k it v6 o e
 item:=by intro X hP hw hK hc i gV s σ H E I hf st hg;subst hP hw hK;obtain⟨xs,x,hq,hx⟩:=hg;obtain⟨its,rv,p,hz⟩:=I.tuple hq;obtain⟨u,hu,ru⟩:=rv.get hx;obtain⟨f0,f1,f2,f3,f4,f5⟩:=hf it v6;refine wpAny_pyNext_tuple_item st (show s.heap.IsTuple a its.toArray from p) (x:=u) (by simpa using hu) λh' st' sb=>?_;have I1:P4 X gV σ H {s with heap:=h' }:=I.turned (t':=s.toks) (λb o hb e=>(sb.2 b hb).trans e) f0 f1 f3 f4 f5;obtain⟨o,e,c,d⟩:=id st';exact⟨u,rfl,Ef (s:={s with heap:=h' }) e c d x_ ⟨x,H,I1,ru,⟨rfl,λys hy=>by rw[I.tuple_inj hy hq];exact hx⟩,st',λb hb=>(hf b hb).1⟩⟩
 done:=by intro X hP hw hK hc i gV s σ H E I hf st hg;subst hP hw hK;obtain⟨xs,hq,hx⟩:=hg;obtain⟨its,rv,p,hz⟩:=I.tuple hq;obtain⟨f0,f1,f2,f3,f4,f5⟩:=hf it v6;have hl:=rv.length;exact wpAny_pyNext_tuple_end (I.ok.hd hc) st (show s.heap.IsTuple a its.toArray from p) (by simp;omega) λh' eb=>⟨rfl,I.turned (t':=s.toks) (λb o hb e=>eb b o hb e) f0 f1 f3 f4 f5⟩
 self:=λ_ _ _ _ _ st h=>wpAny_pyIter_tupleiter st h
theorem Aj{P:Program}{w:World}{K:W.Frag}{tg:Expr}(it:Addr)(lo:Int)(n:Nat):GC P w K tg (Qh lo n) [it] it (λi h=>IsRangeIter h it (lo+(i:Nat)*1) ((n:Int)-(i:Nat)) 1) where
 mem:=by simp
 obj:=λi h st b hb=>by
  have e:b=it:=by simpa using hb
  subst e
  exact⟨_,st,λv z=>by
   have z':Data.fields _=Data.cell v:=z
   cases z'⟩
 keep:=λi h h' st k=>k it v6 _ st
 item:=by intro X hP hw hK hc i gV s σ H E I hf st hg;subst hP hw hK;obtain⟨f0,f1,f2,f3,f4,f5⟩:=hf it v6;have W:=Walks.range (prog:=X.prog) (w:=X.w) (I.ok.hd hc) it lo 1 n;refine W.item i s _ _ hg st λv h' tk hv st' kk=>?_;obtain⟨t,rfl⟩:=hv;have I1:P4 X gV σ H {s with heap:=h',toks:=tk}:=I.turned (λb o hb e=>kk b o (by simpa using hb) e) f0 f1 f3 f4 f5;refine⟨_,rfl,Ef (s:={s with heap:=h',toks:=tk}) (n:="range_iterator") st' rfl rfl x_ ⟨.int (lo+i),H,I1,⟨t,?_⟩,⟨rfl,rfl⟩,st',λb hb=>(hf b hb).1⟩⟩;rw[Int.mul_one]
 done:=by intro X hP hw hK hc i gV s σ H E I hf st hg;subst hP hw hK;obtain⟨f0,f1,f2,f3,f4,f5⟩:=hf it v6;exact wpAny_pyNext_range_end (I.ok.hd hc) st (by have:n<=i:=hg;omega) λh' eb=>⟨rfl,I.turned (t':=s.toks) (λb o hb e=>eb b o hb e) f0 f1 f3 f4 f5⟩
 self:=λ_ _ _ _ _ st h=>wpAny_pyIter_rangeiter st h
section
variable{X:Cx}{tg:Expr}
theorem yL{gV:List (Addr×Obj)}{σ:St}{H:Hp}{s:Shared}{R:It->Hp->Prop}{E:Value->Shared->Prop}{lo hi:Int}{t u v:Tok}{tk:Nat}(I:P4 X gV σ H s)(h1 : -(2^62)<=lo)(h2:lo<2^62)(h3 : -(2^62)<=hi)(h4:hi<2^62)
  (q:R (Qh lo (hi-lo).toNat) H):wpAny (model X.prog X.w) X.A (pyIter (.ref s.heap.objs.size)) (Qe X gV σ tg R) E {s with heap:=s.heap.push {cls:=.type "range",data:=.fields #[.int lo t,.int hi u,.int 1 v] },toks:=tk}:=by
 refine wpAny_pyIter_range (IsRange.new ..) (small_one h1 h2 h3 h4) ?_;have I1:P4 X gV σ H {s with heap:=s.heap.push {cls:=.type "range",data:=.fields #[.int lo t,.int hi u,.int 1 v] },toks:=tk}:=I.kept λb o e=>Ug _ e
 refine⟨(s.heap.push {cls:=.type "range",data:=.fields #[.int lo t,.int hi u,.int 1 v] }).objs.size,[(s.heap.push {cls:=.type "range",data:=.fields #[.int lo t,.int hi u,.int 1 v] }).objs.size],_,_,H,rfl,
  I1.kept (t':=tk) λb o e=>Ug _ e,Aj _ lo (hi-lo).toNat,?_,λb hb=>?_,q⟩
 .
  have e1:lo+((0:Nat):Int)*1=lo:=by simp
  have e2:(((hi-lo).toNat:Nat):Int)-((0:Nat):Int)=Builtin.Range.rangeSize lo hi 1:=by rw[rangeSize_one];split<;>omega
  show IsRangeIter _ _ (lo+((0:Nat):Int)*1) ((((hi-lo).toNat:Nat):Int)-((0:Nat):Int)) 1;rw[e1,e2];exact UH _ rfl
 .
  have e:b=(s.heap.push {cls:=.type "range",data:=.fields #[.int lo t,.int hi u,.int 1 v] }).objs.size:=by simpa using hb
  subst e;exact I1.fpOk (Ul _) (I1.hok.fresh (Ul _))
noncomputable def Ng(ta:TA):TI:=λσ H R=>ta σ H λvs H1=>∃j:Int,vs=[.int j]/\-(2^62)<=j/\j<2^62/\R (Qh 0 j.toNat) H1
noncomputable def Nh(ta:TA):TI:=λσ H R=>ta σ H λvs H1=>∃i j:Int,vs=[.int i,.int j]/\(-(2^62)<=i/\i<2^62/\-(2^62)<=j/\j<2^62)/\R (Qh i (j-i).toNat) H1
theorem Bp{a:Expr}{ta:TA}{p pos:Pos} (hg:Gl X "range") (hm:X.mg "range"=none) (ha:PA X [a] ta) (hs:starEach [a] X.env=[(false,eval a X.env)]:=by rfl):PI X tg (.Call (.Name "range" p) [a] [] pos) (Ng ta):=by
 intro gV s σ H R I h;refine Call_ (mV I hg hm boot_range (VV (P8 (ha pos gV s σ H _ I h) λus s1 ⟨vs,H1,I1,r1,q1⟩=>?_) hs rfl));obtain⟨j,e,q1,q2,q⟩:=q1;subst e
 cases r1 with
 | cons r rr =>
  cases rr;obtain⟨t,rfl⟩:=r;exact call_range_1 (yL I1 xL xL q1 q2 (by simpa using q))
theorem Bq{a b:Expr}{ta:TA}{p pos:Pos} (hg:Gl X "range") (hm:X.mg "range"=none) (ha:PA X [a,b] ta) (hs:starEach [a,b] X.env=[(false,eval a X.env),(false,eval b X.env)]:=by rfl) (hs2:starEach [b] X.env=[(false,eval b X.env)]:=by rfl) :
  PI X tg (.Call (.Name "range" p) [a,b] [] pos) (Nh ta):=by
 intro gV s σ H R I h;refine Call_ (mV I hg hm boot_range (VV (P8 (ha pos gV s σ H _ I h) λus s1 ⟨vs,H1,I1,r1,q1⟩=>?_) (by rw[hs,hs2]) (by rw[hs2];rfl)));obtain⟨i,j,e,⟨q1,q2,q3,q4⟩,q⟩:=q1;subst e
 cases r1 with
 | cons r rr =>
  cases rr with
  | cons r' rr =>
   cases rr;obtain⟨t,rfl⟩:=r;obtain⟨t',rfl⟩:=r';exact call_range_2 (yL I1 q1 q2 q3 q4 q)
noncomputable def vz(fp:List Addr)(h:Heap):List (Addr×Obj):=fp.filterMap λb=>(h.get? b).map λo=>(b,o)
theorem kO{fp:List Addr}{h:Heap}{b:Addr}{o:Obj}(hb:b∈fp)(e:h.get? b=some o):(b,o)∈vz fp h:=List.mem_filterMap.mpr ⟨b,hb,by rw[e];rfl⟩
theorem Br{fp:List Addr}{h:Heap}{p:Addr×Obj}(hp:p∈vz fp h):p.1∈fp/\h.get? p.1=some p.2:=by
 obtain⟨b,hb,e⟩:=List.mem_filterMap.mp hp
 cases q:h.get? b with
 |none=>rw[q]at e;cases e
 | some o =>
  rw[q]at e;have e':(b,o)=p:=UM e;subst e';exact⟨hb,q⟩
theorem P4.pinned{gV:List (Addr×Obj)}{σ:St}{H:Hp}{s:Shared}{fp:List Addr}(I:P4 X gV σ H s)(hf:∀b∈fp,Bm X gV H b)(ho:∀b∈fp,∃o,s.heap.get? b=some o/\∀v,o.data≠.cell v):P4 X (gV++vz fp s.heap) σ H s :=
 I.pins_of λp hp=>(Ur.mp hp).elim (λz=>I.pin p (UD _ z)) λz=>by obtain⟨hb,e⟩:=Br z;obtain⟨f0,f1,f2,_⟩:=hf p.1 hb;obtain⟨o,e',d⟩:=ho p.1 hb;rw[e]at e';cases e';exact⟨e,f0,f1,f2,d⟩
theorem P4.unpinned{gV pl:List (Addr×Obj)}{σ:St}{H:Hp}{s:Shared}(I:P4 X (gV++pl) σ H s):P4 X gV σ H s:=I.pins_of λp hp=>I.pin p (UD _ (Uz _ hp))
end
abbrev R2:=V->V->Hp->VK->Prop
def Qi(X:Cx)(f:Value->Value->Sem Value)(r:R2):Prop :=
 ∀(gV:List (Addr×Obj))(s:Shared)(σ:St)(H:Hp)(x y:V)(v u:Value)(Q:VK),P4 X gV σ H s->bS x v->bS y u->r x y H Q ->
  wpAny (model X.prog X.w) X.A (f v u) (EP X gV σ Q) X.xe s
def Qj(X:Cx)(f:Value->Sem Value)(r:V->Hp->VK->Prop):Prop :=
 ∀(gV:List (Addr×Obj))(s:Shared)(σ:St)(H:Hp)(x:V)(v:Value)(Q:VK),P4 X gV σ H s->bS x v->r x H Q ->
  wpAny (model X.prog X.w) X.A (f v) (EP X gV σ Q) X.xe s
def iH(X:Cx)(f:Value)(r:List V->Hp->VK->Prop):Prop :=
 ∀(gV:List (Addr×Obj))(s:Shared)(σ:St)(H:Hp)(xs:List V)(us:List Value)(Q:VK),P4 X gV σ H s->bT xs us->r xs H Q ->
  wpAny (model X.prog X.w) X.A (call f us) (EP X gV σ Q) X.xe s
def Qk(r:R2)(ta tb:TE):TE:=λσ H Q=>ta σ H λx H1=>tb σ H1 λy H2=>r x y H2 Q
def rI(C:Int->Int->Prop)(g:Int->Int->V):R2:=λx y H Q=>∃i j,x=.int i/\y=.int j/\C i j/\Q (g i j) H
def Ql(g:Int->Int->V):R2:=λx y H Q=>∃i j,x=.int i/\y=.int j/\Q (g i j) H
def rU(g:Int->V):V->Hp->VK->Prop:=λx H Q=>∃i,x=.int i/\Q (g i) H
section
variable{X:Cx}{a b:Expr}{ta tb:TE}
theorem O0(ha:PE X a ta)(hb:PE X b tb){gV:List (Addr×Obj)}{s:Shared}{σ:St}{H:Hp}{R:V->V->Hp->Prop}(I:P4 X gV σ H s)
  (h:ta σ H λx H1=>tb σ H1 λy H2=>R x y H2) {Q:Value->Shared->Prop} {f:Value->Value->Sem Value}
  (hf:∀v u s2 x y H2,P4 X gV σ H2 s2->bS x v->bS y u->R x y H2->wpAny (model X.prog X.w) X.A (f v u) Q X.xe s2) :
  wpAny (model X.prog X.w) X.A (eval a X.env) (λv s₁=>wpAny (model X.prog X.w) X.A (eval b X.env) (λu s₂=>wpAny (model X.prog X.w) X.A (f v u) Q X.xe s₂) X.xe s₁) X.xe s:=by
 refine P8 (ha gV s σ H _ I h) λv s1 ⟨x,H1,I1,r1,q1⟩=>?_;refine P8 (hb gV s1 σ H1 _ I1 q1) λu s2 ⟨y,H2,I2,r2,q2⟩=>?_;exact hf v u s2 x y H2 I2 r1 r2 q2
theorem Qm{f:Value->Value->Sem Value}{C:Int->Int->Prop}{g:Int->Int->Int}
  (rule:∀(i j:Int)(t u:Tok)(s:Shared)(Q:Value->Shared->Prop)(E:Value->Shared->Prop),C i j->Q (.int (g i j) s.toks) {s with toks:=s.toks+1}->wpAny (model X.prog X.w) X.A (f (.int i t) (.int j u)) Q E s) :
  Qi X f (rI C λi j=>.int (g i j)):=by
 intro gV s σ H x y v u Q I rx ry h;obtain⟨i,j,rfl,rfl,hc,q⟩:=h;obtain⟨t,rfl⟩:=rx;obtain⟨t',rfl⟩:=ry;exact rule i j t t' s _ _ hc ⟨.int (g i j),H,I.tok _,⟨_,rfl⟩,q⟩
theorem Os{f:Value->Value->Sem Value}{g:Int->Int->Int}
  (rule:∀(i j:Int)(t u:Tok)(s:Shared)(Q:Value->Shared->Prop)(E:Value->Shared->Prop),Q (.int (g i j) s.toks) {s with toks:=s.toks+1}->wpAny (model X.prog X.w) X.A (f (.int i t) (.int j u)) Q E s) :
  Qi X f (Ql λi j=>.int (g i j)):=by
 intro gV s σ H x y v u Q I rx ry h;obtain⟨i,j,rfl,rfl,q⟩:=h;obtain⟨t,rfl⟩:=rx;obtain⟨t',rfl⟩:=ry;exact rule i j t t' s _ _ ⟨.int (g i j),H,I.tok _,⟨_,rfl⟩,q⟩
theorem MX{f:Value->Value->Sem Value}{g:Int->Int->Bool}
  (rule:∀(i j:Int)(t u:Tok)(s:Shared)(Q:Value->Shared->Prop)(E:Value->Shared->Prop),Q (.bool (g i j)) s->wpAny (model X.prog X.w) X.A (f (.int i t) (.int j u)) Q E s) :
  Qi X f (Ql λi j=>.bl (g i j)):=by
 intro gV s σ H x y v u Q I rx ry h;obtain⟨i,j,rfl,rfl,q⟩:=h;obtain⟨t,rfl⟩:=rx;obtain⟨t',rfl⟩:=ry;exact rule i j t t' s _ _ ⟨.bl (g i j),H,I,rfl,q⟩
def O1(i j:Int):Prop:=0<=j/\j<=1000000/\i.natAbs<2^64
def Ot(i j:Int):Prop:=(-(2^64)<i/\i<2^64)∨(-(2^64)<j/\j<2^64)
theorem Ot.ok{i j:Int}(h:Ot i j):IntMulOk i j:=by
 rcases h with⟨h1,h2⟩|⟨h1,h2⟩
 . exact .of_left (intBits_le_64 h1 h2)
 . exact .of_right (intBits_le_64 h1 h2)
theorem KG:Qi X (binaryOp .Add) (Ql λi j=>.int (i+j)):=Os λ_ _ _ _ _ _ _ q=>add_int q
theorem KH:Qi X (binaryOp .Sub) (Ql λi j=>.int (i-j)):=Os λ_ _ _ _ _ _ _ q=>sub_int q
theorem Hl:Qi X (binaryOp .Mod) (rI (λ_ j=>j≠0) λi j=>.int (i.fmod j)):=Qm λ_ _ _ _ _ _ _ hc q=>mod_int' hc q
theorem KI:Qi X (binaryOp .Pow) (rI O1 λi j=>.int (i^j.toNat)):=Qm λ_ _ _ _ _ _ _ hc q=>pow_int_small hc.1 hc.2.1 hc.2.2 q
theorem Qn{f:Value->Sem Value}{g:Int->Int}
  (rule:∀(i:Int)(t:Tok)(s:Shared)(Q:Value->Shared->Prop)(E:Value->Shared->Prop),Q (.int (g i) s.toks) {s with toks:=s.toks+1}->wpAny (model X.prog X.w) X.A (f (.int i t)) Q E s) :
  Qj X f (rU λi=>.int (g i)):=by
 intro gV s σ H x v Q I rx h;obtain⟨i,rfl,q⟩:=h;obtain⟨t,rfl⟩:=rx;exact rule i t s _ _ ⟨.int (g i),H,I.tok _,⟨_,rfl⟩,q⟩
theorem KJ:Qj X (unaryOp .USub) (rU λi=>.int (-i)):=Qn λ_ _ _ _ _ q=>neg_int q
end
noncomputable def O2:V->V->Bool
 |.non,.non=>true | .non,.int _=>true | .int _,.non=>true | .non,.bl _=>true | .bl _,.non=>true | .non,.str _=>true | .str _,.non=>true
 |.int _,.int _=>true | .bl _,.bl _=>true | .str _,.str _=>true | .byt _,.byt _=>true
 |.int _,.str _=>true | .str _,.int _=>true | .bl _,.str _=>true | .str _,.bl _=>true
 |_,_=>false
def Qo:R2:=λx y H Q=>O2 x y=true/\Q (.bl (decide (x=y))) H
theorem Hm{i j:Int}:decide (V.int i=V.int j)=(i == j):=by rw[Wk];simp
theorem KL{i j:Bool}:decide (V.bl i=V.bl j)=(i == j):=by rw[Wk];simp
theorem Hn{i j:Str}:decide (V.str i=V.str j)=(i == j):=by rw[Wk];simp
theorem Ho{i j:Array UInt8}:decide (V.byt i=V.byt j)=(i.toList == j.toList):=by rw[Wk];cases i;cases j;simp
section
variable{X:Cx}{a b c:Expr}{ta tb tc:TE}{pos:Pos}
theorem eW{gV:List (Addr×Obj)}{σ:St}{H:Hp}{s:Shared}{Q:VK}{k k':Bool}(I:P4 X gV σ H s)(q:Q (.bl k) H)(e:k=k'):EP X gV σ Q (.bool k') s:=by subst e;exact⟨.bl k,H,I,rfl,q⟩
theorem Ni:Qi X (compareOp .Eq) Qo:=by
 intro gV s σ H x y v u Q I rx ry h;obtain⟨hs,q⟩:=h
 cases x with
 | non =>
  cases rx
  cases y with
  |non=>cases ry;exact PySem.EqNone.eq_none_none (eW I q v6)
  |bl j=>cases ry;exact PySem.EqNone.eq_none_bool (eW I q v6)
  |int j=>obtain⟨t',rfl⟩:=ry;exact PySem.EqNone.eq_none_int (eW I q v6)
  |str j=>obtain⟨t',rfl⟩:=ry;exact PySem.EqNone.eq_none_str (eW I q v6)
  |_=>exact absurd (show false=true from hs) UL
 | bl i =>
  cases rx
  cases y with
  |non=>cases ry;exact PySem.EqNone.eq_bool_none (eW I q v6)
  |bl j=>cases ry;exact eq_bool (eW I q KL)
  |str j=>obtain⟨t',rfl⟩:=ry;exact PySem.EqMixed.eq_bool_str (eW I q v6)
  |_=>exact absurd (show false=true from hs) UL
 | int i =>
  obtain⟨t,rfl⟩:=rx
  cases y with
  |non=>cases ry;exact PySem.EqNone.eq_int_none (eW I q v6)
  |int j=>obtain⟨t',rfl⟩:=ry;exact eq_int (eW I q Hm)
  |str j=>obtain⟨t',rfl⟩:=ry;exact PySem.EqMixed.eq_int_str (eW I q v6)
  |_=>exact absurd (show false=true from hs) UL
 | str i =>
  obtain⟨t,rfl⟩:=rx
  cases y with
  |non=>cases ry;exact PySem.EqNone.eq_str_none (eW I q v6)
  |bl j=>cases ry;exact PySem.EqMixed.eq_str_bool (eW I q v6)
  |int j=>obtain⟨t',rfl⟩:=ry;exact PySem.EqMixed.eq_str_int (eW I q v6)
  |str j=>obtain⟨t',rfl⟩:=ry;exact eq_str (eW I q Hn)
  |_=>exact absurd (show false=true from hs) UL
 | byt i =>
  obtain⟨t,rfl⟩:=rx
  cases y with
  |byt j=>obtain⟨t',rfl⟩:=ry;exact W.eq_bytes (eW I q Ho)
  |_=>exact absurd (show false=true from hs) UL
 |_=>cases y<;>exact absurd (show false=true from hs) UL
theorem KM:Qi X (compareOp .Lt) (Ql λi j=>.bl (decide (i<j))):=MX λ_ _ _ _ _ _ _ q=>lt_int q
theorem KN:Qi X (compareOp .LtE) (Ql λi j=>.bl (decide (i<=j))):=MX λ_ _ _ _ _ _ _ q=>le_int q
theorem Nj:Qi X (compareOp .Gt) (Ql λi j=>.bl (decide (j<i))):=MX λ_ _ _ _ _ _ _ q=>gt_int q
theorem Nk:Qi X (compareOp .GtE) (Ql λi j=>.bl (decide (j<=i))):=MX λ_ _ _ _ _ _ _ q=>ge_int q
theorem KO:Qi X (compareOp .Is) (λx y H Q=>y=.non/\Q (.bl (decide (x=.non))) H):=by
 intro gV s σ H x y v u Q I rx ry h;obtain⟨rfl,q⟩:=h;cases ry;refine is_none_gen (eW I q ?_)
 cases x<;>first
  |(cases rx;rfl)
  |(obtain⟨t,rfl⟩:=rx;rfl)
theorem aS(b:Expr){op:CmpOp}(h:op≠.In:=by decide)(h2:op≠.NotIn:=by decide):behindInMarks op b=false:=by
 have e1:(op == CmpOp.In)=false:=by cases op<;>first|rfl|exact absurd rfl h
 have e2:(op == CmpOp.NotIn)=false:=by cases op<;>first|rfl|exact absurd rfl h2
 cases b<;>simp[behindInMarks,e1,e2]
noncomputable def KP(t:TE):TT:=λσ H Q=>t σ H λx H'=>∃k,x=.bl k/\Q k H'
theorem Nl{op:CmpOp}{r:R2}(ho:Qi X (compareOp op) r)(ha:PE X a ta)(hb:PE X b tb)(hm:behindInMarks op b=false):PT X (.Compare a [op] [b] pos) (KP (Qk r ta tb)):=by
 intro gV s σ H Q I h
 refine wpAny_isTrue_Compare1 (P8 (ha gV s σ H _ I h) λv s1 ⟨x,H1,I1,r1,q1⟩=>P8 (hb gV s1 σ H1 _ I1 q1) λu s2 ⟨y,H2,I2,r2,q2⟩ =>
  P8 (ho gV s2 σ H2 x y v u _ I2 r1 r2 q2) λc s3 ⟨z,H3,I3,r3,k,e,q3⟩=>?_) hm
 subst e;cases r3;exact UO ⟨H3,I3,q3⟩
def Bs(r r':R2)(ta tb tc:TE):TE:=λσ H Q=>ta σ H λx H1=>tb σ H1 λy H2=>r x y H2 λz H3=>∃k,z=.bl k /\
 (if k=true then tc σ H3 λw' H4=>r' y w' H4 Q else Q (.bl false) H3)
theorem Eg{op op':CmpOp}{r r':R2}(ho:Qi X (compareOp op) r)(ho':Qi X (compareOp op') r')(ha:PE X a ta)(hb:PE X b tb)(hc:PE X c tc)
  (hm:lastMarks [op,op'] [b,c]=false:=by with_unfolding_all rfl):PE X (.Compare a [op,op'] [b,c] pos) (Bs r r' ta tb tc):=by
 intro gV s σ H Q I h
 refine Compare_chain (P8 (ha gV s σ H _ I h) λv s1 ⟨x,H1,I1,r1,q1⟩=>chain_link (P8 (hb gV s1 σ H1 _ I1 q1) λu s2 ⟨y,H2,I2,r2,q2⟩ =>
  P8 (ho gV s2 σ H2 x y v u _ I2 r1 r2 q2) λd s3 ⟨z,H3,I3,r3,k,e,q3⟩=>?_)) hm
 subst e;cases r3;refine UO ?_
 cases k with
 |false=>exact ite_ff ⟨.bl false,H3,I3,rfl,q3⟩
 |true=>exact ite_tt (chain_last (P8 (hc gV s3 σ H3 _ I3 q3) λw' s4 ⟨z',H4,I4,r4,q4⟩=>ho' gV s4 σ H4 y z' u w' Q I4 r2 r4 q4))
theorem Eh{op op':CmpOp}{r r':R2}(ho:Qi X (compareOp op) r)(ho':Qi X (compareOp op') r')(ha:PE X a ta)(hb:PE X b tb)(hc:PE X c tc)
  (hm:lastMarks [op,op'] [b,c]=false:=by with_unfolding_all rfl):PT X (.Compare a [op,op'] [b,c] pos) (KP (Bs r r' ta tb tc)):=by
 intro gV s σ H Q I h
 refine isTrue_chain (P8 (ha gV s σ H _ I h) λv s1 ⟨x,H1,I1,r1,q1⟩=>test_link (P8 (hb gV s1 σ H1 _ I1 q1) λu s2 ⟨y,H2,I2,r2,q2⟩ =>
  P8 (ho gV s2 σ H2 x y v u _ I2 r1 r2 q2) λd s3 ⟨z,H3,I3,r3,k,e,q3⟩=>?_)) hm
 subst e;cases r3;refine UO ?_
 cases k with
 | false =>
  obtain⟨k',e',q'⟩:=q3;cases e';exact ite_ff ⟨H3,I3,q'⟩
 | true =>
  refine ite_tt (test_last (P8 (hc gV s3 σ H3 _ I3 q3) λw' s4 ⟨z',H4,I4,r4,q4⟩=>P8 (ho' gV s4 σ H4 y z' u w' _ I4 r2 r4 q4) λd' s5 ⟨z2,H5,I5,r5,k2,e2,q5⟩=>?_));subst e2;cases r5;exact UO ⟨H5,I5,q5⟩
theorem sU:(sizeLine:Nat)<2^63:=by rw[sizeLine_eq];decide
theorem Ak:Qi X (binaryOp .Add) (λx y H Q=>∃i j,x=.str i/\y=.str j/\i.length+j.length<=sizeLine/\Q (.str (i++j)) H):=by intro gV s σ H x y v u Q I rx ry h;obtain⟨i,j,rfl,rfl,hz,q⟩:=h;obtain⟨t,rfl⟩:=rx;obtain⟨t',rfl⟩:=ry;exact add_str (λt' tk=>⟨.str (i++j),H,I.tok _,⟨_,rfl⟩,q⟩) hz
theorem ub{x:V}{us:List Value}(r:bT [x] us):∃u,us=[u]/\bS x u:=by
 cases r with
 |cons r1 r2=>cases r2;exact⟨_,rfl,r1⟩
theorem Al{x y:V}{us:List Value}(r:bT [x,y] us):∃u w',us=[u,w']/\bS x u/\bS y w':=by
 cases r with
 | cons r1 r2 =>
  cases r2 with
  |cons r3 r4=>cases r4;exact⟨_,_,rfl,r1,r3⟩
theorem Ei:iH X (.builtin "abs") (λxs H Q=>∃ i,xs=[.int i]/\Q (.int (if i < 0 then -i else i)) H):=by
 intro gV s σ H xs us Q I r h;obtain⟨i,rfl,q⟩:=h;obtain⟨u,rfl,t,rfl⟩:=ub r
 exact call_abs_int λu tk=>⟨.int (if i<0 then -i else i),H,I.tok _,⟨_,rfl⟩,q⟩
theorem Bt(hc:X.calm=true):iH X (.builtin "max") (λxs H Q=>∃ i j,xs=[.int i,.int j]/\Q (.int (if j > i then j else i)) H):=by
 intro gV s σ H xs us Q I r h;obtain⟨i,j,rfl,q⟩:=h;obtain⟨u,w',rfl,⟨t,rfl⟩,⟨t',rfl⟩⟩:=Al r;refine max_two_ints (I.ok.hd hc) λh' tk k=>⟨_,H,I.kept k,?_,q⟩;by_cases hj:j > i
 . rw[if_pos hj,if_pos hj];exact⟨_,rfl⟩
 . rw[if_neg hj,if_neg hj];exact⟨_,rfl⟩
theorem Bu(hc:X.calm=true):iH X (.builtin "min") (λxs H Q=>∃ i j,xs=[.int i,.int j]/\Q (.int (if j < i then j else i)) H):=by
 intro gV s σ H xs us Q I r h;obtain⟨i,j,rfl,q⟩:=h;obtain⟨u,w',rfl,⟨t,rfl⟩,⟨t',rfl⟩⟩:=Al r;refine min_two_ints (I.ok.hd hc) λh' tk k=>⟨_,H,I.kept k,?_,q⟩;by_cases hj:j<i
 . rw[if_pos hj,if_pos hj];exact⟨_,rfl⟩
 . rw[if_neg hj,if_neg hj];exact⟨_,rfl⟩
theorem Bv:iH X (.type "int") (λxs H Q=>(∃ i,xs=[.int i]/\Q (.int i) H)∨∃ k,xs=[.bl k]/\Q (.int (if k then 1 else 0)) H):=by
 intro gV s σ H xs us Q I r h;rcases h with⟨i,rfl,q⟩|⟨k,rfl,q⟩
 . obtain⟨u,rfl,t,rfl⟩:=ub r;exact call_int_int ⟨.int i,H,I,⟨_,rfl⟩,q⟩
 .
  obtain⟨u,rfl,r1⟩:=ub r;cases r1
  exact call_int_bool ⟨.int (if k then 1 else 0),H,I.tok _,⟨_,rfl⟩,q⟩
end
theorem Bw{h:Heap}{dx:Addr}{mA:Str->Option Value}(n:h.Ns1 dx mA):∃od,h.get? dx=some od/\∀name,W.lookIn name od=some (mA name):=by
 obtain⟨o,es,ep,ho,hd,hk,_,hm⟩:=n;refine⟨o,ho,λname=>?_⟩;have e:=hm name;unfold nsFind findBy at e;rw[<- Array.find?_toList]at e;unfold W.lookIn;rw[hd];dsimp only;split
 . rename_i y q;rw[q]at e;exact Vy some e
 .
  rename_i q;rw[q]at e;have a:es.toList.any (·.refKey)=false:=by rw[List.any_eq_false];intro y hy;obtain⟨z,t,hkey⟩:=hk y (Array.mem_toList_iff.mp hy);simp[DictEntry.refKey,hkey]
  have a':¬es.toList.any (·.refKey)=true:=by rw[a];exact UL
  rw[if_neg a'];exact Vy some e
theorem xq.some_of{v:V}{o:Option Value}(r:xq (some v) o):∃u,o=some u/\bS v u:=by
 cases o with
 |none=>exact(show False from r).elim
 |some u=>exact⟨u,rfl,r⟩
section
variable{s:Shared}{f:Str}{A:Around}{E:Value->Shared->Prop}
theorem Hq{prog:Program}{w:World}{env:Env}{e:Expr}{f:Str}{pos:Pos}{s:Shared}{Q:Value->Shared->Prop}(hb:attributeBase e f env (eval e env)=eval e env)
  (h:wpAny (model prog w) A (eval e env) (λo s₁=>wpAny (model prog w) A (getAttr o f true) Q E s₁) E s):wpAny (model prog w) A (eval (.Attribute e f pos) env) Q E s :=
 Attribute_any_ h (by rw[arm_eval_Attribute,hb])
end
structure g6 (k:Nat) (A:Around):Prop where
 hd:A.handled=none
 dp:A.depth+3*k+5<recursionLimit
 un:A.units+16*k+200<cLine
 gd:A.guards=some []
theorem g6.mono{j k:Nat}{A:Around}(r:g6 k A)(h:j<=k):g6 j A:=⟨r.hd,by have:=r.dp;omega,by have:=r.un;omega,r.gd⟩
theorem g6.deeper{k:Nat}{A:Around}(r:g6 (k+1) A)(env:Env):g6 k (A.deeper env) :=
 ⟨r.hd,by have:=r.dp;show A.depth+1+3*k+5<_;omega,by have:=r.un;show A.units+3+16*k+200<_;omega,r.gd⟩
theorem Am{A:Around}{C:Addr}{us:List Value}{kw:List (Str×Value)}:(A.under (.builtin "type.__call__" ⟨.ref C::us,kw⟩)).depth=A.depth+1:=by
 first|rfl|simp[Around.under,Code.weight,Code.isCreation,Code.isGuard,Code.isCaller,Code.frames,Code.isFrame,guardIds]
theorem An{A:Around}{C:Addr}{us:List Value}{kw:List (Str×Value)}:(A.under (.builtin "type.__call__" ⟨.ref C::us,kw⟩)).units=A.units+1:=by
 first|rfl|simp[Around.under,Code.cUnits,Code.frames,Code.isFrame]
theorem g6.make{k:Nat}{A:Around}(r:g6 (k+1) A)(C:Addr)(us:List Value)(kw:List (Str×Value)):g6 k (A.under (.builtin "type.__call__" ⟨.ref C::us,kw⟩)) :=
 ⟨r.hd,by have:=r.dp;rw[Am];omega,by have:=r.un;rw[An];omega,by rw[<- r.gd];first|rfl|simp[Around.under,Code.guards,Code.isGuard,pushGuards,guardIds]⟩
theorem g6.depth{k:Nat}{A:Around}(r:g6 k A):A.depth<recursionLimit:=by have:=r.dp;omega
theorem g6.units{k:Nat}{A:Around}(r:g6 k A):A.units+64<cLine:=by have:=r.un;omega
noncomputable def MY:TA:=λ_ H Q=>Q [] H
noncomputable def xx(ta:TE)(tr:TA):TA:=λσ H Q=>ta σ H λx H1=>tr σ H1 λxs H2=>Q (x::xs) H2
section
variable{X:Cx}{e:Expr}{es:List Expr}{te:TE}{t:TA}{pos:Pos}
theorem eX:PA X [] MY:=λ_ _ _ _ H Q I h=>Calls.spliced_nil ⟨[],H,I,.nil,h⟩
theorem bE(ha:PE X e te)(hr:PA X es t)(hs:starEach (e::es) X.env=(false,eval e X.env)::starEach es X.env:=by rfl):PA X (e::es) (xx te t):=by intro pos gV s σ H Q I h;rw[hs];show wpAny _ _ (spliced ((false,eval e X.env)::backTo pos (starEach es X.env))) _ _ s;refine V3 (P8 (ha gV s σ H _ I h) λu s1 ⟨x,H1,I1,r1,q1⟩=>?_);exact P8 (hr pos gV s1 σ H1 _ I1 q1) λus s2 ⟨xs,H2,I2,r2,q2⟩=>⟨x::xs,H2,I2,.cons r1 r2,q2⟩
def O3(t:TA):TE:=λσ H Q=>t σ H λxs H1=>xs.length<=sizeLine/\∀p,H1 p=none->Q (.ref p) (PR H1 p (.tup xs))
theorem KQ {x1} (h:PA X es t):PE X (.Tuple es x1 pos) (O3 t):=by intro gV s σ H Q I hq;refine wpAny_Tuple_spliced (P8 (h pos gV s σ H _ I hq) λus s1 ⟨xs,H1,I1,r,z,q⟩=>⟨by rw[<- r.length];exact z,?_⟩);have hf:H1 s1.heap.objs.size=none:=I1.hok.fresh (Ul _);refine⟨.ref s1.heap.objs.size,PR H1 s1.heap.objs.size (.tup xs),I1.laid (t':=s1.toks) (λb u e=>Ug _ e) (Ul _) ?_,rfl,q _ hf⟩;exact⟨z,us,r,⟨_,UH _ rfl,rfl,_,rfl⟩⟩
end
noncomputable abbrev Sp:=List V->Hp->VK->XK->Prop
noncomputable abbrev Qp:=List Env->Hp->Shared->XK->Value->Shared->Prop
structure Bx (P:Program) (w:World) (K:W.Frag) (mg:Str->Option Value) (base:Heap) (A:Around) (outer:List Env) (s:Shared) (H:Hp):Prop where
 frames:A.frames=some outer
 mod:Mod K mg base
 bs:∀b o,base.get? b=some o->s.heap.get? b=some o/\H b=none
 bsz:base.objs.size<=s.heap.objs.size
 funs:s.heap.FunFrames base outer
 frf:∀b∈PZ outer,H b=none
 hok:PU P w H s.heap
 bare:AllBare s.gens
 tbs:PY K H
inductive CE (outer:List Env) (P:Program) (w:World) (H:Hp) (s:Shared) (Q:VK) (u:Value) (s':Shared):Prop
 |mk (v:V) (H':Hp) (os:s'.os=s.os) (g:AllBare s'.gens) (un:Un (PZ outer) [] H H' s.heap s'.heap) (ok:PU P w H' s'.heap) (r:bS v u) (q:Q v H')
def CR(CX:Qp)(outer:List Env)(P:Program)(w:World)(H:Hp)(s:Shared)(Q:VK)(E:XK)(r:Result)(s':Shared):Prop :=
 match r with
 |.ok (.ret u)=>CE outer P w H s Q u s'
 |.ok _=>False
 |.error e=>CX outer H s E e s'
structure FnOk (P:Program) (w:World) (K:W.Frag) (mg:Str->Option Value) (base:Heap) (CX:Qp) (k:Nat) (f:Addr) (fd:FuncData) (ps:List Str) (sp:Sp):Prop where
 len:∀vs H Q E,sp vs H Q E->vs.length=ps.length
 run:∀(A:Around)(outer:List Env)(s:Shared)(H:Hp)(args:Args)(us:List Value)(vs:List V)(Q:VK)(E:XK),g6 k A->Bx P w K mg base A outer s H->BindsTo s fd args (ps.zip us)->bT vs us->sp vs H Q E ->
  codeAny (model P w) A (.call (.ref f) args) (CR CX outer P w H s Q E) s
theorem FnOk.mono{P:Program}{w:World}{K:W.Frag}{mg:Str->Option Value}{base:Heap}{CX:Qp}{j k:Nat}{f:Addr}{fd:FuncData}{ps:List Str}{sp:Sp}(F:FnOk P w K mg base CX j f fd ps sp)(h:j<=k) :
  FnOk P w K mg base CX k f fd ps sp:=⟨F.len,λA outer s H args us vs Q E hr=>F.run A outer s H args us vs Q E (hr.mono h)⟩
theorem Bx.make{P:Program}{w:World}{K:W.Frag}{mg:Str->Option Value}{base:Heap}{A:Around}{outer:List Env}{s:Shared}{H:Hp}(e:Bx P w K mg base A outer s H)(C:Addr)(us:List Value)(kw:List (Str×Value)) :
  Bx P w K mg base (A.under (.builtin "type.__call__" ⟨.ref C::us,kw⟩)) outer s H:=⟨by first | exact e.frames | (simpa[Around.under,Code.envs,Code.isFrame,pushEnvs]using e.frames),e.mod,e.bs,e.bsz,e.funs,e.frf,e.hok,e.bare,e.tbs⟩
section
variable{X:Cx}{gV:List (Addr×Obj)}{σ:St}{H:Hp}{s s':Shared}
theorem P4.env0(I:P4 X gV σ H s):Bx X.prog X.w X.K X.mg X.base X.A X.stack s H :=
 ⟨I.ok.frames,I.ok.mod,I.bs,Uv I.ok.bsz I.sz,I.stack,I.stkFree,I.hok,I.bare,I.tbs⟩
theorem P4.after{Q:VK}{u:Value}(I:P4 X gV σ H s)(h:CE X.stack X.prog X.w H s Q u s'):EP X gV σ Q u s':=by obtain⟨v,H',os,bare,un,hok,r,q⟩:=h;obtain⟨hh,g,d,t,os'⟩:=s';obtain rfl:os'=s.os:=os;exact⟨v,H',I.call (h':=hh) (g':=g) (d':=d) (t':=t) (ch:=[]) un hok bare (λb z=>absurd z v6),r,q⟩
end
def mW(K:W.Frag)(fd:FuncData)(ps:List Str)(ds:List Value):Prop :=
 ∀(s:Shared)(us:List Value),K.In s.heap->(us++ds).length=ps.length->BindsTo s fd ⟨us,[]⟩ (ps.zip (us++ds))
theorem mW.all{K:W.Frag}{fd:FuncData}{ps:List Str}(h:∀us:List Value,us.length=ps.length->bindArgs fd ⟨us,[]⟩=pure (ps.zip us)):mW K fd ps []:=λs us _ hl=>by rw[U5]at hl ⊢;exact .of_eq (h us hl)
def yM(CX:Qp)(X:Cx)(E:XK):Prop:=∀(gV:List (Addr×Obj))(σ:St)(H:Hp)(s:Shared)(e:Value)(s':Shared),P4 X gV σ H s->CX X.stack H s E e s'->X.xe e s'
section
variable{X:Cx}{CX:Qp}{k:Nat}{f:Addr}{fd:FuncData}{ps:List Str}{sp:Sp}{dvs:List V}{ds:List Value}{E:XK}{e:Expr}
theorem By{gV:List (Addr×Obj)}{σ:St}{H:Hp}{s:Shared}{Q:VK}{us:List Value}{vs:List V}(F:FnOk X.prog X.w X.K X.mg X.base CX k f fd ps sp)(hr:g6 k X.A)(hb:mW X.K fd ps ds)(hd:bT dvs ds)(hx:yM CX X E)
  (I:P4 X gV σ H s) (r:bT vs us) (h:sp (vs++dvs) H Q E):wpAny (model X.prog X.w) X.A (call (.ref f) us) (EP X gV σ Q) X.xe s:=by
 have r2:bT (vs++dvs) (us++ds):=r.append hd;have hl:(us++ds).length=ps.length:=by rw[<- r2.length];exact F.len _ _ _ _ h
 refine Wa (V8 (F.run X.A X.stack s H ⟨us,[]⟩ (us++ds) (vs++dvs) Q E hr I.env0 (hb s us I.kIn hl) r2 h) λr s' hq=>?_)
 cases r with
 |error e=>exact hx gV σ H s e s' I hq
 | ok fl =>
  cases fl with
  |ret u=>exact I.after hq
  |next=>exact False.elim hq
  |brk=>exact False.elim hq
  |cont=>exact False.elim hq
end
structure aU (N P:List Str) (sc:Scope):Prop where
 kind:sc.kind=.function
 co:sc.isCoroutine=false
 gen:sc.isGenerator=false
 nd:N.Nodup
 pre:N.take P.length=P
 par:∀x∈P,sc.names.lookup x=some .local∨sc.names.lookup x=some .cell
 nofree:∀y∈sc.names,y.2≠.free
theorem vA{kindOf:Str->Option NameKind}{x:Str}:∀{binds:List (Str×Value)}{m:Str->Option Value},(∀v,(x,v)∉binds)->bindL kindOf binds m x=m x
 |[],_,_=>rfl
 | (n,v)::r,m,h=>by
  unfold bindL;rw[vA λw hw=>h w (Ud _ hw)];split
  .
   have:x≠n:=by rintro rfl;exact h v Ui
   simp[this]
  . rfl
theorem vB{kindOf:Str->Option NameKind}{x:Str}:∀{binds:List (Str×Value)}{m:Str->Option Value},(∀v,(x,v)∉binds)->bindC kindOf binds m x=m x
 |[],_,_=>rfl
 | (n,v)::r,m,h=>by
  unfold bindC;rw[vB λw hw=>h w (Ud _ hw)];split
  . rfl
  .
   have:x≠n:=by rintro rfl;exact h v Ui
   simp[this]
theorem vC{kindOf:Str->Option NameKind}{x:Str}{v:Value}:∀{P:List Str}{vs:List Value}{i:Nat}{m:Str->Option Value},P.Nodup->P[i]?=some x->vs[i]?=some v->kindOf x=some .local ->
  bindL kindOf (P.zip vs) m x=some v
 |[],_,_,_,_,h,_,_=>by simp at h
 |_::_,[],_,_,_,_,h,_=>by simp at h
 | p::P,w::vs,0,m,nd,h1,h2,hk=>by simp at h1 h2;subst h1;subst h2;show bindL kindOf ((p,w)::P.zip vs) m p=_;unfold bindL;rw[vA λv hv=>(UN.mp nd).1 (List.of_mem_zip hv).1,if_pos hk];simp
 | p::P,w::vs,i+1,m,nd,h1,h2,hk=>by show bindL kindOf ((p,w)::P.zip vs) m x=_;unfold bindL;exact vC (i:=i) (UN.mp nd).2 (by simpa using h1) (by simpa using h2) hk
theorem vD{kindOf:Str->Option NameKind}{x:Str}{v:Value}:∀{P:List Str}{vs:List Value}{i:Nat}{m:Str->Option Value},P.Nodup->P[i]?=some x->vs[i]?=some v->kindOf x≠some .local ->
  bindC kindOf (P.zip vs) m x=some v
 |[],_,_,_,_,h,_,_=>by simp at h
 |_::_,[],_,_,_,_,h,_=>by simp at h
 | p::P,w::vs,0,m,nd,h1,h2,hk=>by simp at h1 h2;subst h1;subst h2;show bindC kindOf ((p,w)::P.zip vs) m p=_;unfold bindC;rw[vB λv hv=>(UN.mp nd).1 (List.of_mem_zip hv).1,if_neg hk];simp
 | p::P,w::vs,i+1,m,nd,h1,h2,hk=>by show bindC kindOf ((p,w)::P.zip vs) m x=_;unfold bindC;exact vD (i:=i) (UN.mp nd).2 (by simpa using h1) (by simpa using h2) hk
noncomputable def mX(N:List Str)(vs:List V):St:=vs.map some++List.replicate (N.length-vs.length) none
noncomputable def D2(CX:Qp)(P:Program)(w:World)(K:W.Frag)(mg:Str->Option Value)(base:Heap)(N:List Str)(qual:Str)(scope:Scope)(f:Addr)(cd:Value)(A:Around)(outer:List Env)(s:Shared)(H:Hp)(E:XK):Cx where
 prog:=P
 w:=w
 K:=K
 mg:=mg
 base:=base
 A:=A.deeper (envOfC qual scope s.heap.objs.size f cd)
 N:=N
 s₀:=s
 H₀:=H
 env:=envOfC qual scope s.heap.objs.size f cd
 outer:=outer
 stack:=envOfC qual scope s.heap.objs.size f cd::outer
 ex:=[]
 calm:=true
 fn:=λ_=>true
 pn:=[]
 xe:=λe s'=>wpAny (model P w) (A.deeper (envOfC qual scope s.heap.objs.size f cd)) (leaving (envOfC qual scope s.heap.objs.size f cd) e) (λ_ s''=>CX outer H s E e s'') (λe' s''=>CX outer H s E e' s'') s'
theorem yN{sc:Scope}{n:Nat}{x:Str}(h:sc.names.lookup x=some .cell):∃c,(cellsFrom n sc.names []).lookup x=some c:=by have q:=W.cellsFrom_some sc.names n [] (.inl h);exact Option.isSome_iff_exists.mp q
theorem Bz{CX:Qp}{P:Program}{w:World}{K:W.Frag}{mg:Str->Option Value}{base:Heap}{N ps:List Str}{qual:Str}{scope:Scope}{f:Addr}{cd:Value}{A:Around}{outer:List Env}{s s1:Shared}{H:Hp}{E:XK}{us:List Value}{vs:List V}
  (S:aU N ps scope) (hd:A.handled=none) (e0:Bx P w K mg base A outer s H) (hl:vs.length=ps.length) (r:bT vs us)
  (x:InCallC s s.heap.objs.size (bindL (envOfC qual scope s.heap.objs.size f cd).kindOf (ps.zip us) λ_=>none) (cellsFrom (s.heap.objs.size+1) scope.names []) (bindC (envOfC qual scope s.heap.objs.size f cd).kindOf (ps.zip us) λ_=>none) s1) :
  P4 (D2 CX P w K mg base N qual scope f cd A outer s H E) [] (mX N vs) H s1:=by
 have hpl:ps.length<=N.length:=by have:=Vy List.length S.pre;rw[Ut]at this;omega
 obtain⟨h1,tk,rfl,hk⟩:=x.done;have noA:∀b:Addr,b∉(D2 CX P w K mg base N qual scope f cd A outer s H E).ex:=λb z=>absurd (show b∈([]:List Addr)from z) v6
 refine⟨⟨e0.mod,S.kind,rfl,rfl,Ul _,λy z c h1 h2=>?_,λy hy=>?_,λy c _ h=>?_,λ_=>hd,Around.frames_deeper e0.frames,.inr ⟨rfl,rfl⟩,λb z=>absurd z (noA b),e0.bs,e0.bsz,λb _ _=>noA b,λb z=>absurd z (noA b),e0.funs,e0.frf,e0.tbs⟩,
  rfl,e0.bare,Un.kept hk,⟨_,x.toInCall.ns,λi y v h1 h2 h3=>?_⟩,λy c h=>⟨_,x.cell y c h⟩,e0.hok.fresh (Ul _),λy c h=>?_,λp hp=>absurd (show p∈([]:List (Addr×Obj))from hp) v6,e0.hok.kept hk,?_⟩
 . exact name_of_addr x.apart (Vv h1) (Vv h2)
 .
  have hy:scope.names.lookup y=some .cell∨scope.names.lookup y=some .free:=hy;rcases hy with hy|hy
  . exact yN hy
  . exact absurd rfl (S.nofree _ (Vv hy))
 . exact Nat.le_of_lt (x.above y c (Vv h))
 .
  have hi:i<vs.length:=by
   unfold mX at h2;by_cases hi:i<vs.length
   . exact hi
   . rw[UG (by simpa using hi)]at h2;rw[List.getElem?_replicate]at h2;split at h2<;>cases h2
  have ha:vs[i]?=some v:=by
   unfold mX at h2;rw[UF (by simpa using hi),UJ]at h2
   cases e:vs[i]? with
   |none=>rw[e]at h2;cases h2
   |some a=>rw[e]at h2;cases h2;rfl
  obtain⟨u,hu,rv⟩:=r.get ha;have hp:ps[i]?=some y:=by rw[<- S.pre,List.getElem?_take_of_lt xL];exact h1
  have ndP:ps.Nodup:=by rw[<- S.pre];exact S.nd.sublist (List.take_sublist _ _)
  refine⟨u,rv,?_⟩;rcases S.par y (Vh hp)with k|k
  . exact .inl ⟨k,vC ndP hp hu k⟩
  . obtain⟨c,e⟩:=yN (n:=s.heap.objs.size+1) k;refine .inr ⟨.inl k,c,e,?_⟩;have q:=x.cell y c e;rw[vD ndP hp hu (by show scope.names.lookup y≠_;rw[k];decide)]at q;exact q
 . exact .inl (e0.hok.fresh (Nat.le_of_lt (x.above y c (Vv h))))
 . unfold mX;show _=N.length;rw[Ue,tu,VI];omega
theorem Hr{CX:Qp}{P:Program}{w:World}{K:W.Frag}{mg:Str->Option Value}{base:Heap}{k:Nat}{f:Addr}{name qual:Str}{params:Arguments}{body:List Stmt}{scope:Scope}{dV kV doc pm cdv ct oc:Value}{an od:Option Addr}
  {osl:Array (Option Value)} {N ps:List Str} {sp:Sp} (lk:K.lookup f=some ⟨oc,od,.func (W.fnOf name qual params body scope dV kV doc pm an cdv ct),osl⟩) (hcd:W.codeIn K cdv qual=true) (S:aU N ps scope)
  (len:∀vs H Q E,sp vs H Q E->vs.length=ps.length)
  (hbody:∀(A:Around)(outer:List Env)(s:Shared)(H:Hp)(vs:List V)(Q:VK)(E:XK),g6 k (A.deeper (envOfC qual scope s.heap.objs.size f cdv))->sp vs H Q E ->
   ∃t,P7 (D2 CX P w K mg base N qual scope f cdv A outer s H E) body t/\t {nx:=λ_ H'=>Q .non H',rt:=Q} (mX N vs) H) :
  FnOk P w K mg base CX (k+1) f (W.fnOf name qual params body scope dV kV doc pm an cdv ct) ps sp:=by
 refine⟨len,λA outer s H args us vs Q E hr e0 hb r hsp=>?_⟩;have hl:=len _ _ _ _ hsp;have KX:K.In s.heap:=e0.mod.kin.keeps λb o e=>(e0.bs b o e).1;have lim:s.heap.NoLimit:=e0.mod.nolimit.keeps λb o e=>(e0.bs b o e).1
 have hkind:∀y∈ps.zip us,scope.names.lookup y.1=some .local∨(scope.names.lookup y.1=some .cell/\((cellsFrom (s.heap.objs.size+1) scope.names []).lookup y.1).isSome=true):=fun⟨n,v⟩ hy=>by
  rcases S.par n (List.of_mem_zip hy).1 with q|q
  . exact .inl q
  . exact .inr ⟨q,W.cellsFrom_some _ _ _ (.inl q)⟩
 refine codeAny_call_function hr.depth (KX _ _ lk) rfl S.co S.gen rfl (W.codeRec_of KX hcd) (hb _ _ _ _ ?_);refine wpAny_newFunctionEnv_cells S.kind hkind λenv he s1 x=>?_;subst he;refine⟨lim.keeps x.toInCall.keep,codeAny_func ?_⟩;obtain⟨t,ht,hq⟩:=hbody A outer s H vs Q E (hr.deeper _) hsp;have I:P4 (D2 CX P w K mg base N qual scope f cdv A outer s H E) [] (mX N vs) H s1:=Bz S hr.hd e0 hl r x;refine U8 (ht [] s1 (mX N vs) H _ I hq) (λfl s' hs=>?_) λe s' hs=>hs
 have fin:∀{σ':St}{H':Hp}{v:V}{u:Value},P4 (D2 CX P w K mg base N qual scope f cdv A outer s H E) [] σ' H' s'->bS v u->Q v H'->CE outer P w H s Q u s' :=
  λ{σ' H' v u} J rv q=>⟨v,H',J.os,J.bare,J.base,J.hok,rv,q⟩
 cases fl with
 | ret u =>
  obtain⟨v,σ',H',J,rv,q⟩:=hs;exact fin J rv q
 | next =>
  obtain⟨σ',H',J,q⟩:=hs;exact fin (v:=V.non) (u:=Value.none) J rfl q
 | brk =>
  obtain⟨_,_,_,q⟩:=hs;exact False.elim q
 | cont =>
  obtain⟨_,_,_,q⟩:=hs;exact False.elim q
section
variable{X:Cx}{x:Str}{p pos:Pos}{e:Expr}{es:List Expr}{t:TA}{id:String}{r:List V->Hp->VK->Prop}
def Qq(r:List V->Hp->VK->Prop)(t:TA):TE:=λσ H Q=>t σ H λvs H1=>r vs H1 Q
theorem qz(hc:iH X (.builtin id) r)(hg:Gl X x)(hm:X.mg x=none)(hv:bootBuiltins x=some (.builtin id))(ha:PA X (e::es) t) (hn:x≠"__name__":=by decide) (hdb:aab x:=by decide)
  (he:starEach (e::es) X.env=(false,eval e X.env)::starEach es X.env:=by rfl) (hpl:(backTo pos (starEach es X.env)).any (·.1)=false:=by rfl):PE X (.Call (.Name x p) (e::es) [] pos) (Qq r t):=by
 intro gV s σ H Q I h;refine Ve (mV I hg hm hv ?_ hn hdb);exact PyProof.Rows.callWith_builtin1 (P8 (ha pos gV s σ H _ I h) λus s1 ⟨vs,H1,I1,r1,q1⟩=>hc gV s1 σ H1 vs us Q I1 r1 q1) he hpl
end
end L2
namespace HT
open PySem PyProof.Rows
section
variable{prog:Program}{w:World}{A:Around}{E:Value->Shared->Prop}{s:Shared}
noncomputable def sIx(n d:Nat):Option Int->Nat
 |none=>d
 |some v=>if v<0 then(v+(n:Int)).toNat else min v.toNat n
theorem sIx_none(n d:Nat):sIx n d none=d:=rfl
theorem sIx_nat(n d k:Nat):sIx n d (some (k:Int))=min k n:=by
 show(if(k:Int)<0 then((k:Int)+(n:Int)).toNat else min (k:Int).toNat n)=min k n
 rw[if_neg (by omega),Int.toNat_natCast]
theorem KR(n d:Nat)(hd:d<=n)(o:Option Int):sIx n d o<=n:=by
 cases o with
 |none=>exact hd
 | some v =>
  show(if v<0 then(v+(n:Int)).toNat else min v.toNat n)<=n
  by_cases hv:v<0
  . rw[if_pos hv];omega
  . rw[if_neg hv];exact Nat.min_le_right _ _
theorem BA(v:Int)(n d:Nat):(if v<0 then max (v+(n:Int)) 0 else min v (n:Int))=((sIx n d (some v):Nat):Int):=by
 show(if v<0 then max (v+(n:Int)) 0 else min v (n:Int))=(((if v<0 then(v+(n:Int)).toNat else min v.toNat n):Nat):Int)
 by_cases hv:v<0
 . simp only[if_pos hv];omega
 . simp only[if_neg hv];omega
theorem Ao(lo hi:Option Int)(n:Nat):Builtin.Slice.sliceAdjust lo hi 1 (n:Int)=(((sIx n 0 lo:Nat):Int),((sIx n n hi:Nat):Int)):=by
 have h1:¬((1:Int)<0):=by omega
 unfold Builtin.Slice.sliceAdjust;simp only[h1,if_false];refine Prod.ext ?_ ?_
 .
  cases lo with
  |none=>rfl
  |some v=>exact BA v n 0
 .
  cases hi with
  |none=>rfl
  |some v=>exact BA v n n
theorem Ap(i j:Nat):Builtin.Slice.slicePlaces (i:Int) (j:Int) 1=j-i:=by
 unfold Builtin.Slice.slicePlaces;have h1:(1:Int) > 0:=by omega
 simp only[h1,if_true,Int.ediv_one];split<;>omega
theorem sV{v:Value}{o:Option Int}{Q:Option Int->Shared->Prop}(p:IsPart v o)(h:Q o s):wpAny (model prog w) A (Builtin.Slice.slicePartIndex v) Q E s:=by
 cases p with
 |none=>exact slicePart_none h
 |int i t=>exact slicePart_int h
theorem qj{sl:Addr}{vl vu:Value}{lo hi:Option Int}{n:Nat}{Q:Int×Int×Nat->Shared->Prop}(hs:s.heap.IsSliceOf sl vl vu .none)(pl:IsPart vl lo)(pu:IsPart vu hi)
  (h:Q (((sIx n 0 lo:Nat):Int),1,sIx n n hi-sIx n 0 lo) s):wpAny (model prog w) A (Builtin.Slice.sliceApplied (.ref sl) (pure (n:Int))) Q E s:=by
 obtain⟨os,hos,hcs,hds⟩:=id hs;unfold Builtin.Slice.sliceApplied Builtin.Slice.sliceFields;refine kS (kS (VX hos hds (x:=vl) rfl (kS (VX hos hds (x:=vu) rfl (kS (VX hos hds (x:=.none) rfl (Um ?_)))))));refine kS (slicePart_none ?_)
 show wpAny _ _ (if((1:Int) == 0)=true then _ else _) _ _ s
 rw[if_neg (by decide)];refine kS (sV pl (kS (sV pu (kS (Um ?_)))))
 show wpAny _ _ (match Builtin.Slice.sliceAdjust lo hi 1 (n:Int)with|(lo,hi)=>pure (lo,(1:Int),Builtin.Slice.slicePlaces lo hi 1)) _ _ s
 rw[Ao lo hi n];show wpAny _ _ (pure (((sIx n 0 lo:Nat):Int),(1:Int),Builtin.Slice.slicePlaces ((sIx n 0 lo:Nat):Int) ((sIx n n hi:Nat):Int) 1)) _ _ s;rw[Ap];exact Um h
theorem Ej(xs:Array Value)(i k:Nat):((List.range k).filterMap λ(m:Nat)=>xs[((i:Int)+(m:Int)*1).toNat]?).toArray=((xs.toList.drop i).take k).toArray:=by
 have e:(λ(m:Nat)=>xs[((i:Int)+(m:Int)*1).toNat]?)=λm=>xs[i+m]?:=by
  funext m
  have:((i:Int)+(m:Int)*1).toNat=i+m:=by omega
  rw[this]
 rw[e];have:=pick_run xs i k;rw[List.filterMap_map]at this;have e2:((λx=>xs[x]?) ∘ λx=>i+x)=λm=>xs[i+m]?:=rfl;rw[e2]at this;rw[this]
theorem getItem_tuple_cut{t sl:Addr}{items:Array Value}{vl vu:Value}{lo hi:Option Int}{Q:Value->Shared->Prop}(ht:IsTup s.heap t items)(hs:s.heap.IsSliceOf sl vl vu .none)(pl:IsPart vl lo)(pu:IsPart vu hi)
  (hw:¬(sIx items.size 0 lo=0/\sIx items.size items.size hi=items.size))
  (h:Q (.ref s.heap.objs.size) {s with heap:=s.heap.push {cls:=.type "tuple",data:=.seq ((items.toList.drop (sIx items.size 0 lo)).take (sIx items.size items.size hi-sIx items.size 0 lo)).toArray} })
  (hsz:items.size<=sizeLine):wpAny (model prog w) A (getItem (.ref t) (.ref sl)) Q E s:=by
 have htake:sizeOk (.seq ((items.toList.drop (sIx items.size 0 lo)).take (sIx items.size items.size hi-sIx items.size 0 lo)).toArray):=by show((items.toList.drop (sIx items.size 0 lo)).take (sIx items.size items.size hi-sIx items.size 0 lo)).toArray.size<=sizeLine;rw[UB,Ut,Uq,VG];omega
 have hj:sIx items.size items.size hi<=items.size:=KR _ _ (Ul _) hi;obtain⟨os,hos,hcs,hds⟩:=id hs;have hTs:s.TypeIs (.ref sl) "slice":=⟨os,hos,hcs⟩;unfold getItem
 try with_reducible refine Vz ?_
 first|refine kS (Um ?_)|skip
 refine kS (wpAny_sequenceKey ht.typeIs x_ ?_)
 refine kS (wpAny_callSpecial?_slot (name:=Str.ofString "__getitem__") ht.typeIs PyProof.Rows.slot_tuple_getitem
  (wpAny_call_entry PyProof.Rows.slot_tuple_getitem ht.typeIs entry_tuple_getitem ?_ (args_tuple_getitem _ _)))
 show wpAny _ _ (Builtin.Tuple.tupleItemsOf (.ref t) >>= _) _ _ s;refine kS (tupleItemsOf_ ht ?_);refine kS (wpAny_typeOf hTs ?_);rw[if_pos (by decide)];refine kS (qj hs pl pu ?_);have hno:¬((((sIx items.size 0 lo:Nat):Int) == 0 && (1:Int) == 1 && (sIx items.size items.size hi-sIx items.size 0 lo) == items.size)=true):=by intro q;rw[UE,UE]at q;have q1:((sIx items.size 0 lo:Nat):Int)=0:=eq_of_beq q.1.1;have q2:sIx items.size items.size hi-sIx items.size 0 lo=items.size:=eq_of_beq q.2;exact hw ⟨xL,xL⟩
 show wpAny _ _ (if(((sIx items.size 0 lo:Nat):Int) == 0 && (1:Int) == 1 && (sIx items.size items.size hi-sIx items.size 0 lo) == items.size)=true then _ else _) _ _ s
 rw[if_neg hno,Ej]
 first
  |exact kS (m:=Builtin.Tuple.tupleExact _) (VQ (Um ⟨_,rfl,Um h⟩) htake)
  |exact kS (m:=Builtin.Tuple.tupleExact _) (VQ (kS (Um (Um ⟨_,rfl,Um h⟩))) htake)
  |exact kS (kS (m:=Builtin.Tuple.tupleExact _) (VQ (Um (Um ⟨_,rfl,Um h⟩)) htake))
  |exact kS (kS (m:=Builtin.Tuple.tupleExact _) (VQ (Um ⟨_,rfl,Um h⟩) htake))
end
end HT
namespace L2
open PySem PySem.Spec PyProof.Rows
noncomputable abbrev TO:=St->Hp->(Option Int->Hp->Prop)->Prop
def PO(X:Cx)(e:Option Expr)(t:TO):Prop :=
 ∀(gV:List (Addr×Obj))(s:Shared)(σ:St)(H:Hp)(Q:Option Int->Hp->Prop),P4 X gV σ H s->t σ H Q ->
  wpAny (model X.prog X.w) X.A (evalPart e X.env) (λu s'=>∃o H',P4 X gV σ H' s'/\IsPart u o/\Q o H') X.xe s
noncomputable def Hs:TO:=λ_ H Q=>Q none H
noncomputable def Nm(t:TE):TO:=λσ H Q=>t σ H λx H1=>∃i,x=.int i/\Q (some i) H1
section
variable{X:Cx}{e:Expr}{te:TE}{lo hi:Option Expr}{tl th:TO}{pos p2:Pos}
theorem Ht:PO X none Hs:=by intro gV s σ H Q I h;rw[evalPart_none];exact Um ⟨none,H,I,.none,h⟩
theorem Hu(h:PE X e te):PO X (some e) (Nm te):=by intro gV s σ H Q I hw;rw[evalPart_some];refine P8 (h gV s σ H _ I hw) λu s1 ⟨x,H1,I1,r1,q1⟩=>?_;obtain⟨i,rfl,q⟩:=q1;obtain⟨t,rfl⟩:=r1;exact⟨some i,H1,I1,.int i t,q⟩
def Qr(X:Cx)(r:V->Option Int->Option Int->Hp->VK->Prop):Prop :=
 ∀(gV:List (Addr×Obj))(s:Shared)(σ:St)(H:Hp)(x:V)(v vl vu:Value)(lo hi:Option Int)(sl:Addr)(Q:VK),P4 X gV σ H s->bS x v->s.heap.IsSliceOf sl vl vu .none->IsPart vl lo->IsPart vu hi->r x lo hi H Q ->
  ∃ T id,typeLookup (.type T) "__getitem__"=pure (some (.builtin id))/\s.TypeIs v T/\wpAny (model X.prog X.w) X.A (getItem v (.ref sl)) (EP X gV σ Q) X.xe s
theorem Qr.or{r r':V->Option Int->Option Int->Hp->VK->Prop}(h:Qr X r)(h':Qr X r'):Qr X (λx lo hi H Q=>r x lo hi H Q∨r' x lo hi H Q):=by
 intro gV s σ H x v vl vu lo hi sl Q I rx hs pl pu q;rcases q with q|q
 . exact h gV s σ H x v vl vu lo hi sl Q I rx hs pl pu q
 . exact h' gV s σ H x v vl vu lo hi sl Q I rx hs pl pu q
def Qs(r:V->Option Int->Option Int->Hp->VK->Prop)(te:TE)(tl th:TO):TE:=λσ H Q=>te σ H λx H1=>tl σ H1 λl H2=>th σ H2 λu H3=>r x l u H3 Q
theorem Ek{r:V->Option Int->Option Int->Hp->VK->Prop}(hr:Qr X r)(he:PE X e te)(hl:PO X lo tl)(hu:PO X hi th):PE X (.Subscript e (.Slice lo hi none p2) pos) (Qs r te tl th):=by intro gV s σ H Q I h;refine Subscript_ (P8 (he gV s σ H _ I h) λv s1 ⟨x,H1,I1,r1,q1⟩=>?_);refine wpAny_Slice (P8 (hl gV s1 σ H1 _ I1 q1) λvl s2 ⟨l,H2,I2,pl,q2⟩=>P8 (hu gV s2 σ H2 _ I2 q2) λvu s3 ⟨u,H3,I3,pu,q3⟩=>?_);rw[evalPart_none];refine Um ?_;have I4:P4 X gV σ H3 {s3 with heap:=s3.heap.push {cls:=.type "slice",data:=.fields #[vl,vu,.none] } }:=I3.kept (t':=s3.toks) λb ob q=>Ug _ q;obtain⟨T,id,hT,ht,hg⟩:=hr gV {s3 with heap:=s3.heap.push {cls:=.type "slice",data:=.fields #[vl,vu,.none] } } σ H3 x v vl vu l u s3.heap.objs.size Q I4 r1 (Heap.IsSliceOf.new ..) pl pu q3;show wpAny (model X.prog X.w) X.A (subscriptTail e (.Slice lo hi none p2) v (.ref s3.heap.objs.size)) (EP X gV σ Q) X.xe {s3 with heap:=s3.heap.push {cls:=.type "slice",data:=.fields #[vl,vu,.none] } };exact tail_any (ops:=[.ref s3.heap.objs.size,v]) ht hT hg (by with_unfolding_all rfl)
noncomputable def GD(xs:List V)(lo hi:Option Int):List V:=(xs.drop (HT.sIx xs.length 0 lo)).take (HT.sIx xs.length xs.length hi-HT.sIx xs.length 0 lo)
theorem qJ(xs:List V)(lo hi:Option Int):(GD xs lo hi).length<=xs.length:=by unfold GD;rw[Ut,Uq];omega
def O4(K:W.Frag):V->Option Int->Option Int->Hp->VK->Prop:=λx lo hi H Q=>∃a xs,x=.ref a/\Qb K H a xs /\
 ¬(HT.sIx xs.length 0 lo=0/\HT.sIx xs.length xs.length hi=xs.length)/\∀p,H p=none->Q (.ref p) (PR H p (.tup (GD xs lo hi)))
theorem KS:Qr X (O4 X.K):=by
 intro gV s σ H x v vl vu lo hi sl Q I rx hs pl pu h;obtain⟨a,xs,rfl,hx,hw,q⟩:=h;cases rx;obtain⟨its,r,ht,hz⟩:=I.tuple hx;have kz:its.toArray.size=xs.length:=by rw[UB];exact r.length.symm
 refine⟨"tuple",_,PyProof.Rows.slot_tuple_getitem.lookup,ht.typeIs,?_⟩;refine HT.getItem_tuple_cut ht hs pl pu (by rw[kz];exact hw) ?_ (by rw[kz];exact hz);rw[kz];refine⟨.ref s.heap.objs.size,_,I.laid (t':=s.toks) (o:=.tup (GD xs lo hi)) (λb ob q=>Ug _ q) (Ul _) ?_,rfl,q _ (I.hok.fresh (Ul _))⟩;exact⟨Uv (qJ xs lo hi) hz,_,(r.drop (HT.sIx xs.length 0 lo)).take (HT.sIx xs.length xs.length hi-HT.sIx xs.length 0 lo),IsTup.new _ _⟩
end
noncomputable def Qt(n:Nat)(i:Int):Option Nat:=if 0<=i then(if i<n then some i.toNat else none)else if -(n:Int)<=i then some (i+n).toNat else none
noncomputable def Qu{α:Type}(xs:List α)(i:Int):Option α:=(Qt xs.length i).bind λj=>xs[j]?
theorem BB{n:Nat}{i:Int}{j:Nat}(h:Qt n i=some j):seqIndex? i n=some j/\j<n/\-(n:Int)<=i/\i<n:=by
 unfold Qt at h;by_cases h0:0<=i
 .
  rw[if_pos h0]at h;by_cases h1:i<n
  . rw[if_pos h1]at h;have e:i.toNat=j:=UM h;exact⟨by rw[seqIndex_of h0 h1,e],xL,xL,h1⟩
  . rw[if_neg h1]at h;cases h
 .
  rw[if_neg h0]at h;by_cases h1 : -(n:Int)<=i
  . rw[if_pos h1]at h;have e:(i+n).toNat=j:=UM h;exact⟨by rw[seqIndex_neg xL h1,e],xL,h1,xL⟩
  . rw[if_neg h1]at h;cases h
theorem xy{α:Type}{xs:List α}{i:Int}{v:α}(h:Qu xs i=some v):∃j,seqIndex? i xs.length=some j/\xs[j]?=some v/\j<xs.length/\-(xs.length:Int)<=i/\i<xs.length:=by
 unfold Qu at h
 cases e:Qt xs.length i with
 |none=>rw[e]at h;cases h
 | some j =>
  rw[e]at h;obtain⟨h1,h2,h3,h4⟩:=BB e;exact⟨j,h1,h,h2,h3,h4⟩
theorem lZ{α:Type}{xs:List α}{j:Nat}{v:α}(h:xs[j]?=some v):Qu xs (j:Int)=some v:=by
 have hj:j<xs.length:=(Uh.mp h).1;have e:Qt xs.length (j:Int)=some j:=by unfold Qt;rw[if_pos (by omega),if_pos (by omega)];simp
 unfold Qu;rw[e];exact h
def uc(b:Expr):Prop:=∀o i,subscripted b false o i=operate [o,i] (getItem o i)
def Qv(X:Cx)(r:R2):Prop :=
 ∀(value slice:Expr)(gV:List (Addr×Obj))(s:Shared)(σ:St)(H:Hp)(x y:V)(v u:Value)(Q:VK),P4 X gV σ H s->bS x v->bS y u->r x y H Q ->
  subscripted slice false v u=operate [v,u] (getItem v u)->wpAny (model X.prog X.w) X.A (subscriptTail value slice v u) (EP X gV σ Q) X.xe s
def Qw(X:Cx)(id:String)(r:V->List V->Hp->VK->Prop):Prop :=
 ∀(gV:List (Addr×Obj))(s:Shared)(σ:St)(H:Hp)(x:V)(xs:List V)(v:Value)(us:List Value)(Q:VK),P4 X gV σ H s->bS x v->bT xs us->r x xs H Q ->
  wpAny (model X.prog X.w) X.A (call (.builtin id) (v::us)) (EP X gV σ Q) X.xe s
section
variable{X:Cx}{a b:Expr}{ta tb:TE}{pos:Pos}
theorem KU{r:R2}(hr:Qv X r)(ha:PE X a ta)(hb:PE X b tb)(hs:uc b):PE X (.Subscript a b pos) (Qk r ta tb):=by intro gV s σ H Q I h;exact Subscript_ (O0 ha hb I h λv u s2 x y H2 I2 rx ry q=>hr a b gV s2 σ H2 x y v u Q I2 rx ry q (hs _ _))
def O5(K:W.Frag):R2:=λx y H Q=>∃p xs i v,x=.ref p/\y=.int i/\Qa K H p xs/\Qu xs i=some v/\Q v H
def O6(K:W.Frag):R2:=λx y H Q=>∃p xs i v,x=.ref p/\y=.int i/\Qb K H p xs/\Qu xs i=some v/\Q v H
def O7:R2:=λx y H Q=>∃z i c,x=.str z/\y=.int i/\z.length<=sizeLine/\Qu z.cps.toList i=some c/\Q (.str ⟨#[c]⟩) H
theorem xA:Qv X (O5 X.K):=by
 intro value slice gV s σ H x y v u Q I rx ry h hs;obtain⟨p,xs,i,z,rfl,rfl,hq,he,q⟩:=h;cases rx;obtain⟨t,rfl⟩:=ry;obtain⟨its,r,pl,hz⟩:=I.list hq;obtain⟨j,h1,h2,h3,h4,h5⟩:=xy he;obtain⟨w,ew,rw'⟩:=r.get h2;have hl:=r.length;have hn:=sU;have fin:EP X gV σ Q w s:=⟨z,H,I,rw',q⟩;by_cases h0:0<=i
 .
  have hj:i.toNat=j:=by rw[seqIndex_of h0 h5]at h1;exact UM h1
  exact item_listR pl.isList h0 xL (by rw[hj];simpa using ew) fin hs
 .
  have hj:(i+(its.toArray.size:Int)).toNat=j:=by rw[seqIndex_neg xL h4]at h1;rw[UB,<- hl];exact UM h1
  exact subscriptTail_builtinR (x:=w) pl.isList.typeIs slot_list_getitem.lookup
   (wpAny_getItem_list_neg (Q:=λr s'=>r=w/\EP X gV σ Q r s') pl.isList xL (by rw[UB]<;>omega) xL (by rw[hj];simpa using ew) ⟨rfl,fin⟩) hs
theorem GE:Qv X (O6 X.K):=by
 intro value slice gV s σ H x y v u Q I rx ry h hs;obtain⟨p,xs,i,z,rfl,rfl,hq,he,q⟩:=h;cases rx;obtain⟨t,rfl⟩:=ry;obtain⟨its,r,pl,hz⟩:=I.tuple hq;obtain⟨j,h1,h2,h3,h4,h5⟩:=xy he;obtain⟨w,ew,rw'⟩:=r.get h2;have hl:=r.length;have hn:=sU;have fin:EP X gV σ Q w s:=⟨z,H,I,rw',q⟩
 exact subscriptTail_builtinR (x:=w) pl.typeIs slot_tuple_getitem.lookup
  (getItem_tuple (j:=j) (Q:=λr s'=>r=w/\EP X gV σ Q r s') pl xL xL (by rw[UB,<- hl];exact h1) (by simpa using ew) ⟨rfl,fin⟩) hs
theorem KW:Qv X O7:=by
 intro value slice gV s σ H x y v u Q I rx ry h hs;obtain⟨z,i,c,rfl,rfl,hz,he,q⟩:=h;obtain⟨t,rfl⟩:=rx;obtain⟨t',rfl⟩:=ry;obtain⟨j,h1,h2,h3,h4,h5⟩:=xy he;have hl:z.cps.toList.length=z.length:=by simp[Str.length]
 rw[hl]at h1 h4 h5;have hn:=sU
 exact tail_any (typeIs_str s z t) slot_str_getitem.lookup (getItem_str (c:=c) (by
  have e1:decide (i < -(2^63:Int))=false:=Uy xL;have e2:decide (i≥2^63)=false:=Uy xL
  rw[e1,e2,Wd]) (by rw[h1];simpa using h2) ⟨.str ⟨#[c]⟩,H,I.tok _,⟨_,rfl⟩,q⟩) hs
theorem Aq(its:List Value)(n j:Nat)(u:Value):Obj.mapSeq (·.setIfInBounds j u) {cls:=.type "list",data:=.seq its.toArray n}={cls:=.type "list",data:=.seq (its.set j u).toArray n}:=by simp[Obj.mapSeq]
theorem P4.lst{gV:List (Addr×Obj)}{σ:St}{H:Hp}{s:Shared}{p:Addr}{xs:List V}(I:P4 X gV σ H s)(h:H p=some (.lst xs)) :
  ∃(its:List Value)(n:Nat),bT xs its/\s.heap.get? p=some {cls:=.type "list",data:=.seq its.toArray n}/\xs.length<=sizeLine:=by
 obtain⟨z,its,n,r,e⟩:=I.hok p _ h;exact⟨its,n,r,e,z⟩
theorem P4.lstUpd{gV:List (Addr×Obj)}{σ:St}{H:Hp}{s:Shared}{p:Addr}{xs ys:List V}{its its':List Value}{n n':Nat}{f:Obj->Obj}(I:P4 X gV σ H s)(h:H p=some (.lst xs))
  (ho:s.heap.get? p=some {cls:=.type "list",data:=.seq its.toArray n}) (hf:f {cls:=.type "list",data:=.seq its.toArray n}={cls:=.type "list",data:=.seq its'.toArray n' }) (r:bT ys its') (hz:ys.length<=sizeLine) (t:Nat) :
  P4 X gV σ (PR H p (.lst ys)) {s with heap:=s.heap.update p f,toks:=t}:=by
 have e:(s.heap.update p f).get? p=some {cls:=.type "list",data:=.seq its'.toArray n' }:=by rw[Vx f ho (by rw[hf]<;>rfl),hf]
 refine I.write (x:=p) (e:=p) (by rw[h];trivial) (.inl rfl) (λb u hb q=>(U7 _ _ (Vn hb)).trans q) ⟨_,e⟩ ?_;exact⟨hz,its',n',r,e⟩
def Nn:V->V->V->Hp->(Hp->Prop)->Prop:=λo i v H Q=>∃p xs k j,o=.ref p/\i=.int k/\H p=some (.lst xs)/\Qt xs.length k=some j/\Q (PR H p (.lst (xs.set j v)))
theorem El:Oq X Nn:=by
 intro gV s σ H o i v ov iv u Q I ro ri rv h;obtain⟨p,xs,k,j,rfl,rfl,hp,hj,q⟩:=h;cases ro;obtain⟨t,rfl⟩:=ri;obtain⟨its,n,r,ho,hz⟩:=I.lst hp;obtain⟨h1,h2,h3,h4⟩:=BB hj;have hl:=r.length;have hn:=sU
 have I':P4 X gV σ (PR H p (.lst (xs.set j v))) {s with heap:=s.heap.update p (Obj.mapSeq (·.setIfInBounds j u)) } :=
  I.lstUpd hp ho (Aq its n j u) (r.set rv j) (by rw[List.length_set];exact hz) s.toks
 by_cases h0:0<=k
 .
  have hk:k.toNat=j:=by rw[seqIndex_of h0 h4]at h1;exact UM h1
  exact W.ki_setAt ho h0 xL (by rw[UB,<- hl];exact h4) (by rw[hk];exact⟨_,I',q⟩)
 .
  have hk:(k+(its.toArray.size:Int)).toNat=j:=by rw[seqIndex_neg xL h3]at h1;rw[UB,<- hl];exact UM h1
  exact W.ki_setBack ho xL (by rw[UB,<- hl];exact h3) xL (by rw[hk];exact⟨_,I',q⟩)
theorem vE(lo hi:Option Int)(n:Nat):(sliceBounds lo hi none n).1=((HT.sIx n 0 lo:Nat):Int)/\(sliceBounds lo hi none n).2.1=((HT.sIx n n hi:Nat):Int)/\(sliceBounds lo hi none n).2.2=1:=by
 refine⟨?_,?_,rfl⟩
 .
  cases lo with
  |none=>simp[sliceBounds,HT.sIx]
  | some i =>
   simp only[sliceBounds,HT.sIx,Option.getD_none,show(1:Int) > 0 by decide,if_true];by_cases h:i<0
   . simp only[h,if_true]<;>omega
   . simp only[h,if_false]<;>omega
 .
  cases hi with
  |none=>simp[sliceBounds,HT.sIx]
  | some i =>
   simp only[sliceBounds,HT.sIx,Option.getD_none,show(1:Int) > 0 by decide,if_true];by_cases h:i<0
   . simp only[h,if_true]<;>omega
   . simp only[h,if_false]<;>omega
theorem ud(its:List Value)(lo hi:Option Int):slicePick its.toArray lo hi none=((its.drop (HT.sIx its.length 0 lo)).take (HT.sIx its.length its.length hi-HT.sIx its.length 0 lo)).toArray:=by obtain⟨h1,h2,h3⟩:=vE lo hi its.toArray.size;unfold slicePick;rw[h1,h2,h3];simp only[sliceRange_one,pick_run,UB]<;>rfl
def O8(K:W.Frag):V->Option Int->Option Int->Hp->VK->Prop:=λx lo hi H Q=>∃a xs,x=.ref a/\Qa K H a xs/\∀p,H p=none->Q (.ref p) (PR H p (.lst (GD xs lo hi)))
theorem Hv:Qr X (O8 X.K):=by intro gV s σ H x v vl vu lo hi sl Q I rx hs pl pu h;obtain⟨a,xs,rfl,hx,q⟩:=h;cases rx;obtain⟨its,r,ht,hz⟩:=I.list hx;have kz:=r.length;refine⟨"list",_,slot_list_getitem.lookup,ht.isList.typeIs,?_⟩;refine wpAny_getItem_list_slice ht.isList hs pl pu .none v6 ?_ (by rw[UB]<;>omega);rw[ud,<- kz];refine⟨.ref s.heap.objs.size,_,I.laid (t':=s.toks) (o:=.lst (GD xs lo hi)) (λb ob q=>Ug _ q) (Ul _) ?_,rfl,q _ (I.hok.fresh (Ul _))⟩;exact⟨Uv (qJ xs lo hi) hz,_,0,(r.drop (HT.sIx xs.length 0 lo)).take (HT.sIx xs.length xs.length hi-HT.sIx xs.length 0 lo),UH _ rfl⟩
noncomputable def sq:V->Bool
 |.non=>true
 |.bl _=>true
 |.int _=>true
 |.str _=>true
 |_=>false
noncomputable def Qx:V->V->Bool
 |.non,.non=>true
 |.bl a,.bl b=>a == b
 |.bl a,.int b=>(if a then 1 else 0) == b
 |.int a,.bl b=>a == (if b then 1 else 0)
 |.int a,.int b=>a == b
 |.str a,.str b=>a == b
 |_,_=>false
theorem KY{A:Around}{s:Shared}{y x:V}{u v:Value}(ry:bS y u)(rx:bS x v)(fy:sq y=true)(fx:sq x=true):SeqAt.EqAt A s u v (Qx y x):=by
 cases y with
 | non =>
  cases ry
  cases x with
  |non=>cases rx;exact SeqAt.EqAt.same _
  |bl b=>cases rx;exact SeqAt.EqAt.none_bool b
  |int b=>obtain⟨t,rfl⟩:=rx;exact SeqAt.EqAt.none_int b t
  |str b=>obtain⟨t,rfl⟩:=rx;exact SeqAt.EqAt.none_str b t
  |_=>exact absurd (show false=true from fx) UL
 | bl a =>
  cases ry
  cases x with
  |non=>cases rx;exact SeqAt.EqAt.bool_none a
  |bl b=>cases rx;exact SeqAt.EqAt.bool_bool a b
  |int b=>obtain⟨t,rfl⟩:=rx;exact SeqAt.EqAt.bool_int a b t
  |str b=>obtain⟨t,rfl⟩:=rx;exact SeqAt.EqAt.bool_str a b t
  |_=>exact absurd (show false=true from fx) UL
 | int a =>
  obtain⟨t',rfl⟩:=ry
  cases x with
  |non=>cases rx;exact SeqAt.EqAt.int_none a t'
  |bl b=>cases rx;exact SeqAt.EqAt.int_bool a t' b
  |int b=>obtain⟨t,rfl⟩:=rx;exact SeqAt.EqAt.int_int a t' b t
  |str b=>obtain⟨t,rfl⟩:=rx;exact SeqAt.EqAt.int_str a t' b t
  |_=>exact absurd (show false=true from fx) UL
 | str a =>
  obtain⟨t',rfl⟩:=ry
  cases x with
  |non=>cases rx;exact SeqAt.EqAt.str_none a t'
  |bl b=>cases rx;exact SeqAt.EqAt.str_bool a t' b
  |int b=>obtain⟨t,rfl⟩:=rx;exact SeqAt.EqAt.str_int a t' b t
  |str b=>obtain⟨t,rfl⟩:=rx;exact SeqAt.EqAt.str_str a t' b t
  |_=>exact absurd (show false=true from fx) UL
 |_=>exact absurd (show false=true from fy) UL
noncomputable def Qy(x:V)(u:Value):Bool:=match u with
 |.none=>Qx .non x
 |.bool b=>Qx (.bl b) x
 |.int i _=>Qx (.int i) x
 |.str z _=>Qx (.str z) x
 |_=>false
theorem GF{x y:V}{u:Value}(r:bS y u)(f:sq y=true):Qy x u=Qx y x:=by
 cases y with
 |non=>cases r;rfl
 |bl b=>cases r;rfl
 |int i=>obtain⟨t,rfl⟩:=r;rfl
 |str z=>obtain⟨t,rfl⟩:=r;rfl
 |_=>exact absurd (show false=true from f) UL
theorem xB{x:V}:∀{xs:List V}{us:List Value},bT xs us->xs.all sq=true->us.any (Qy x)=xs.any λy=>Qx y x
 |_,_,.nil,_=>rfl
 | y::xs,u::us,.cons r t,f=>by rw[List.all_cons,UE]at f;rw[VL,VL,GF r f.1,xB t f.2]
theorem ue{A:Around}{s:Shared}{x:V}{v:Value}(rx:bS x v)(fx:sq x=true):∀{xs:List V}{us:List Value},bT xs us->xs.all sq=true->∀u∈us,SeqAt.EqAt A s u v (Qy x u)
 |_,_,.nil,_=>λu hu=>by cases hu
 | y::xs,u::us,.cons r t,f=>λu' hu=>by
  rw[List.all_cons,UE]at f;rcases Uo.mp hu with rfl|hu
  . rw[GF r f.1];exact KY r rx f.1 fx
  . exact ue rx fx t f.2 u' hu
noncomputable def Qz(x:V)(xs:List V):Bool:=xs.any λy=>Qx y x
def QA(K:W.Frag)(neg:Bool):R2:=λx y H Q=>∃p xs,y=.ref p/\(Qa K H p xs∨Qb K H p xs)/\sq x=true/\xs.all sq=true/\Q (.bl (if neg then !Qz x xs else Qz x xs)) H
theorem BC:Qi X (compareOp .In) (QA X.K false):=by
 intro gV s σ H x y v u Q I rx ry h;obtain⟨p,xs,rfl,hq,fx,fs,q⟩:=h;cases ry;rcases hq with hq|hq
 . obtain⟨its,r,pl,hz⟩:=I.list hq;refine SeqAt.in_listAt (Qy x) pl.isList (λw hw=>ue rx fx r fs w (by simpa using hw)) ⟨.bl _,H,I,rfl,?_⟩;rw[show its.toArray.any (Qy x)=its.any (Qy x) by simp,xB r fs];exact q
 . obtain⟨its,r,pl,hz⟩:=I.tuple hq;refine SeqAt.in_tupleAt (Qy x) pl (λw hw=>ue rx fx r fs w (by simpa using hw)) ⟨.bl _,H,I,rfl,?_⟩;rw[show its.toArray.any (Qy x)=its.any (Qy x) by simp,xB r fs];exact q
theorem pR:iH X (.builtin "len") (λxs H Q=>∃ p ys,xs=[.ref p]/\(Qa X.K H p ys∨Qb X.K H p ys)/\Q (.int ys.length) H):=by
 intro gV s σ H xs us Q I r h;obtain⟨p,ys,rfl,hq,q⟩:=h;obtain⟨u,rfl,rx⟩:=ub r;cases rx;have hn:=sU;rcases hq with hq|hq
 . obtain⟨its,r',pl,hz⟩:=I.list hq;have kz:=r'.length;exact Calls.call_len_list pl.isList (by simp only[UB]<;>omega) ⟨.int ys.length,H,I.tok _,⟨s.toks+1,by rw[UB,kz]⟩,q⟩
 . obtain⟨its,r',pl,hz⟩:=I.tuple hq;have kz:=r'.length;exact len_tuple pl (by simp only[UB]<;>omega) ⟨.int ys.length,H,I.tok _,⟨s.toks+1,by rw[UB,kz]⟩,q⟩
theorem vF:iH X (.builtin "len") (λxs H Q=>∃ z,xs=[.str z]/\z.length<=sizeLine/\Q (.int z.length) H):=by intro gV s σ H xs us Q I r h;obtain⟨z,rfl,hz,q⟩:=h;obtain⟨u,rfl,t,rfl⟩:=ub r;have hn:=sU;exact len_str xL ⟨.int z.length,H,I.tok _,⟨_,rfl⟩,q⟩
theorem iH.or{f:Value}{r r':List V->Hp->VK->Prop}(h:iH X f r)(h':iH X f r'):iH X f (λxs H Q=>r xs H Q∨r' xs H Q):=by
 intro gV s σ H xs us Q I rs q;rcases q with q|q
 . exact h gV s σ H xs us Q I rs q
 . exact h' gV s σ H xs us Q I rs q
theorem uf:iH X (.type "tuple") (λxs H Q=>∃ p ys,xs=[.ref p]/\((Qa X.K H p ys/\∀ l,H l=none->Q (.ref l) (PR H l (.tup ys)))∨(Qb X.K H p ys/\Q (.ref p) H))):=by
 intro gV s σ H xs us Q I r h;obtain⟨p,ys,rfl,h⟩:=h;obtain⟨u,rfl,rx⟩:=ub r;cases rx;rcases h with⟨hq,q⟩|⟨hq,q⟩
 .
  obtain⟨its,r',pl,hz⟩:=I.list hq;have kz:=r'.length;refine call_tuple_list pl.isList (λh' kp=>?_) (by simp only[UB]<;>omega);have I1:P4 X gV σ H {s with heap:=h' }:=I.kept (t':=s.toks) kp
  have I2:P4 X gV σ (PR H h'.objs.size (.tup ys)) {s with heap:=h'.push {cls:=.type "tuple",data:=.seq its.toArray} } :=
   I1.laid (t':=s.toks) (λb o e=>Ug _ e) (Ul _) (show cR X.prog X.w _ _ _ (.tup ys)from⟨hz,its,r',IsTup.new _ _⟩)
  exact⟨.ref h'.objs.size,_,I2,rfl,q _ (I1.hok.fresh (Ul _))⟩
 . obtain⟨its,r',pl,hz⟩:=I.tuple hq;exact call_tuple_same pl ⟨.ref p,H,I,rfl,q⟩
def QB(K:W.Frag)(T:String)(x:V)(H:Hp):Prop:=match x with
 |.str _=>T="str"
 |.int _=>T="int"
 | .ref p=>(T="list"/\∃ xs,Qa K H p xs)∨(T="tuple"/\∃ o,K.lookup p=some o/\o.cls=.type "tuple"/\o.dict=none) ∨
   (T="dict"/\((∃ kvs,H p=some (.dK kvs))∨∃ kvs,H p=some (.dT kvs)))∨(T="set"/\∃ S n,H p=some (.set S n))
 |_=>False
theorem GG{gV:List (Addr×Obj)}{σ:St}{H:Hp}{s:Shared}{T:String}{x:V}{v:Value}(I:P4 X gV σ H s)(r:bS x v)(ty:QB X.K T x H) :
  s.TypeIs v T/\∀a,v=.ref a->∃ob,s.heap.get? a=some ob/\ob.dict=none:=by
 cases x with
 | str z =>
  obtain⟨t,rfl⟩:=r;cases(show T="str" from ty);exact⟨typeIs_str s z t,λ_ e=>nomatch e⟩
 | int i =>
  obtain⟨t,rfl⟩:=r;cases(show T="int" from ty);exact⟨typeIs_int s i t,λ_ e=>nomatch e⟩
 | ref p =>
  cases r;rcases ty with⟨rfl,xs,hq⟩|⟨rfl,o,hk,hc,hd⟩|⟨rfl,hk⟩|⟨rfl,S,n,hk⟩
  . obtain⟨its,_,pl,_⟩:=I.list hq;refine⟨pl.isList.typeIs,λa e=>?_⟩;cases e;obtain⟨o,n,e,c,hd,_⟩:=pl;exact⟨o,e,hd⟩
  . refine⟨⟨o,I.kIn p o hk,hc⟩,λa e=>?_⟩;cases e;exact⟨o,I.kIn _ o hk,hd⟩
  .
   have z:∃o,s.heap.get? p=some o/\o.ExactDict:=by
    rcases hk with⟨kvs,hk⟩|⟨kvs,hk⟩
    . obtain⟨_,_,_,_,o,_,_,e,ex,_⟩:=I.hok p _ hk;exact⟨o,e,ex⟩
    . obtain⟨_,_,_,_,o,_,_,e,ex,_⟩:=I.hok p _ hk;exact⟨o,e,ex⟩
   obtain⟨o,e,ex⟩:=z;refine⟨⟨o,e,ex.1⟩,λa e2=>?_⟩;cases e2;exact⟨o,e,ex.2.1⟩
  . obtain⟨o,_,_,_,e,ex,_⟩:=I.hok p _ hk;refine⟨⟨o,e,ex.1⟩,λa e2=>?_⟩;cases e2;exact⟨o,e,ex.2.1⟩
 |_=>exact False.elim ty
def O9(K:W.Frag)(T:String)(r:V->List V->Hp->VK->Prop)(to:TE):TE:=λσ H Q=>to σ H λx H1=>QB K T x H1/\r x [] H1 Q
def QC(K:W.Frag)(T:String)(r:V->List V->Hp->VK->Prop)(to:TE)(t:TA):TE:=λσ H Q=>to σ H λx H1=>QB K T x H1/\t σ H1 λxs H2=>r x xs H2 Q
variable{o e:Expr}{es:List Expr}{to:TE}{t:TA}{name:Str}{apos cpos:Pos}{T id:String}{r:V->List V->Hp->VK->Prop}
theorem KZ(pa:PlainAttrs T)(slot:Slot T name id) (hty:typeOf (.builtin id)=pure (.type "method_descriptor")) (hm:Qw X id r) (ho:PE X o to)
  (hbase:attributeBase o name X.env (eval o X.env)=eval o X.env:=by rfl) (hline:(apos.endLine == cpos.line)=true:=by rfl):PE X (.Call (.Attribute o name apos) [] [] cpos) (O9 X.K T r to):=by
 intro gV s σ H Q I h;refine wpAny_Call_method0_late hbase hline (P8 (ho gV s σ H _ I h) λv s1 ⟨x,H1,I1,r1,ty,q1⟩=>?_);obtain⟨h1,h2⟩:=GG I1 r1 ty;exact⟨T,id,pa,slot,hty,h1,h2,Calls.callWith_builtin rfl (PySem.evalArgs_none (hm gV s1 σ H1 x [] v [] Q I1 r1 .nil q1))⟩
theorem BD(pa:PlainAttrs T)(slot:Slot T name id) (hty:typeOf (.builtin id)=pure (.type "method_descriptor")) (hm:Qw X id r) (ho:PE X o to) (ha:PA X (e::es) t)
  (hbase:attributeBase o name X.env (eval o X.env)=eval o X.env:=by rfl)
  (hfew:((backTo cpos (starEach (e::es) X.env)).all (λx=>!x.1) && (backToKw cpos (keywordEach [] X.env)).all (λx=>x.1.isSome)
   && decide ((e::es).length+([]:List Keyword).length+(if([]:List Keyword).isEmpty then 0 else 1)<30))=true:=by rfl)
  (hline:(apos.endLine == cpos.line)=true:=by rfl) (hs:starEach (e::es) X.env=(false,eval e X.env)::starEach es X.env:=by rfl) (hplain:(backTo cpos (starEach es X.env)).any (·.1)=false:=by rfl) :
  PE X (.Call (.Attribute o name apos) (e::es) [] cpos) (QC X.K T r to t):=by
 intro gV s σ H Q I h;refine wpAny_Call_method_late hbase hfew hline rfl (P8 (ho gV s σ H _ I h) λv s1 ⟨x,H1,I1,r1,ty,q1⟩=>?_);obtain⟨h1,h2⟩:=GG I1 r1 ty;refine⟨T,id,pa,slot,hty,h1,h2,?_⟩;have hA:=ha cpos gV s1 σ H1 _ I1 q1;rw[hs]at hA ⊢;refine Calls.callWith_builtin (by show(false ||(backTo cpos (starEach es X.env)).any (·.1))=false;rw[hplain]<;>rfl) (Calls.evalArgs_plain ?_);exact P8 hA λus s2 ⟨vs,H2,I2,r2,q2⟩=>hm gV s2 σ H2 x vs v us Q I2 r1 r2 q2
/- xs.append(e),list.index on a module's tuple .. are Qw facts of 06m -/
end
def QD(X:Cx)(id:String)(r:V->List V->Hp->VK->Prop):Prop :=
 ∀(gV:List (Addr×Obj))(s:Shared)(σ:St)(H:Hp)(x:V)(xs:List V)(v:Value)(us:List Value)(Q:VK),P4 X gV σ H s->bS x v->bT xs us->r x xs H Q ->
  wpAny (model X.prog X.w) X.A (call (.builtin id) (v::us)) (EP X gV σ Q) X.xe s
theorem bT.one:∀{x:V}{us:List Value},bT [x] us->∃u,us=[u]/\bS x u
 |_,_,.cons r .nil=>⟨_,rfl,r⟩
theorem bT.reverse{xs:List V}{us:List Value}(h:bT xs us):bT xs.reverse us.reverse:=by
 induction h with
 |nil=>exact .nil
 |cons r t ih=>rw[List.reverse_cons,List.reverse_cons];exact bT.append ih (.cons r .nil)
theorem bT.rep{xs:List V}{us:List Value}(h:bT xs us):∀k:Nat,bT (List.replicate k xs).flatten (List.replicate k us).flatten
 |0=>.nil
 | k+1=>by rw[U1,U1,VP,VP];exact bT.append h (bT.rep h k)
theorem vG(its:List Value):∀(k:Nat)(acc:List Value),
  List.foldl (λx1 x2=>x1++x2) acc.toArray (List.replicate k its.toArray)=(acc++(List.replicate k its).flatten).toArray
 |0,acc=>by simp
 | k+1,acc=>by
  have e:acc.toArray++its.toArray=(acc++its).toArray:=by simp
  have e2:(acc++its)++(List.replicate k its).flatten=acc++(List.replicate (k+1) its).flatten:=by rw[U1,VP,UT]
  rw[<- e2,<- vG its k (acc++its),<- e,U1,V5]
section
variable{X:Cx}{gV:List (Addr×Obj)}{σ:St}{H:Hp}{s:Shared}{l:Addr}{xs ys:List V}
theorem P4.lset{its its':List Value}{n:Nat}{f:Array Value->Array Value}{t':Nat}(I:P4 X gV σ H s)(hH:H l=some (.lst xs))
  (e:s.heap.get? l=some {cls:=.type "list",data:=.seq its.toArray n}) (hf:f its.toArray=its'.toArray) (hv:bT ys its') (hz:ys.length<=sizeLine) :
  P4 X gV σ (PR H l (.lst ys)) {s with heap:=s.heap.update l (Obj.mapSeq f),toks:=t' }:=by
 have q:=PySem.IsL.update e f;rw[hf]at q;refine I.write (x:=l) (e:=l) (by rw[hH];exact trivial) (.inl rfl) (λb' u hb hu=>(U7 s.heap (Obj.mapSeq f) (Vn hb)).trans hu) ⟨_,q⟩ ?_;exact⟨hz,its',_,hv,q⟩
theorem P4.lnew{its:List Value}{t':Nat}(I:P4 X gV σ H s)(hv:bT ys its)(hz:ys.length<=sizeLine) :
  P4 X gV σ (PR H s.heap.objs.size (.lst ys)) {s with heap:=s.heap.push {cls:=.type "list",data:=.seq its.toArray},toks:=t' } :=
 I.laid (λ_ _ q=>Ug _ q) (Ul _) ⟨hz,its,0,hv,UH _ rfl⟩
theorem P4.fresh(I:P4 X gV σ H s):H s.heap.objs.size=none:=I.hok.fresh (Ul _)
theorem P4.lstM(I:P4 X gV σ H s)(hH:H l=some (.lst xs)):xs.length<=sizeLine/\∃(its:List Value)(n:Nat),bT xs its/\xs.length=its.length/\s.heap.get? l=some {cls:=.type "list",data:=.seq its.toArray n}:=by obtain⟨z,its,n,r,e⟩:=I.hok l _ hH;exact⟨z,its,n,r,r.length,e⟩
theorem Em{n:Nat}(h:n<=sizeLine):Builtin.List.listTooLong n=false:=by unfold Builtin.List.listTooLong;exact Uy xL
end
section
variable{X:Cx}
def Hw:V->List V->Hp->VK->Prop:=λx vs H Q=>∃l xs y,x=.ref l/\vs=[y]/\H l=some (.lst xs)/\xs.length<sizeLine/\Q .non (PR H l (.lst (xs++[y])))
theorem qK:QD X "list.append" Hw:=by intro gV s σ H x vs v us Q I rx rv h;obtain⟨l,xs,y,rfl,rfl,hH,hz,q⟩:=h;cases rx;obtain⟨u,rfl,ru⟩:=rv.one;obtain⟨z,its,n,r,hl,e⟩:=I.lstM hH;refine call_meets F.slot_list_append ⟨_,e,rfl⟩ F.entry_list_append (F.args_list_append_2 _ _) (PySem.list_append l its.toArray n u (by rw[UB];omega)) ⟨e,?_⟩;refine⟨.non,_,I.lset (its':=its++[u]) hH e v6 (r.append (.cons ru .nil)) ?_,rfl,q⟩;rw[Ue,Us];omega
def Pa:R2:=λx y H Q=>∃l k xs,x=.ref l/\y=.int k/\H l=some (.lst xs)/\-(2^63)<=k/\k<2^63/\xs.length*k.toNat<=sizeLine /\
 ∀p,H p=none->Q (.ref p) (PR H p (.lst (List.replicate k.toNat xs).flatten))
theorem Hx{α:Type}(xs:List α)(k:Nat):(List.replicate k xs).flatten.length=k*xs.length:=by
 induction k with
 |zero=>simp
 |succ k ih=>rw[U1,VP,Ue,ih,Nat.succ_mul,Nat.add_comm]
theorem K0:Qi X (binaryOp .Mult) Pa:=by
 intro gV s σ H x y v u Q I rx ry h;obtain⟨l,k,xs,rfl,rfl,hH,h1,h2,hz,q⟩:=h;cases rx;obtain⟨t,rfl⟩:=ry;obtain⟨z,its,n,r,hl,e⟩:=I.lstM hH;have kz:its.toArray.size*k.toNat<=sizeLine:=by rw[UB,<- hl];exact hz
 have hcap:¬its.toArray.size*k.toNat > (2^63-1) / 8:=by
  have:(sizeLine:Nat)<=(2^63-1) / 8:=by decide
  omega
 have hfit:¬(!Builtin.List.listFitsIndex k)=true:=by rw[fitsIndex_both h1 h2];exact UL
 have hlong:¬Builtin.List.listTooLong (its.toArray.size*k.toNat)=true:=by rw[Em kz];exact UL
 have hnew:List.foldl (λx1 x2=>x1++x2) #[] (List.replicate (if its.toArray.isEmpty=true then 0 else k.toNat) its.toArray)=(List.replicate k.toNat its).flatten.toArray:=by
  have f0:∀m:Nat,List.foldl (λx1 x2=>x1++x2) #[] (List.replicate m its.toArray)=(List.replicate m its).flatten.toArray:=λm=>by have:=vG its m [];rw[Vj]at this;exact this
  rw[f0]
  cases its with
  |nil=>simp
  |cons a r'=>rw[if_neg (by simp)]
 refine wpAny_binaryOp_repeat_ref (T:="list") (U:="int") x_ ⟨_,e,rfl⟩ (λs'=>typeIs_int s' k t) noFill_list_mul F.fills_int_mul F.slot_int_rmul repeat_list F.slot_int_index.lookup
  (call_meets F.slot_int_rmul (typeIs_int s k t) F.entry_int_rmul (F.args_int_rmul_2 _ _) (int___rmul___int_list k t l its.toArray n)
   ⟨e,rfl,⟨_,e,rfl⟩,call_meets F.slot_list_mul ⟨_,e,rfl⟩ F.entry_list_mul (F.args_list_mul_2 _ _) (AutoListH.list___mul___list_int_3 l its.toArray n k t hfit hcap hlong) ⟨e,?_⟩⟩)
 rw[hnew];exact⟨.ref _,_,I.lnew (t':=s.toks) (r.rep k.toNat) (by rw[Hx,Nat.mul_comm];exact hz),rfl,q _ I.fresh⟩
end
end L2
namespace Att
open PySem PySem.W PySem.Calls PyProof.Rows
theorem qL{P:Params}{h:Heap}:∀(ns:List Int)(vs:List Value),WellAll P h vs (ns.map WData.int)->IntsAre vs ns:=by
 intro ns
 induction ns with
 | nil =>
  intro vs w;rw[List.map_nil]at w;cases w;exact .nil
 | cons n ns ih =>
  intro vs w;rw[UC]at w
  cases w with
  | cons a b =>
   cases a;exact .cons _ _ (ih _ b)
theorem BE{l:OpenLaw}{n:Nat}(hn:l.most=some n){P:Params}{h:Heap}{args:List WData}{vals:List Value}
  (hpre:l.row.toRowW.claim.pre args=true) (hwl:WellAll P h vals args) :
  ∃ a vs ns,vals=[Value.ref a]/\args=[WData.list (ns.map WData.int)]/\h.get? a=some {cls:=.type "list",data:=.seq vs.toArray}/\IntsAre vs ns/\ns.length<=n:=by
 have hsh:WShape.hasAll [] args [.list .int]=true:=(pre_splitW hpre).1;have hc:l.pre.holds [] {args:=args}=true:=(pre_splitW hpre).2;obtain⟨d,r,rfl,h1,h2⟩:=hasAllW_cons hsh;obtain rfl:=hasAllW_nil h2;obtain⟨xs,rfl,h3⟩:=hasW_list h1;obtain⟨ns,rfl⟩:=items_int h3
 have kz:ns.length<=n:=by
  unfold OpenLaw.pre at hc;have h4:(WTm.not (.lt (.lit (.int (n:Int))) (.len (.arg 0)))).holds [] {args:=[.list (ns.map .int)] }=true:=by have h4:=(holds_andW hc).1;rw[hn]at h4;exact h4
  have h5:=condW_of h4 (w_not (w_lt w_lit (w_len_list (w_arg rfl))));rw[tu]at h5;refine Nat.le_of_not_lt λq=>?_;have q':(n:Int)<((ns.length:Nat):Int):=by omega
  first
   |(rw[Uw q']at h5;exact absurd h5 x_)
   |(simp at h5;omega)
 cases hwl with
 | cons w1 w2 =>
  cases w2
  cases w1 with
  |list ho hall=>exact⟨_,_,ns,rfl,rfl,ho,qL ns _ hall,kz⟩
theorem BF(l:OpenLaw)(args:List WData):l.row.toRowW.claim.post args (.bool true) args=true :=
 postW_of (r:=l.row.toRowW) (X:=(true == true))
  (show WShape.has [] (.bool true) .bool=true by first|rfl|decide|simp[WShape.has,WShape.arms,WShape.armsAll])
  (show(WTm.eq .res (.lit (.bool true))).value [] {args:=args,res:=some (.bool true),after:=args}=some (.bool (true == true))from w_eq_bool (w_res rfl) w_lit) rfl
theorem attach_call{l:OpenLaw}{n:Nat}{q:Program}{loose:List Str}{XP:(Str->Option Value)->Heap->Prop}{YP:World->Heap->Prop}{d:DefRec}
  (hn:l.most=some n) (hdf:d.params.defaults=[])
  (call:∀(w:World)(s₀ s₁:Shared)(mg mb:Str->Option Value)(fa:Addr)(o:Obj)(pm cd doc:Value)(a:Addr)(vs:List Value)(ns:List Int),
   Ground q loose [] XP w s₀ mg mb s₁.heap->YP w s₁.heap ->
   s₁.heap.get? fa=some o->o.data=.func (docDef d.name d.params d.body d.scope pm cd doc)->s₁.heap.CodeRec cd d.name->mg d.name=some (.ref fa) ->
   s₁.heap.get? a=some {cls:=.type "list",data:=.seq vs.toArray}->IntsAre vs ns->ns.length<=n->s₁.gens=#[] ->
   codeAny (model l.prog w) callerA (.call (.ref fa) ⟨[.ref a],[]⟩) (λr s'=>r=.ok (.ret (.bool true))/\OldK s₁.heap s'.heap/\s'.os=s₁.os/\AllBare s'.gens) s₁) :
  WalkO q loose XP YP l.row.toRowW d [] (λf vs=>PySem.call f vs):=by
 intro w s₀ s₁ mg mb G Y fa o pm cd doc dV kV ho hd hcd hD hmg hg args vals as hpre hlay hrd hwl hlo;obtain rfl:dV=.none:=Dflts.none hD hdf;obtain rfl:kV=.none:=Dflts.noKw hD;obtain⟨a,vs,ns,rfl,rfl,hobj,hints,kz⟩:=BE hn hpre hwl;refine enter_call (V8 (call w s₀ s₁ mg mb fa o pm cd doc a vs ns G Y ho (fd_plain hd) hcd hmg hobj hints kz hg) λr s' hq=>?_);obtain⟨rfl,h2,h3,h4⟩:=hq;exact⟨.inl ⟨.bool true,.bool true,[],rfl,λ_=>rfl,.bool true,BF l _,λ_=>⟨List.Pairwise.nil,λ_ hm=>(nomatch hm)⟩⟩,h2,h3,h4⟩
section
noncomputable def Ou(h:Heap)(L d:Addr):List (Addr×Obj):=(List.range h.objs.size).filterMap λa=>if a=L∨a=d then none else(h.get? a).map λo=>(a,o)
end
end Att
namespace L2
open PySem PySem.Spec PyProof.Rows
theorem vH:∀{vs:List Value}{ns:List Int},IntsAre vs ns->bT (ns.map V.int) vs
 |_,_,.nil=>.nil
 |_,_,.cons n t h=>.cons ⟨t,rfl⟩ (vH h)
def MZ(H:Hp):Prop:=∀b,H b=none∨(∃o xs,H b=some (.frz o (.lst xs)))∨∃q,H b=some (.tbl q)
noncomputable def dZ(K:W.Frag):List (Addr×Str):=lamNames.filterMap λx=>(W.tabIn K x).map λp=>(p.2,sk x)
noncomputable def tabsOk(K:W.Frag):Bool:=decide ((dZ K).map (·.1)).Nodup && (dZ K).all λp=>(K.lookup p.1).isNone
theorem BG{K:W.Frag}{P:Addr}{q:Str}(h:(P,q)∈dZ K):∃x∈lamNames,∃c,W.tabIn K x=some (c,P)/\q=sk x:=by
 obtain⟨x,hx,e⟩:=List.mem_filterMap.mp h
 cases z:W.tabIn K x with
 |none=>rw[z]at e;cases e
 |some p=>rw[z]at e;cases e;exact⟨x,hx,p.1,z,rfl⟩
theorem lA{α β:Type}[BEq α][LawfulBEq α]:∀{l:List (α×β)}{a:α}{b:β},l.lookup a=some b->(a,b)∈l
 |[],_,_,h=>nomatch h
 | (x,y)::r,a,b,h=>by
  rw[U0]at h
  cases hb:a == x with
  |true=>rw[hb]at h;cases h;rw[eq_of_beq hb];exact .head _
  |false=>rw[hb]at h;exact .tail _ (lA h)
theorem jQ{α β:Type}[BEq α][LawfulBEq α]:∀{l:List (α×β)}{a:α}{b:β},(l.map (·.1)).Nodup->(a,b)∈l->l.lookup a=some b
 |[],_,_,_,h=>nomatch h
 | (x,y)::r,a,b,nd,h=>by
  rw[UC,UN]at nd;rw[U0];rcases Uo.mp h with e|h
  . cases e;simp
  . have:a≠x:=λz=>nd.1 (z ▸ List.mem_map_of_mem (f:=(·.1)) h);rw[show(a == x)=false from beq_false_of_ne this];exact jQ nd.2 h
theorem Ar{K:W.Frag}{x:Str}{c P:Addr}(h:W.tabIn K x=some (c,P)):K.lookup c≠none:=by
 unfold W.tabIn at h;split at h
 .
  split at h
  .
   split at h
   .
    split at h
    .
     rename_i hco;split at h
     . cases h;intro z;rw[hco]at z;cases z
     . cases h
    . cases h
   . cases h
  . cases h
 . cases h
theorem En{P:Program}{w:World}{K:W.Frag}{mg mb:Str->Option Value}{CX:Qp}{k:Nat}{fa a:Addr}{fd:FuncData}{x:Str}{sp:Sp}{s₁:Shared}{vs:List Value}{ns:List Int}
  (KX:K.In s₁.heap) (hns:s₁.heap.Ns mainGlobals mg) (hb:s₁.heap.Ns builtinsNs mb) (hbb:∀ x:Str,x≠"__name__"->mb x=bootBuiltins x) (hlim:s₁.heap.NoLimit) (hsys:∃ mm,s₁.heap.Ns sysModules mm) (hbm:Ky mg s₁.heap) (hto:tabsOk K=true)
  (htb:∀x∈lamNames,∀c P,W.tabIn K x=some (c,P)->W.CodeHd s₁.heap c P/\s₁.heap.get? P=some (W.tabObj #[])) (hg:s₁.gens=#[])
  (ha:s₁.heap.get? a=some {cls:=.type "list",data:=.seq vs.toArray}) (hi:IntsAre vs ns) (hl:ns.length<=sizeLine) (hr:g6 k callerA)
  (F:∀base:Heap,K.In base->base.Ns mainGlobals mg->FnOk P w K mg base CX k fa fd [x] sp) (hbind:∀(s:Shared)(u:Value),BindsTo s fd ⟨[u],[]⟩ [(x,u)])
  (hsp:∀H:Hp,MZ H->Qa K H a (ns.map V.int)->sp [.ref a] H (λv _=>v=.bl true) λ_ _ _=>False)
  (hCX:∀H e s',CX [] H s₁ (λ_ _ _=>False) e s'->False) :
  codeAny (model P w) callerA (.call (.ref fa) ⟨[.ref a],[]⟩) (λr s'=>r=.ok (.ret (.bool true))/\OldK s₁.heap s'.heap/\s'.os=s₁.os/\AllBare s'.gens) s₁:=by
 have rv:=vH hi;have lenV:=hi.length;obtain⟨nd,kn⟩:=VM.mp hto;have nd:=of_decide_eq_true nd;have tabAt:∀{b:Addr}{q:Str},(dZ K).lookup b=some q->PySem.isCodeTable s₁.heap b/\s₁.heap.get? b=some (W.tabObj #[])/\K.lookup b=none:=λ{b q} e=>by have hm:(b,q)∈dZ K:=lA e;obtain⟨x,hx,c,e1,_⟩:=BG hm;obtain⟨h1,h2⟩:=htb x hx c b e1;refine⟨(h1.tab h2).isCodeTable,h2,?_⟩;have:=US.mp kn (b,q) hm;simpa using this
 have core:∀H:Hp,MZ H->Qa K H a (ns.map V.int)->PU P w H s₁.heap->(∀b,H b≠none->b=a∨∃q,H b=some (.tbl q)/\(dZ K).lookup b=some q)->(∀b,H b≠none->K.lookup b=none)->PY K H ->
   codeAny (model P w) callerA (.call (.ref fa) ⟨[.ref a],[]⟩) (λr s'=>r=.ok (.ret (.bool true))/\OldK s₁.heap s'.heap/\s'.os=s₁.os/\AllBare s'.gens) s₁:=by
  intro H hO hS hok hA hK hT;have base_of:∀{b:Addr}{o:Obj},s₁.heap.get? b=some o->H b=none->(Ea s₁.heap H).get? b=some o:=λe n=>Eb e n
  have noB:∀{b:Addr}{o:Obj},s₁.heap.get? b=some o->(∀us n,o.data≠.seq us n)->(∀us,o.data≠.fields us)->H b=none:=λ{b o} e d1 d2=>by
   cases q:H b with
   |none=>rfl
   | some u =>
    rcases hA b (by rw[q];simp)with e' | ⟨z,_,e'⟩
    . subst e';rw[ha]at e;cases e;exact absurd rfl (d1 _ _)
    . rw[(tabAt e').2.1]at e;cases e;exact absurd rfl (d2 _)
  have noA:∀{b:Addr}{o:Obj}{es:Array DictEntry}{ep:Nat},s₁.heap.get? b=some o->o.data=.dict es ep->H b=none:=λ{b o es ep} e d =>
   noB e (λus n z=>by rw[d]at z;cases z) λus z=>by rw[d]at z;cases z
  have nsK:∀{b:Addr}{m:Str->Option Value},s₁.heap.Ns b m->(Ea s₁.heap H).Ns b m:=λ{b m} ⟨o,es,ep,e,d,r⟩=>⟨o,es,ep,base_of e (noA e d),d,r⟩
  have hKb:K.In (Ea s₁.heap H):=λb o e=>base_of (KX b o e) (by
   cases q:H b with
   |none=>rfl
   |some u=>rw[hK b (by rw[q];simp)]at e;cases e)
  have hM:Mod K mg (Ea s₁.heap H):=⟨hKb,nsK hns,⟨mb,nsK hb,hbb⟩,let ⟨mc,h1,h2⟩:=hlim;⟨mc,nsK h1,h2⟩,let ⟨mm,h1⟩:=hsys;⟨mm,nsK h1⟩,by
   obtain⟨bm,ob,b1,b2,b3,b4,b5,b6⟩:=hbm
   exact⟨bm,ob,b1,b2,base_of b3 (noB b3 (λus n z=>by rw[b6]at z;cases z) λus z=>by rw[b6]at z;cases z),b4,b5,b6⟩,λx hx c P e=>by
   obtain⟨⟨o,vs,file,tf,flags,tg,QE,text,tt,e1,r⟩,_⟩:=htb x hx c P e
   exact⟨o,vs,file,tf,flags,tg,QE,text,tt,base_of e1 (by
    cases q:H c with
    |none=>rfl
    |some u=>exact absurd (hK c (by rw[q];simp)) (Ar e)),r⟩⟩
  have e0:Bx P w K mg (Ea s₁.heap H) callerA [] s₁ H:=⟨rfl,hM,λb o e=>Hf e,Nat.le_of_eq (Bk _ _),trivial,λb hb=>absurd (show b∈([]:List Addr)from hb) v6,hok,.of_eq hg,hT⟩;refine V8 ((F _ hKb (nsK hns)).run callerA [] s₁ H ⟨[.ref a],[]⟩ [.ref a] [.ref a] _ _ hr e0 (hbind s₁ (.ref a)) (.cons rfl .nil) (hsp H hO hS)) λr s' h=>?_
  cases r with
  |error e=>exact(hCX H e s' h).elim
  | ok fl =>
   cases fl with
   |next=>exact False.elim h
   |brk=>exact False.elim h
   |cont=>exact False.elim h
   | ret u =>
    obtain⟨v,H',os,bare,un,hok',r',q⟩:=h;have q':v=.bl true:=q;subst q';obtain rfl:u=Value.bool true:=r'
    have fin:∀b o,s₁.heap.get? b=some o->s'.heap.get? b=some o∨(PySem.isCodeTable s₁.heap b/\o=W.tabObj #[]/\∃ps,s'.heap.get? b=some (W.tabObj ps)):=λb o e=>by
     cases q:H b with
     |none=>exact .inl (un.keep b o e q (by intro z;exact absurd (show b∈([]:List Addr)from z) v6) v6)
     | some u =>
      rcases hO b with z|⟨ob,xs,z⟩|⟨t,z⟩
      . rw[q]at z;cases z
      . have z2:=un.frzs b ob _ z;obtain⟨e1,_⟩:=hok b _ z;obtain⟨e2,_⟩:=hok' b _ z2;rw[e]at e1;cases e1;exact .inl e2
      .
       rcases hA b (by rw[q];simp)with e' | ⟨t2,_,e'⟩
       . subst e';obtain⟨ps,e1,_⟩:=hok b _ z;rw[ha]at e1;cases e1
       . obtain⟨ps,e2,_⟩:=hok' b _ (un.tbls b _ z);obtain⟨t1,t2,_⟩:=tabAt e';rw[e]at t2;cases t2;exact .inr ⟨t1,rfl,ps,e2⟩
    refine⟨rfl,⟨λb o e=>?_,λb o e=>?_⟩,os,bare⟩
    .
     rcases fin b o e with z|⟨t,rfl,ps,z⟩
     . exact .inl z
     . exact .inr (.inl ⟨t,rfl,#[],ps,rfl,by rw[Array.empty_append];exact z⟩)
    .
     rcases fin b o e with z|⟨t,_,ps,z⟩
     . exact⟨o,z⟩
     . exact⟨_,z⟩
 have tbsOf:∀{H:Hp},(∀b q,(dZ K).lookup b=some q->H b=some (.tbl q))->PY K H:=λ{H} h x hx c P e=>h P _ (jQ nd (List.mem_filterMap.mpr ⟨x,hx,by rw[e];rfl⟩));have okT:∀{H:Hp}{b:Addr}{q:Str},(dZ K).lookup b=some q->cR P w H s₁.heap b (.tbl q):=λ{H b q} e=>⟨#[],(tabAt e).2.1,trivial,λpos cv z=>by simp[codeAmong]at z⟩;have na:∀q,(dZ K).lookup a≠some q:=λq z=>by have:=(tabAt z).2.1;rw[ha]at this;cases this
 cases hk:K.lookup a with
 | some o =>
  have e:=KX a o hk;rw[ha]at e;cases e;refine core (λb=>((dZ K).lookup b).map .tbl) (λb=>?_) (.inr ⟨_,vs.toArray,_,hk,rfl,rfl,rfl,by rw[UB,lenV];exact hl,by simpa using rv⟩) (λb u z=>?_) (λb z=>?_) (λb z=>?_) (tbsOf λb q e=>by show Option.map _ _=_;rw[e];rfl)
  .
   show Option.map HO.tbl ((dZ K).lookup b)=none∨_
   cases q:(dZ K).lookup b with
   |none=>exact .inl rfl
   |some t=>exact .inr (.inr ⟨t,by show Option.map _ _=_;rw[q];rfl⟩)
  .
   have z':Option.map HO.tbl ((dZ K).lookup b)=some u:=z
   cases q:(dZ K).lookup b with
   |none=>rw[q]at z';cases z'
   |some t=>rw[q]at z';cases z';exact okT q
  .
   have z':Option.map HO.tbl ((dZ K).lookup b)≠none:=z
   cases q:(dZ K).lookup b with
   |none=>rw[q]at z';exact absurd rfl z'
   |some t=>exact .inr ⟨t,rfl,rfl⟩
  .
   have z':Option.map HO.tbl ((dZ K).lookup b)≠none:=z
   cases q:(dZ K).lookup b with
   |none=>rw[q]at z';exact absurd rfl z'
   |some t=>exact(tabAt q).2.2
 | none =>
  have at_a:∀ b,(if b=a then some (HO.frz {cls:=.type "list",data:=.seq vs.toArray} (.lst (ns.map V.int)))else((dZ K).lookup b).map .tbl)≠none->b=a∨∃ q,(dZ K).lookup b=some q:=λb z=>by
   by_cases hb:b=a
   . exact .inl hb
   .
    rw[if_neg hb]at z
    cases q:(dZ K).lookup b with
    |none=>rw[q]at z;exact absurd rfl z
    |some t=>exact .inr ⟨t,rfl⟩
  have tabA:∀ b q,(dZ K).lookup b=some q->(if b=a then some (HO.frz {cls:=.type "list",data:=.seq vs.toArray} (.lst (ns.map V.int)))else((dZ K).lookup b).map .tbl)=some (.tbl q):=λb q e=>by rw[if_neg (λ(z:b=a)=>na q (by rw[<- z];exact e)),e];rfl
  refine core (λb=>if b=a then some (.frz {cls:=.type "list",data:=.seq vs.toArray} (.lst (ns.map V.int)))else((dZ K).lookup b).map .tbl) (λb=>?_) (.inl (.inr ⟨{cls:=.type "list",data:=.seq vs.toArray},if_pos rfl⟩)) (λb u z=>?_) (λb z=>?_) (λb z=>?_) (tbsOf λb q e=>tabA b q e)
  .
   by_cases hb:b=a
   . exact .inr (.inl ⟨_,_,if_pos hb⟩)
   .
    cases q:(dZ K).lookup b with
    |none=>exact .inl (by show ite _ _ _=_;rw[if_neg hb,q];rfl)
    |some t=>exact .inr (.inr ⟨t,tabA b t q⟩)
  .
   by_cases hb:b=a
   . have z':=(if_pos hb).symm.trans z;cases z';subst hb;exact⟨ha,by rw[tu];exact hl,vs,_,rv,ha⟩
   .
    have z':=(if_neg hb).symm.trans z
    cases q:(dZ K).lookup b with
    |none=>rw[q]at z';cases z'
    |some t=>rw[q]at z';cases z';exact okT q
  .
   rcases at_a b z with e|⟨q,e⟩
   . exact .inl e
   . exact .inr ⟨q,tabA b q e,e⟩
  .
   rcases at_a b z with e|⟨q,e⟩
   . rw[e];exact hk
   . exact(tabAt e).2.2
theorem walk_of{l:W.OpenLaw}{n k:Nat}{q:Program}{loose:List Str}{XP:(Str->Option Value)->Heap->Prop}{YP:World->Heap->Prop}{d:DefRec}{K:Params->W.Frag}{CX:World->Qp}{sp:World->Sp}{x:Str}
  (hn:l.most=some n) (hq:importsNone q=true) (hn2:n<=sizeLine) (hdf:d.params.defaults=[]) (hr:g6 k callerA)
  (hY:∀(w:World)(h:Heap),YP w h->(K w.params).In h) (hto:∀w:World,tabsOk (K w.params)=true) (hrc:∀(w:World),∀x∈lamNames,W.tabIn (K w.params) x=none∨((recsOf q).find? λe=>e.name == x).isSome=true)
  (F:∀(w:World)(mg:Str->Option Value)(fa:Addr)(h:Heap),(K w.params).In h->h.Ns mainGlobals mg->mg d.name=some (.ref fa) ->
   ∃fd:FuncData,(∀(s:Shared)(u:Value),BindsTo s fd ⟨[u],[]⟩ [(x,u)]) /\
    ∀base:Heap,(K w.params).In base->base.Ns mainGlobals mg->FnOk l.prog w (K w.params) mg base (CX w) k fa fd [x] (sp w))
  (hsp:∀(w:World)(H:Hp)(a:Addr)(ns:List Int),ns.length<=n->MZ H->Qa (K w.params) H a (ns.map V.int)->sp w [.ref a] H (λv _=>v=.bl true) λ_ _ _=>False)
  (hCX:∀(w:World)(H:Hp)(s:Shared)(e:Value)(s':Shared),CX w [] H s (λ_ _ _=>False) e s'->False) :
  W.WalkO q loose XP YP l.row.toRowW d [] (λf vs=>PySem.call f vs):=by
 refine Att.attach_call hn hdf λw s₀ s₁ mg mb fa o pm cd doc a vs ns G Y ho hd hcd hmg hobj hints kz hg=>?_;have KX:=hY w _ Y;obtain⟨fd,hb,hF⟩:=F w mg fa _ KX G.T.g hmg
 exact En KX G.T.g G.T.b G.T.builtins G.T.nolimit (let ⟨mm,h1,_⟩:=(G.T.seer hq).mods;⟨mm,h1⟩) (let ⟨bm,ob,b1,b2,b3,b4,b5,b6⟩:=G.T.bmain;⟨bm,ob,b1,b2,b3,b4,b5,b6⟩) (hto w) (λy hy c P e=>by
  rcases hrc w y hy with z|z
  . rw[z]at e;cases e
  .
   obtain⟨d',hd'⟩:=Option.isSome_iff_exists.mp z
   exact W.tab_of G.T KX hd' e) hg hobj hints (Uv kz hn2) hr hF hb (λH hO hS=>hsp w H a ns kz hO hS) λH e s'=>hCX w H s₁ e s'
noncomputable def jR(s:Stmt):Arguments:=match s with
 |.FunctionDef _ a _ _ _ _ _ _ _ _=>a
 |_=>{posonlyargs:=[],args:=[],vararg:=none,kwonlyargs:=[],kw_defaults:=[],kwarg:=none,defaults:=[] }
noncomputable def cL(s:Stmt):List Stmt:=match s with
 |.FunctionDef _ _ b _ _ _ _ _ _ _=>b
 |_=>[]
noncomputable def au(s:Stmt):Scope:=match s with
 |.FunctionDef _ _ _ _ _ _ sc _ _ _=>sc
 |_=>{kind:=.function,names:=[],isGenerator:=false,isCoroutine:=false}
noncomputable abbrev CX0:Qp:=λ_ _ _ _ _ _=>False
noncomputable abbrev E0:XK:=λ_ _ _=>False
theorem Hy{X:Cx}:yM CX0 X E0:=λ_ _ _ _ _ _ _ h=>h.elim
structure QF (K:W.Frag) (x qual:Str) (st:Stmt) (f:Addr) (fd:FuncData):Prop where
 ex:∃(oc:Value)(od:Option Addr)(kV doc pm:Value)(an:Option Addr)(cdv ct:Value)(osl:Array (Option Value)),
  fd=W.fnOf x qual (jR st) (cL st) (au st) .none kV doc pm an cdv ct/\K.lookup f=some ⟨oc,od,.func fd,osl⟩/\W.codeIn K cdv qual=true
 kp:W.keepIn K (.ref f)=true
section
variable{P:Program}{w:World}{K:W.Frag}{mg:Str->Option Value}{base:Heap}
theorem QF.ok{x qual:Str}{st:Stmt}{f:Addr}{fd:FuncData}{N ps:List Str}{k:Nat}{sp:Sp}(F:QF K x qual st f fd)(S:aU N ps (au st))(len:∀vs H Q E,sp vs H Q E->vs.length=ps.length)
  (hbody:∀(cdv:Value)(A:Around)(outer:List Env)(s:Shared)(H:Hp)(vs:List V)(Q:VK)(E:XK),g6 k (A.deeper (envOfC qual (au st) s.heap.objs.size f cdv))->sp vs H Q E ->
   ∃t,P7 (D2 CX0 P w K mg base N qual (au st) f cdv A outer s H E).nox (cL st) t/\t {nx:=λ_ H'=>Q .non H',rt:=Q} (mX N vs) H):FnOk P w K mg base CX0 (k+1) f fd ps sp:=by
 obtain⟨oc,od,kV,doc,pm,an,cdv,ct,osl,rfl,lk,hcd⟩:=F.ex;refine Hr lk hcd S len λA outer s H vs Q E hr hsp=>?_;obtain⟨t,h,q⟩:=hbody cdv A outer s H vs Q E hr hsp;exact⟨t,h.nox,q⟩
theorem QF.binds{x qual:Str}{st:Stmt}{f:Addr}{fd:FuncData}{ps:List Str}(F:QF K x qual st f fd)
  (h:∀(kV doc pm:Value)(an:Option Addr)(cdv ct:Value)(us:List Value),us.length=ps.length->bindArgs (W.fnOf x qual (jR st) (cL st) (au st) .none kV doc pm an cdv ct) ⟨us,[]⟩=pure (ps.zip us)):mW K fd ps []:=by
 obtain⟨oc,od,kV,doc,pm,an,cdv,ct,osl,rfl,lk,hcd⟩:=F.ex;exact .all (h kV doc pm an cdv ct)
theorem pS{x qual:Str}{st:Stmt}{f:Addr}{oc:Value}{od an:Option Addr}{osl:Array (Option Value)}{kV doc pm cdv ct:Value}(l:K.lookup f=some ⟨oc,od,.func (W.fnOf x qual (jR st) (cL st) (au st) .none kV doc pm an cdv ct),osl⟩)
  (c:W.codeIn K cdv qual=true) (k:W.keepIn K (.ref f)=true):QF K x qual st f (W.fnOf x qual (jR st) (cL st) (au st) .none kV doc pm an cdv ct):=⟨⟨oc,od,kV,doc,pm,an,cdv,ct,osl,rfl,l,c⟩,k⟩
end
section
variable{X:Cx}
theorem pv(i:Nat){x:Str}{pos:Pos}(hN:X.N[i]?=some x:=by rfl)(hv:P0 X.env.scope x:=by first | exact Or.inl rfl | exact Or.inr (Or.inl rfl) | exact Or.inr (Or.inr rfl)) (hd:aab x:=by decide)
  (hcd:aac x:=by decide):PE X (.Name x pos) (Bc i):=dY hN hv hd hcd
end
def Ov(H H':Hp):Prop:=∀b o,H b=some o->H' b=some o
theorem Ov.free{H H':Hp}(e:Ov H H'){l:Addr}(h:H' l=Option.none):H l=Option.none:=by
 cases q:H l with
 |none=>rfl
 | some o =>
  rw[e l o q]at h;cases h
end L2
set_option maxHeartbeats 0
namespace L2
open PySem PySem.Spec
open Sem (wp)
theorem kP:Slot "function" "__getattribute__" "object.__getattribute__" :=
 .of (owner:="object") (n:="__getattribute__") (by rw[typeLookup_type,builtinLookup_eq_fast]; kernel_rfl) y_ y_ y_
  (by first|exact .inl y_|exact .inr y_) (by rw[isSubtype_type];kernel_rfl)
theorem xC:entryFor table "object.__getattribute__"=some Builtin.«object.__getattribute__»:=by
 first | exact F.entry_object_getattribute | exact entryFor_alias (id':="object.__getattribute__") z_ (by first | rfl | decide +kernel) y_ z_ | kernel_rfl
theorem Au(a b:Value):argsOk "object.__getattribute__" ⟨[a,b],[]⟩:=by
 first|exact F.args_object_getattribute_2 a b|(unfold argsOk;kernel_rfl)
theorem xD:typeLookup (.type "function") "__class__"=pure (some (.builtin "object.__class__")):=by rw[typeLookup_type,builtinLookup_eq_fast]; kernel_rfl
theorem mY:isSubtype (.type "function") (.type (".".intercalate ("object.__class__".cutAt '.').dropLast))=pure true:=by rw[F.owner_object_class,isSubtype_type];kernel_rfl
section
variable{prog:Program}{w:World}{A:Around}{E:Value->Shared->Prop}{h:Heap}{g:Array GenState}{d:Drawn}{t:Nat}{os:OsState}{a:Addr}{o:Obj}
theorem vI{R:Result->Shared->Prop}(hx:h.get? a=some o) (hc:o.cls=.type "function") (hq:R (.ok (.ret (.type "function"))) ⟨h,g,d,t,os⟩) :
  codeAny (model prog w) A (.call (.builtin "getset_descriptor.__get__") ⟨[.builtin "object.__class__",.ref a,.type "function"],[]⟩) R ⟨h,g,d,t,os⟩:=by
 have hT:(⟨h,g,d,t,os⟩:Shared).TypeIs (.ref a) "function":=⟨_,hx,hc⟩;have hT5:(⟨h,g,d,t,os⟩:Shared).TypeIs (.builtin "object.__class__") "getset_descriptor":=F.typeOf_object_class;have f8:=mY;refine VE F.slot_gs_get.plain F.entry_gs_get (F.slot_gs_get.check _ _ _ _ _ _ _ _ hT5 (F.args_gs_get _ _ _) ?_)
 repeat (any_goals (first|assumption|wp_step))
 refine⟨Code.quiet_builtin _ y_,codeAny_builtin F.entry_object_class ?_⟩
 repeat (any_goals (first|assumption|wp_step))
theorem sr{tk:Tok}{Q:PySem.Fin->Shared->Prop}(hx:h.get? a=some o) (hc:o.cls=.type "function") (hq:Q (.done (.ret (.type "function"))) ⟨h,g,d,t,os⟩) :
  wpAny (model prog w) A (Builtin.«object.__getattribute__» ⟨[.ref a,.str "__class__" tk],[]⟩) Q E ⟨h,g,d,t,os⟩:=by
 have hT:(⟨h,g,d,t,os⟩:Shared).TypeIs (.ref a) "function":=⟨_,hx,hc⟩;have hT5:(⟨h,g,d,t,os⟩:Shared).TypeIs (.builtin "object.__class__") "getset_descriptor":=F.typeOf_object_class;have f4:=xD;have f5:=F.typeOf_object_class;have f6:=F.slot_gs_get.lookup;have f7:=F.slot_gs_set.lookup
 repeat (any_goals (first|assumption|wp_step))
 refine vI hx hc ?_
 repeat (any_goals (first|assumption|wp_step))
theorem ug{tk:Tok}{R:Result->Shared->Prop}(hx:h.get? a=some o) (hc:o.cls=.type "function") (hq:R (.ok (.ret (.type "function"))) ⟨h,g,d,t,os⟩) :
  codeAny (model prog w) A (.call (.builtin "object.__getattribute__") ⟨[.ref a,.str "__class__" tk],[]⟩) R ⟨h,g,d,t,os⟩ :=
 VE kP.plain xC (kP.check _ _ _ _ _ _ _ _ (show(⟨h,g,d,t,os⟩:Shared).TypeIs (.ref a) "function" from⟨_,hx,hc⟩) (Au _ _) (sr hx hc hq))
theorem xE{tk:Tok}{Q:Value->Shared->Prop}(hx:h.get? a=some o) (hc:o.cls=.type "function") (hq:Q (.type "function") ⟨h,g,d,t,os⟩):wpAny (model prog w) A (getAttrBy (.ref a) (.str "__class__" tk) false) Q E ⟨h,g,d,t,os⟩:=by
 have hT:(⟨h,g,d,t,os⟩:Shared).TypeIs (.ref a) "function":=⟨_,hx,hc⟩;have f2:=kP.lookup;have f3:=kP.bind (.ref a)
 repeat (any_goals (first|assumption|wp_step))
 refine ug hx hc ?_
 repeat (any_goals (first|assumption|wp_step))
theorem uh{Q:Option Value->Shared->Prop}(hx:h.get? a=some o) (hc:o.cls=.type "function") (hq:Q (some (.type "function")) ⟨h,g,d,t+1,os⟩):wpAny (model prog w) A (getAttr? (.ref a) "__class__") Q E ⟨h,g,d,t,os⟩:=by
 unfold getAttr? getAttrBy?
 repeat (any_goals (first|assumption|with_reducible apply xE hx hc|wp_step))
end
theorem ui{K:W.Frag}{a:Addr}:W.KitX K (.ref a) (.type "function") (W.KitAt a "function"):=W.kitx_of W.kitAt_ty (λ{_ _ _ _ _ s} p k=>by obtain⟨h,g,d,t,os⟩:=s; obtain⟨o,h1,h2⟩:=p; exact uh h1 h2 k)
end L2
namespace L2
open PySem PySem.Spec PyProof.Rows
inductive D where
 |non|bl (b:Bool)|int (i:Int)|str (x:Str)|tup (xs:List D)|lst (xs:List D)|dct (n:Nat)|exc (c:Str) (ns:List Str) (xs:List D)|fn (x:Str) (d:D)|dk (ks:List PQ) (vs:List D)|gf (x:Str)
def QG(K:W.Frag)(H:Hp)(a:Addr)(xs:List V):Prop :=
 (∃o,H a=some (.frz o (.lst xs))) ∨
  ∃(o:Obj)(its:Array Value)(n:Nat),K.lookup a=some o/\o.cls=.type "list"/\o.dict=none/\o.data=.seq its n/\its.size<=sizeLine/\bT xs its.toList
theorem QG.l{K:W.Frag}{H:Hp}{a:Addr}{xs:List V}(h:QG K H a xs):Qa K H a xs:=by
 rcases h with⟨o,h⟩|h
 . exact .inl (.inr ⟨o,h⟩)
 . exact .inr h
def Eo:HO->Prop
 |.frz _ u=>Eo u
 |.ins _ _ _=>False
 |_=>True
noncomputable def Bd(C L:Addr):List Value:=(if C=L then[]else[.ref C])++[.ref L,.type "ValueError",.type "Exception",.type "BaseException",.type "object"]
noncomputable def jS(K:W.Frag)(c:Str)(C:Addr):Bool:=match W.clsIn K C,W.nsIn K mainGlobals "LoadError" with
 | some cd,some (some (.ref L))=>cd.name == c && cd.hasDict && cd.mro == Bd C L && (W.clsIn K L).any (λk=>k.name == ("LoadError" : Str)) &&
  W.findIn K (.ref C) "__getattribute__" == some (some (.builtin "BaseException.__getattribute__")) && W.findIn K (.ref C) "__getattr__" == some none && W.findIn K (.ref C) "__class__" == some (some (.builtin "object.__class__")) &&
  W.findIn K (.ref C) "__setattr__" == some (some (.builtin "object.__setattr__")) && W.typeIn K (.ref C) == some (.type "type") && W.nsIn K mainGlobals c == some (some (.ref C))
 |_,_=>false
noncomputable def BH:List Stmt->Option (Arguments×Expr×Scope×Pos)
 |[]=>none
 | st::r=>match BH r with
  |some l=>some l
  | none=>match st with
   | .Expr (.Call _ args _ _) _=>(match args.getLast? with
    |some (.Lambda p b sc pos)=>some (p,b,sc,pos)
    |_=>none)
   | .Return (some (.Call _ _ kws _)) _=>(match kws.getLast? with
    |some ⟨_,.Lambda p b sc pos,_⟩=>some (p,b,sc,pos)
    |_=>none)
   |_=>none
noncomputable def Av(K:W.Frag)(x:Str):Option (Arguments×Expr×Scope×Pos):=match W.nsIn K mainGlobals x with
 | some (some (.ref f))=>(match K.lookup f with
  | some ⟨_,_,.func fd,_⟩=>(match fd.body with
   |.stmts b=>BH b
   |_=>none)
  |_=>none)
 |_=>none
def XF(H:Hp)(dx:Option Addr)(ns:List Str)(vs:List V):Prop:=(ns=[]/\vs=[]/\dx=none)∨∃d od,dx=some d/\H d=some (.frz od (.xd (ns.zip vs)))/\ns.length=vs.length
mutual
inductive QH (K:W.Frag) (H:Hp):V->D->Prop where
 |non:QH K H .non .non
 |bl (b:Bool):QH K H (.bl b) (.bl b)
 |int (i:Int):QH K H (.int i) (.int i)
 |str (x:Str):QH K H (.str x) (.str x)
 |tup {a:Addr} {vs:List V} {ds:List D} (h:Qb K H a vs) (r:bC K H vs ds):QH K H (.ref a) (.tup ds)
 |lst {a:Addr} {vs:List V} {ds:List D} (h:QG K H a vs) (r:bC K H vs ds):QH K H (.ref a) (.lst ds)
 |dct {a:Addr} {o:Obj} {kvs:List (PQ×V)} (h:H a=some (.frz o (.dK kvs))):QH K H (.ref a) (.dct kvs.length)
 |exc {a:Addr} {o:Obj} {u:HO} {c:Str} {C:Addr} {ns:List Str} {vs:List V} {ds:List D} (h:H a=some (.frz o u)) (hv:Eo u) (hc:o.cls=.ref C) (hn:W.notCls o=true) (hs:jS K c C=true) (hq:∀f∈ns,W.findIn K (.ref C) f=some none) (hf:XF H o.dict ns vs) (r:bC K H vs ds):QH K H (.ref a) (.exc c ns ds)
 | fn {f c c':Addr} {oc oq:Obj} {x y:Str} {pr:Arguments} {bd:Expr} {sc:Scope} {pos:Pos} {pm ctv u:Value} {v:V} {d:D} (hl:Av K x=some (pr,bd,sc,pos)) (hf:H f=some (.frz (W.kla_obj "<lambda>" (sk x) pr bd sc [(y,c)] pm c' ctv) (.own f)))
  (hq:H c'=some (.frz oq (.own c'))) (hc:ly oq (sk x)) (hz:H c=some (.frz oc (.own c))) (hd:oc.data=.cell (some u)) (hv:bS v u) (hm:(y,NameKind.free)∈sc.names) (r:QH K H v d):QH K H (.ref f) (.fn x d)
 |dk {a:Addr} {o:Obj} {kvs:List (PQ×V)} {ds:List D} (h:H a=some (.frz o (.dK kvs))) (r:bC K H (kvs.map (·.2)) ds):QH K H (.ref a) (.dk (kvs.map (·.1)) ds)
 |gf {a:Addr} {x:Str} {fd:FuncData} (h:W.nsIn K mainGlobals x=some (some (.ref a))) (ho:K.lookup a=some ⟨.type "function",none,.func fd,#[]⟩) (hk:W.keepIn K (.ref a)=true):QH K H (.ref a) (.gf x)
inductive bC (K:W.Frag) (H:Hp):List V->List D->Prop where
 |nil:bC K H [] []
 |cons {v:V} {d:D} {vs:List V} {ds:List D} (h:QH K H v d) (t:bC K H vs ds):bC K H (v::vs) (d::ds)
end
theorem QH.inv_non{K:W.Frag}{H:Hp}{v:V}(h:QH K H v .non):v=.non:=by cases h;rfl
theorem QH.inv_bl{K:W.Frag}{H:Hp}{v:V}{b:Bool}(h:QH K H v (.bl b)):v=.bl b:=by cases h;rfl
theorem QH.inv_int{K:W.Frag}{H:Hp}{v:V}{i:Int}(h:QH K H v (.int i)):v=.int i:=by cases h;rfl
theorem QH.inv_str{K:W.Frag}{H:Hp}{v:V}{x:Str}(h:QH K H v (.str x)):v=.str x:=by cases h;rfl
theorem QH.inv_tup{K:W.Frag}{H:Hp}{v:V}{ds:List D}(h:QH K H v (.tup ds)):∃a vs,v=.ref a/\Qb K H a vs/\bC K H vs ds:=by cases h;exact⟨_,_,rfl,‹_›,‹_›⟩
theorem QH.inv_lst{K:W.Frag}{H:Hp}{v:V}{ds:List D}(h:QH K H v (.lst ds)):∃a vs,v=.ref a/\QG K H a vs/\bC K H vs ds:=by cases h;exact⟨_,_,rfl,‹_›,‹_›⟩
def M0:HO->Prop
 |.tup _=>True
 |.frz _ _=>True
 |.tbl _=>True
 |_=>False
def su(H H':Hp):Prop:=∀b o,M0 o->H b=some o->H' b=some o
theorem Qb.pres{K:W.Frag}{H H':Hp}{a:Addr}{xs:List V}(p:su H H')(h:Qb K H a xs):Qb K H' a xs:=by
 rcases h with(h|⟨o,h⟩)|h
 . exact .inl (.inl (p _ _ True.intro h))
 . exact .inl (.inr ⟨o,p _ _ True.intro h⟩)
 . exact .inr h
theorem QG.pres{K:W.Frag}{H H':Hp}{a:Addr}{xs:List V}(p:su H H')(h:QG K H a xs):QG K H' a xs:=by
 rcases h with⟨o,h⟩|h
 . exact .inl ⟨o,p _ _ True.intro h⟩
 . exact .inr h
theorem XF.pres{H H':Hp}(p:su H H'){dx:Option Addr}{ns:List Str}{vs:List V}(h:XF H dx ns vs):XF H' dx ns vs:=by
 rcases h with h|⟨d,od,e,h,l⟩
 . exact .inl h
 . exact .inr ⟨d,od,e,p _ _ True.intro h,l⟩
def QI(o:HO):Prop:=M0 o/\Eo o
theorem mZ(o:Obj)(b:Addr):QI (.frz o (.own b)):=⟨True.intro,True.intro⟩
theorem xF(xs:List V):QI (.tup xs):=⟨True.intro,True.intro⟩
section
variable{K:W.Frag}{H H':Hp}
theorem Qb.mapv(p:∀b o,QI o->H b=some o->H' b=some o){a:Addr}{xs:List V}(h:Qb K H a xs):Qb K H' a xs:=by
 rcases h with(h|⟨o,h⟩)|h
 . exact .inl (.inl (p _ _ (xF _) h))
 . exact .inl (.inr ⟨o,p _ _ ⟨True.intro,True.intro⟩ h⟩)
 . exact .inr h
theorem QG.mapv(p:∀b o,QI o->H b=some o->H' b=some o){a:Addr}{xs:List V}(h:QG K H a xs):QG K H' a xs:=by
 rcases h with⟨o,h⟩|h
 . exact .inl ⟨o,p _ _ ⟨True.intro,True.intro⟩ h⟩
 . exact .inr h
mutual
theorem QH.mapv(p:∀b o,QI o->H b=some o->H' b=some o):∀{v:V}{d:D},QH K H v d->QH K H' v d
 |_,_,.non=>.non
 |_,_,.bl b=>.bl b
 |_,_,.int i=>.int i
 |_,_,.str x=>.str x
 |_,_,.tup h r=>.tup (h.mapv p) (bC.mapv p r)
 |_,_,.lst h r=>.lst (h.mapv p) (bC.mapv p r)
 |_,_,.dct h=>.dct (p _ _ ⟨True.intro,True.intro⟩ h)
 | _,_,.exc h hv hc hn hs hq hf r=>.exc (p _ _ ⟨True.intro,hv⟩ h) hv hc hn hs hq (by
   rcases hf with hf|⟨d,od,e,h,l⟩
   .
    exact .inl hf
   .
    exact .inr ⟨d,od,e,p _ _ ⟨True.intro,True.intro⟩ h,l⟩) (bC.mapv p r)
 |_,_,.fn hl hf hq hc hz hd hv hm r=>.fn hl (p _ _ (mZ _ _) hf) (p _ _ (mZ _ _) hq) hc (p _ _ (mZ _ _) hz) hd hv hm (QH.mapv p r)
 |_,_,.dk h r=>.dk (p _ _ ⟨True.intro,True.intro⟩ h) (bC.mapv p r)
 |_,_,.gf h ho hk=>.gf h ho hk
theorem bC.mapv(p:∀b o,QI o->H b=some o->H' b=some o):∀{vs:List V}{ds:List D},bC K H vs ds->bC K H' vs ds
 |_,_,.nil=>.nil
 |_,_,.cons h t=>.cons (QH.mapv p h) (bC.mapv p t)
end
theorem QH.pres(p:su H H'){v:V}{d:D}(r:QH K H v d):QH K H' v d:=r.mapv λb o z e=>p b o z.1 e
theorem bC.pres(p:su H H'){vs:List V}{ds:List D}(r:bC K H vs ds):bC K H' vs ds:=r.mapv λb o z e=>p b o z.1 e
end
theorem bC.length{K:W.Frag}{H:Hp}:∀{vs:List V}{ds:List D},bC K H vs ds->vs.length=ds.length
 |_,_,.nil=>rfl
 |_,_,.cons _ t=>by simp[bC.length t]
theorem bC.get{K:W.Frag}{H:Hp}:∀{vs:List V}{ds:List D}{i:Nat}{d:D},bC K H vs ds->ds[i]?=some d->∃v,vs[i]?=some v/\QH K H v d
 |_,_,_,_,.nil,e=>by simp at e
 |_,_,0,_,.cons h _,e=>by simp at e;subst e;exact⟨_,rfl,h⟩
 | _,_,i+1,d,.cons _ t,e=>by obtain⟨v,h1,h2⟩:=bC.get (i:=i) (d:=d) t (by simpa using e);exact⟨v,by simpa using h1,h2⟩
theorem bC.set{K:W.Frag}{H:Hp}{v:V}{d:D}(r:QH K H v d):∀{vs:List V}{ds:List D}(i:Nat),bC K H vs ds->bC K H (vs.set i v) (ds.set i d)
 |_,_,_,.nil=>.nil
 |_,_,0,.cons _ t=>.cons r t
 |_,_,i+1,.cons h t=>.cons h (bC.set r i t)
theorem bC.append{K:W.Frag}{H:Hp}:∀{vs us:List V}{ds es:List D},bC K H vs ds->bC K H us es->bC K H (vs++us) (ds++es)
 |_,_,_,_,.nil,s=>s
 |_,_,_,_,.cons h t,s=>.cons h (bC.append t s)
theorem bC.take{K:W.Frag}{H:Hp}:∀{vs:List V}{ds:List D}(n:Nat),bC K H vs ds->bC K H (vs.take n) (ds.take n)
 |_,_,0,_=>.nil
 |_,_,_+1,.nil=>.nil
 |_,_,n+1,.cons h t=>.cons h (bC.take n t)
theorem bC.drop{K:W.Frag}{H:Hp}:∀{vs:List V}{ds:List D}(n:Nat),bC K H vs ds->bC K H (vs.drop n) (ds.drop n)
 |_,_,0,r=>r
 |_,_,_+1,.nil=>.nil
 |_,_,n+1,.cons _ t=>bC.drop n t
theorem bC.reverse{K:W.Frag}{H:Hp}:∀{vs:List V}{ds:List D},bC K H vs ds->bC K H vs.reverse ds.reverse
 |_,_,.nil=>.nil
 | _,_,.cons h t=>by rw[List.reverse_cons,List.reverse_cons];exact(bC.reverse t).append (.cons h .nil)
inductive L where
 |un|d (x:D)|own (a:Addr) (xs:List D)|bx (k:Option Addr) (ls:List L)|dic (a:Addr) (kvs:List (PQ×D))
noncomputable abbrev Ev:=List L
mutual
noncomputable def bh:L->List Addr
 |.un=>[]
 |.d _=>[]
 |.own a _=>[a]
 |.bx k ls=>k.toList++d3 ls
 |.dic a _=>[a]
noncomputable def d3:List L->List Addr
 |[]=>[]
 |l::ls=>bh l++d3 ls
end
noncomputable def owns(Z:Ev):List Addr:=Z.flatMap bh
theorem cT:∀ls:List L,d3 ls=owns ls
 |[]=>rfl
 |l::ls=>by rw[d3,cT ls];rfl
mutual
def a9(K:W.Frag)(H:Hp)(s:Option V):L->Prop
 |.un=>True
 |.d x=>∃v,s=some v/\QH K H v x
 |.own a xs=>s=some (.ref a)/\∃vs,H a=some (.lst vs)/\bC K H vs xs
 |.bx none ls=>∃a vs,s=some (.ref a)/\Qb K H a vs/\bY K H vs ls
 |.bx (some a) ls=>s=some (.ref a)/\∃vs,H a=some (.lst vs)/\bY K H vs ls
 |.dic a kvs=>s=some (.ref a)/\∃vs,H a=some (.dK vs)/\Paired (λ(p:PQ×V) (q:PQ×D)=>p.1=q.1/\QH K H p.2 q.2) vs kvs
def bY(K:W.Frag)(H:Hp)(vs:List V):List L->Prop
 |[]=>vs=[]
 |l::ls=>∃v us,vs=v::us/\a9 K H (some v) l/\bY K H us ls
end
mutual
theorem a9.pres{K:W.Frag}{H H':Hp}(p:su H H'):∀{s:Option V}(l:L),(∀a∈bh l,H' a=H a)->a9 K H s l->a9 K H' s l
 |_,.un,_,_=>by simp only[a9]
 | _,.d x,_,h=>by
  simp only[a9]at h ⊢
  obtain⟨v,e,r⟩:=h
  exact⟨v,e,r.pres p⟩
 | _,.own a xs,q,h=>by
  simp only[a9]at h ⊢
  obtain⟨e,vs,ha,r⟩:=h
  exact⟨e,vs,(q a (by simp[bh])).trans ha,r.pres p⟩
 | _,.bx none ls,q,h=>by
  simp only[a9]at h ⊢
  obtain⟨a,vs,e,ha,r⟩:=h
  exact⟨a,vs,e,ha.pres p,bY.pres p ls (λb hb=>q b (by simp[bh,hb])) r⟩
 | _,.bx (some a) ls,q,h=>by
  simp only[a9]at h ⊢
  obtain⟨e,vs,ha,r⟩:=h
  exact⟨e,vs,(q a (by simp[bh])).trans ha,bY.pres p ls (λb hb=>q b (by simp[bh,hb])) r⟩
 | _,.dic a kvs,q,h=>by
  simp only[a9]at h ⊢
  obtain⟨e,vs,ha,r⟩:=h
  exact⟨e,vs,(q a (by simp[bh])).trans ha,Paired.mapP r λ_ _ z=>⟨z.1,z.2.pres p⟩⟩
theorem bY.pres{K:W.Frag}{H H':Hp}(p:su H H'):∀{vs:List V}(ls:List L),(∀a∈d3 ls,H' a=H a)->bY K H vs ls->bY K H' vs ls
 |_,[],_,h=>by simpa only[bY]using h
 | _,l::ls,q,h=>by
  simp only[bY]at h ⊢
  obtain⟨v,us,e,h1,h2⟩:=h
  exact⟨v,us,e,a9.pres p l (λb hb=>q b (by simp[d3,hb])) h1,bY.pres p ls (λb hb=>q b (by simp[d3,hb])) h2⟩
end
def Hz:HO->Prop
 |.lst _=>True
 |.dK _=>True
 |_=>False
theorem Hz.no{o:HO}(h:Hz o)(p:M0 o):False:=by cases o<;>first|exact h|exact p
mutual
theorem a9.lstAt{K:W.Frag}{H:Hp}:∀{s:Option V}(l:L),a9 K H s l->∀a∈bh l,∃o,H a=some o/\Hz o
 |_,.un,_,a,ha=>by simp[bh]at ha
 |_,.d x,_,a,ha=>by simp[bh]at ha
 | _,.own b xs,h,a,ha=>by
  simp only[a9]at h
  have e:a=b:=by simpa[bh]using ha
  subst e
  obtain⟨_,vs,q,_⟩:=h
  exact⟨_,q,True.intro⟩
 | _,.bx none ls,h,a,ha=>by
  simp only[a9]at h
  obtain⟨b,vs,e,_,r⟩:=h
  exact bY.lstAt ls r a (by simpa[bh]using ha)
 | _,.bx (some b) ls,h,a,ha=>by
  simp only[a9]at h
  obtain⟨e,vs,q,r⟩:=h
  rcases(by simpa[bh]using ha:a=b∨a∈d3 ls)with z|z
  .
   subst z;exact⟨_,q,True.intro⟩
  .
   exact bY.lstAt ls r a z
 | _,.dic b xs,h,a,ha=>by
  simp only[a9]at h
  have e:a=b:=by simpa[bh]using ha
  subst e
  obtain⟨_,vs,q,_⟩:=h
  exact⟨_,q,True.intro⟩
theorem bY.lstAt{K:W.Frag}{H:Hp}:∀{vs:List V}(ls:List L),bY K H vs ls->∀a∈d3 ls,∃o,H a=some o/\Hz o
 |_,[],_,a,ha=>by simp[d3]at ha
 | _,l::ls,h,a,ha=>by
  simp only[bY]at h
  obtain⟨v,us,e,h1,h2⟩:=h
  rcases(by simpa[d3]using ha:a∈bh l∨a∈d3 ls)with z|z
  .
   exact a9.lstAt l h1 a z
  .
   exact bY.lstAt ls h2 a z
end
structure aC (K:W.Frag) (Pr H:Hp) (σ:St) (Z:Ev):Prop where
 sub:∀b o,Pr b=some o->H b=some o
 nd:(owns Z).Nodup
 off:∀a∈owns Z,Pr a=none
 sl:Paired (a9 K H) σ Z
theorem gp{Z:Ev}{a:Addr}:a∈owns Z↔∃l∈Z,a∈bh l:=by unfold owns;rw[List.mem_flatMap]
theorem xG{Z:Ev}{a:Addr}{xs:List D}(h:L.own a xs∈Z):a∈owns Z:=gp.mpr ⟨_,h,by simp[bh]⟩
theorem aH(a b:Ev):owns (a++b)=owns a++owns b:=List.flatMap_append
theorem Paired.mem2{α β:Type}{F:α->β->Prop}:∀{l1:List α}{l2:List β}{b:β},Paired F l1 l2->b∈l2->∃a,a∈l1/\F a b
 |_,_,_,.nil,h=>by simp at h
 | _,_,_,.cons r t,h=>by
  rcases Uo.mp h with rfl|h
  . exact⟨_,Ui,r⟩
  . obtain⟨a,h1,h2⟩:=Paired.mem2 t h;exact⟨a,Ud _ h1,h2⟩
theorem Paired.app{α β:Type}{F:α->β->Prop}:∀{a c:List α}{b d:List β},Paired F a b->Paired F c d->Paired F (a++c) (b++d)
 |_,_,_,_,.nil,s=>s
 |_,_,_,_,.cons r t,s=>.cons r (Paired.app t s)
theorem Paired.unapp{α β:Type}{F:α->β->Prop}:∀{a c:List α}{b d:List β},a.length=b.length->Paired F (a++c) (b++d)->Paired F a b/\Paired F c d
 |[],_,[],_,_,s=>⟨.nil,s⟩
 | x::a,_,y::b,_,hl,.cons r t=>by obtain⟨p,q⟩:=Paired.unapp (a:=a) (b:=b) (by simpa using hl) t;exact⟨.cons r p,q⟩
 |[],_,_::_,_,hl,_=>by simp at hl
 |_::_,_,[],_,hl,_=>by simp at hl
theorem Paired.get2{α β:Type}{F:α->β->Prop}:∀{l1:List α}{l2:List β}{i:Nat}{b:β},Paired F l1 l2->l2[i]?=some b->∃a,l1[i]?=some a/\F a b
 |_,_,_,_,.nil,e=>by simp at e
 |_,_,0,_,.cons h _,e=>by simp at e;subst e;exact⟨_,rfl,h⟩
 | _,_,i+1,d,.cons _ t,e=>by obtain⟨v,h1,h2⟩:=Paired.get2 (i:=i) (b:=d) t (by simpa using e);exact⟨v,by simpa using h1,h2⟩
theorem Paired.set2{α β:Type}{F:α->β->Prop}{a:α}{b:β}(r:F a b):∀{l1:List α}{l2:List β}(i:Nat),Paired F l1 l2->Paired F (l1.set i a) (l2.set i b)
 |_,_,_,.nil=>.nil
 |_,_,0,.cons _ t=>.cons r t
 |_,_,i+1,.cons h t=>.cons h (Paired.set2 r i t)
theorem Paired.impMem{α β:Type}{F G:α->β->Prop}:∀{l1:List α}{l2:List β},Paired F l1 l2->(∀b∈l2,∀a,F a b->G a b)->Paired G l1 l2
 |_,_,.nil,_=>.nil
 |_,_,.cons r t,h=>.cons (h _ Ui _ r) (Paired.impMem t λb hb=>h b (Ud _ hb))
theorem Paired.set_r{α β:Type}{F:α->β->Prop}{b:β}:∀{l1:List α}{l2:List β}(i:Nat),Paired F l1 l2->(∀a,l1[i]?=some a->F a b)->Paired F l1 (l2.set i b)
 |_,_,_,.nil,_=>.nil
 |_,_,0,.cons _ t,h=>.cons (h _ rfl) t
 |_,_,i+1,.cons q t,h=>.cons q (Paired.set_r i t λa e=>h a (by simpa using e))
section
variable{K:W.Frag}{Pr H H':Hp}{σ τ w σ':St}{Z μ lam Z':Ev}
theorem aC.len(E:aC K Pr H σ Z):σ.length=Z.length:=Paired.length E.sl
noncomputable def bD(H:Hp)(Z:Ev):Hp:=λb=>if b∈owns Z then none else H b
theorem aC.at_own(E:aC K Pr H σ Z){a:Addr}(h:a∈owns Z):∃o,H a=some o/\Hz o:=by obtain⟨l,hx,ha⟩:=gp.mp h;obtain⟨s,_,q⟩:=Paired.mem2 E.sl hx;exact q.lstAt l a ha
theorem aC.wide(E:aC K Pr H σ Z):aC K (bD H Z) H σ Z :=
 ⟨λb o e=>by unfold bD at e;split at e;cases e;exact e,E.nd,λa h=>by unfold bD;rw[if_pos h],E.sl⟩
theorem aC.drop(E:aC K Pr H (τ++σ) (lam++Z))(hl:τ.length=lam.length):aC K Pr H σ Z :=
 ⟨E.sub,(UQ.mp (aH lam Z ▸ E.nd)).2.1,λa h=>E.off a (by rw[aH];exact UD _ h),(Paired.unapp hl E.sl).2⟩
theorem aC.left(E:aC K Pr H (τ++σ) (lam++Z))(hl:τ.length=lam.length):aC K Pr H τ lam :=
 ⟨E.sub,(UQ.mp (aH lam Z ▸ E.nd)).1,λa h=>E.off a (by rw[aH];exact Uz _ h),(Paired.unapp hl E.sl).1⟩
theorem uj{H H':Hp}{Z:Ev}{σ:St}{Pr:Hp}(E:aC K Pr H σ Z)(h:∀b o,bD H Z b=some o->H' b=some o):su H H':=λb o p e=>by refine h b o ?_;unfold bD;rw[if_neg,e];intro hm;obtain⟨u,e',m⟩:=E.at_own hm;rw[e]at e';cases e';exact m.no p
theorem aC.step(E:aC K Pr H (τ++σ) (lam++Z))(hl:τ.length=lam.length)(E':aC K (bD H Z) H' (w++σ') (μ++Z'))(hw:w.length=μ.length):aC K Pr H' (w++(τ++σ')) (μ++(lam++Z')):=by
 have Eσ:=E.drop hl;have p:su H H':=uj Eσ E'.sub;have dis:∀a∈owns lam,a∉owns Z:=λa h1 h2=>(UQ.mp (aH lam Z ▸ E.nd)).2.2 a h1 a h2 rfl;have at':∀a∈owns lam,bD H Z a=H a:=λa h=>by unfold bD;rw[if_neg (dis a h)]
 have some':∀a∈owns lam,∃o,H a=some o/\Hz o:=λa h=>E.at_own (by rw[aH];exact Uz _ h);have out:∀a∈owns lam,a∉owns (μ++Z'):=λa h h2=>by have z:=E'.off a h2;rw[at' a h]at z;obtain⟨vs,e,_⟩:=some' a h;rw[e]at z;cases z
 have s1:=(Paired.unapp hw E'.sl);have s2:=(Paired.unapp hl E.sl).1;refine⟨λb o e=>?_,?_,λa ha=>?_,Paired.app s1.1 (Paired.app ?_ s1.2)⟩
 . refine E'.sub b o ?_;unfold bD;rw[if_neg,E.sub b o e];intro hm;have z:=Eσ.off b hm;rw[e]at z;cases z
 .
  have n1:=E'.nd;rw[aH]at n1;rw[aH,aH];obtain⟨q1,q2,q3⟩:=UQ.mp n1;refine UQ.mpr ⟨q1,UQ.mpr ⟨(UQ.mp (aH lam Z ▸ E.nd)).1,q2,λa ha b hb=>?_⟩,λa ha b hb=>?_⟩
  . rintro rfl;exact out a ha (by rw[aH];exact UD _ hb)
  .
   rcases Ur.mp hb with hb|hb
   . rintro rfl;exact out a hb (by rw[aH];exact Uz _ ha)
   . exact q3 a ha b hb
 .
  rw[aH,aH]at ha
  have key:a∈owns (μ++Z')->Pr a=none:=λh=>by
   have z:=E'.off a h;unfold bD at z;by_cases hm:a∈owns Z
   . exact Eσ.off a hm
   .
    rw[if_neg hm]at z
    cases q:Pr a with
    |none=>rfl
    |some o=>rw[E.sub a o q]at z;cases z
  rcases Ur.mp ha with h|h
  . exact key (by rw[aH];exact Uz _ h)
  .
   rcases Ur.mp h with h|h
   . exact E.off a (by rw[aH];exact Uz _ h)
   . exact key (by rw[aH];exact UD _ h)
 .
  have:∀l∈lam,∀s,a9 K H s l->a9 K H' s l:=λl hlm s h=>h.pres p l λa e=>by have ha:a∈owns lam:=gp.mpr ⟨l,hlm,e⟩;obtain⟨vs,e,_⟩:=some' a ha;rw[E'.sub a _ ((at' a ha).trans e),e]
  exact Paired.impMem s2 this
end
end L2
namespace L2
open PySem PySem.Spec PyProof.Rows PySem.W
structure qk (K:Frag) (c:Str) (C L:Addr) (cd:ClassData):Prop where
 cls:clsIn K C=some cd
 load:nsIn K mainGlobals "LoadError"=some (some (.ref L))
 name:cd.name=c
 dct:cd.hasDict=true
 mro:cd.mro=Bd C L
 lname:∃ k,clsIn K L=some k/\k.name=("LoadError" : Str)
 ga:findIn K (.ref C) "__getattribute__"=some (some (.builtin "BaseException.__getattribute__"))
 gx:findIn K (.ref C) "__getattr__"=some none
 gc:findIn K (.ref C) "__class__"=some (some (.builtin "object.__class__"))
 sa:findIn K (.ref C) "__setattr__"=some (some (.builtin "object.__setattr__"))
 ty:typeIn K (.ref C)=some (.type "type")
 own:nsIn K mainGlobals c=some (some (.ref C))
theorem d4{K:Frag}{c:Str}{C:Addr}(h:jS K c C=true):∃L cd,qk K c C L cd:=by
 unfold jS at h;split at h
 . rename_i cd L e1 e2;simp only[UE,Wj]at h;obtain⟨⟨⟨⟨⟨⟨⟨⟨⟨h1,h2⟩,h3⟩,h4⟩,h5⟩,h6⟩,h7⟩,h8⟩,h9⟩,h10⟩:=h;obtain⟨k,hk,hn⟩:=any_some h4;exact⟨L,cd,e1,e2,h1,h2,h3,⟨k,hk,Wj.mp hn⟩,h5,h6,h7,h8,h9,h10⟩
 . cases h
section
variable{K:Frag}{c:Str}{C L:Addr}{cd:ClassData}
theorem xH(C L:Addr):Bd C L=[.ref C,.ref L,.type "ValueError",.type "Exception",.type "BaseException",.type "object"]∨Bd C L=[.ref L,.type "ValueError",.type "Exception",.type "BaseException",.type "object"]/\C=L:=by
 by_cases h:C=L
 . exact .inr ⟨by unfold Bd;rw[if_pos h];rfl,h⟩
 . exact .inl (by unfold Bd;rw[if_neg h];rfl)
theorem Ep(C L:Addr)(b:Value):(Bd C L).contains b=([.ref C,.ref L,.type "ValueError",.type "Exception",.type "BaseException",.type "object"]:List Value).contains b:=by
 rcases xH C L with e|⟨e,h⟩
 . rw[e]
 . subst h;rw[e];simp only[VJ,<- Bool.or_assoc,Bool.or_self]
theorem qk.mroIn(S:qk K c C L cd)(b:Value):W.mroIn K C b=some (([.ref C,.ref L,.type "ValueError",.type "Exception",.type "BaseException",.type "object"]:List Value).contains b):=by
 unfold W.mroIn;rw[S.cls,Option.bind_some,S.mro];have ne:(Bd C L).isEmpty=false:=by rcases xH C L with e|⟨e,_⟩<;>rw[e]<;>rfl
 show(if(Bd C L).isEmpty=true then none else some ((Bd C L).contains b))=_
 rw[ne,Ep];rfl
theorem qM(C L:Addr)(T:String):(([.ref C,.ref L,.type "ValueError",.type "Exception",.type "BaseException",.type "object"]:List Value).contains (.type T))=(["ValueError","Exception","BaseException","object"]:List String).contains T:=by
 simp only[VJ,List.contains_nil,Wd];have e:∀a:Addr,(Value.type T == Value.ref a)=false:=λ_=>rfl
 have f:∀U:String,(Value.type T == Value.type U)=(T == U):=λU=>by
  by_cases q:T=U
  . subst q;simp
  . rw[UP.mpr q,UP];intro z;injection z with z;exact q z
 rw[e,e,f,f,f,f];rfl
theorem yO(C L D:Addr):(([.ref C,.ref L,.type "ValueError",.type "Exception",.type "BaseException",.type "object"]:List Value).contains (.ref D))=(D == C ||D == L):=by
 simp only[VJ,List.contains_nil,Wd];have e:∀T:String,(Value.ref D == Value.type T)=false:=λ_=>rfl
 have f:∀a:Addr,(Value.ref D == Value.ref a)=(D == a):=λU=>by
  by_cases q:D=U
  . subst q;simp
  . rw[UP.mpr q,UP];intro z;injection z with z;exact q z
 rw[e,e,e,e,f,f,Wd,Wd,Wd,Wd]
theorem qk.has(S:qk K c C L cd){T:String} (h:(["ValueError","Exception","BaseException","object"]:List String).contains T=true):W.mroIn K C (.type T)=some true:=by rw[S.mroIn,qM,h]
theorem qk.isT(S:qk K c C L cd){M:Model}{h:Heap}(X:K.In h)(T:String):Looks M h (isSubtype (.ref C) (.type T)) ((["ValueError","Exception","BaseException","object"]:List String).contains T):=looks_mroIn X (by rw[S.mroIn,qM])
end
section
variable{prog:Program}{w:World}{A:Around}{E:Value->Shared->Prop}{s:Shared}{K:Frag}{c:Str}{x C L:Addr}{cd:ClassData}{ox:Obj}{od:Option Obj}{name:Str}
theorem Aw{tk:Tok}{v:Value}{Q:Fin->Shared->Prop}(X:K.In s.heap)(I:InstAt s.heap x ox C od)(hf:findObj K C od name=some (.value v))(hq:Q (.done (.ret v)) s) :
  wpAny (model prog w) A (Builtin.«object.__getattribute__» ⟨[.ref x,.str name tk],[]⟩) Q E s:=by
 obtain⟨hh,g,d,t,os⟩:=s;have L0:=I.type (M:=model prog w);have L1:=looks_find (M:=model prog w) X I hf;unfold Builtin.«object.__getattribute__»;refine kS (Um (kS (Um ?_)));exact kS (L0.at (kS (L1.at (Um hq))))
theorem vJ{tk:Tok}{Q:Fin->Shared->Prop}(S:qk K c C L cd)(X:K.In s.heap)(I:InstAt s.heap x ox C od) (hf:findObj K C od "__class__"=some (.bind (.builtin "getset_descriptor.__get__") (.builtin "object.__class__"))) (hq:Q (.done (.ret (.ref C))) s) :
  wpAny (model prog w) A (Builtin.«object.__getattribute__» ⟨[.ref x,.str "__class__" tk],[]⟩) Q E s:=by
 obtain⟨hh,g,d,t,os⟩:=s;have L0:=I.type (M:=model prog w);have L1:=looks_find (M:=model prog w) X I hf;unfold Builtin.«object.__getattribute__»;refine kS (Um (kS (Um ?_)));refine kS (L0.at (kS (L1.at ?_)));show wpAny _ _ (holding [Value.builtin "object.__class__"] (call (.builtin "getset_descriptor.__get__") [.builtin "object.__class__",.ref x,.ref C]) >>= ret) _ _ _;refine kS (Vz (Wa ?_));exact class_get (s:=⟨hh,g,d,t,os⟩) (ox:=ox) (od:=od) X I (S.has x_) (Um hq)
theorem BI{tk:Tok}{v:Value}{fill expr:Bool}{Q:Value->Shared->Prop}(S:qk K c C L cd)(X:K.In s.heap)(I:InstAt s.heap x ox C od)
  (he:∀(A':Around)(Q':Fin->Shared->Prop),Q' (.done (.ret v)) s->wpAny (model prog w) A' (Builtin.«object.__getattribute__» ⟨[.ref x,.str name tk],[]⟩) Q' (λ_ _=>False) s) (hh:handedIn v=true) (hq:Q v s) :
  wpAny (model prog w) A (getAttrBy (.ref x) (.str name tk) fill expr) Q E s:=by
 have FB:=F.excAttr_ValueError;have L0:=I.type (M:=model prog w);have L1:=looks_findIn (M:=model prog w) X S.ga;have L2:=looks_findIn (M:=model prog w) X S.gx;unfold getAttrBy;refine Vz (kS (L0.here (kS (L1.here ?_))));have hx2:(Value.builtin "BaseException.__getattribute__" == Value.builtin "object.__getattribute__")=false:=by decide +kernel
 dsimp only;rw[hx2,Bool.and_false,if_neg (by decide)];unfold getAttrByItsOwn;refine kS ((looks_hook (mc:=.ref C) X (r:=none) S.gx).here ?_);refine kS (wpAny_attempt (Vz ?_));have hx0:(expr && onTheHeap (Value.builtin "BaseException.__getattribute__"))=false:=by cases expr <;> rfl
 unfold callGetattribute boundAndCalled;rw[hx0,if_neg (by decide),FB.ga.bind];refine kS (Um (Wa ?_));have hi:Looks (model prog w) s.heap (isInstance (.ref x) (.type "BaseException")) true:=L0.andThen (S.isT X _);have hkd:builtinKind "BaseException.__getattribute__"=some .slot:=by decide +kernel
 have hsp:splitId "BaseException.__getattribute__"=some ("BaseException","__getattribute__"):=by decide +kernel
 refine VE FB.ga.plain F.entry_bexc_ga (@check_slot (model prog w) _ _ s "BaseException.__getattribute__" "BaseException" "__getattribute__" (.ref x) [.str name tk] [] _ hkd hsp hi (F.args_bexc_ga (.ref x) (.str name tk)) ?_);refine U8 (he _ _ ?_) (λ_ _ z=>z) λ_ _ z=>z.elim;show wpAny _ _ (handedOut v) _ _ _;rw[handedOut_of hh];exact Um hq
end
theorem HD(K:Frag):specialIn K (.builtin "object.__class__") "__get__"=some (some (.builtin "getset_descriptor.__get__")):=(by decide +kernel:specialIn [] (.builtin "object.__class__") "__get__"=some (some (.builtin "getset_descriptor.__get__")))
theorem BJ(K:Frag):takesIn K (.builtin "object.__class__")=some true:=(by decide +kernel:takesIn [] (.builtin "object.__class__")=some true)
section
variable{prog:Program}{w:World}{A:Around}{E:Value->Shared->Prop}{s:Shared}{K:Frag}{c:Str}{x C L:Addr}{cd:ClassData}{ox:Obj}{od:Option Obj}{name:Str}
theorem qk.fclass(S:qk K c C L cd)(od:Option Obj):findObj K C od "__class__"=some (.bind (.builtin "getset_descriptor.__get__") (.builtin "object.__class__")):=by unfold findObj;rw[S.cls,Option.bind_some,S.gc,Option.bind_some];simp[HD,BJ]
theorem xI{Q:Option Value->Shared->Prop}(S:qk K c C L cd)(X:K.In s.heap)(I:InstAt s.heap x ox C od)(hq:Q (some (.ref C)) {s with toks:=s.toks+1}) :
  wpAny (model prog w) A (getAttr? (.ref x) "__class__") Q E s:=by
 obtain⟨hh,g,d,t,os⟩:=s;unfold getAttr? getAttrBy?;refine kS (wpAny_mkText (kS (wpAny_attempt ?_)));exact BI (s:=⟨hh,g,d,t+1,os⟩) (ox:=ox) (od:=od) S X I (λA' Q' q=>vJ (s:=⟨hh,g,d,t+1,os⟩) S X I (S.fclass od) q) rfl (Um hq)
theorem BK{v:Value}{expr:Bool}{Q:Value->Shared->Prop}(S:qk K c C L cd)(X:K.In s.heap)(I:InstAt s.heap x ox C od)(hf:findObj K C od name=some (.value v))(hv:handedIn v=true)(hq:Q v {s with toks:=s.toks+1}) :
  wpAny (model prog w) A (getAttr (.ref x) name expr) Q E s:=by
 obtain⟨hh,g,d,t,os⟩:=s;unfold getAttr;refine kS (wpAny_mkText ?_);exact BI (s:=⟨hh,g,d,t+1,os⟩) (ox:=ox) (od:=od) S X I (λA' Q' q=>Aw (s:=⟨hh,g,d,t+1,os⟩) X I hf q) hv hq
theorem yP(S:qk K c C L cd):KitX K (.ref x) (.ref C) (λh=>∃ox od,InstAt h x ox C od) where
 ty:=λ_ _ _ ⟨_,_,I⟩=>I.type
 it:=λ_ _ X _=>by
  have hc:=S.cls;unfold clsIn at hc;split at hc
  . rename_i ho;intro A' Q' E' s' k q;unfold isType loadHead;exact kS (wpAny_loadPart (k _ _ (X _ _ ho)) (Um q))
  . cases hc
 ne:=λh tp dd its n sl X htp=>by
  refine VF.mpr λq=>?_;have e:C=tp:=Value.ref.inj (Wj.mp q);subst e;have hc:=S.cls;unfold clsIn at hc;split at hc
  . rename_i ho;have z:=(X _ _ ho).symm.trans htp;cases z
  . cases hc
 ca:=λX ⟨_,_,I⟩ k=>xI S X I k
theorem qk.fown(S:qk K c C L cd){o:Obj}{v:Value}(hn:findIn K (.ref C) name=some none)(hl:lookIn name o=some (some v)):findObj K C (some o) name=some (.value v):=by unfold findObj;rw[S.cls,Option.bind_some,hn,Option.bind_some];simp[W.ownOf,S.dct,hl]
end
theorem qN{K:Frag}{C:Addr}{cd:ClassData}(h:clsIn K C=some cd):∃oc odc sl,K.lookup C=some ⟨oc,odc,.cls cd,sl⟩:=by
 unfold clsIn at h;split at h
 . rename_i ho;cases h;exact⟨_,_,_,ho⟩
 . cases h
section
variable{prog:Program}{w:World}{A:Around}{E:Value->Shared->Prop}{s:Shared}{K:Frag}{c:Str}{x C L:Addr}{cd:ClassData}{ox:Obj}{od:Option Obj}{name:Str}
theorem Np{vs:Array Value}{text:Value}{Q:Value->Shared->Prop}(S:qk K c C L cd)(X:K.In s.heap)(I:InstAt s.heap x ox C od)(hd:ox.data=.fields vs)(hz:0<vs.size)
  (hq:∀ t,Q .none {s with heap:=(s.heap.push {cls:=.type "tuple",data:=.seq #[text] }).update x (Obj.mapFields (·.setIfInBounds 0 (.ref s.heap.objs.size))),toks:=t}) :
  wpAny (model prog w) A (call (.builtin "ValueError.__init__") [.ref x,text]) Q E s:=by
 have FB:=F.excBase_ValueError;have hi:Looks (model prog w) s.heap (isInstance (.ref x) (.type "ValueError")) true:=I.type.andThen (S.isT X _);have hx:=I.at_;obtain⟨hh,g,d,t,os⟩:=s;have hx1:=Ug (h:=hh) {cls:=.type "tuple",data:=.seq #[text] } hx;have h0:vs[0]?=some vs[0]:=Array.getElem?_eq_getElem hz;have hst:=FB.noStar;refine Wa (VE FB.init.plain FB.initEntry ?_);simp only[checkBuiltinCall,FB.initKind,FB.initSplit,FB.initRow];refine kS (hi.here ?_);simp only[Bool.not_true,Bool.false_eq_true,if_false];have hcl:=I.cls;obtain⟨oc,odc,sl,hK⟩:=qN S.cls;have hC:hh.get? C=some ⟨oc,odc,.cls cd,sl⟩:=X _ _ hK
 repeat (first|(with_reducible refine Vb hx ?_;rw[hcl])|with_reducible refine Vb hC ?_|with_reducible refine(S.isT X _).here ?_|wp_step)
 rw[hd];refine Um ?_;rw[h0];refine Um (kS (wpAny_setField hx1 hd hz ?_))
 have done:∀t',wpAny (model prog w) A.in1 (ret Value.none) (λfin s'=>match fin with
   | Fin.done f=>(match (Except.ok f:Result)with
    |.ok (.ret v)=>Q v s'
    |.ok _=>False
    |.error e=>E e s')
   | Fin.again c'=>c'.quiet=true/\codeAny (model prog w) A c' (λr s'=>match r with
    |.ok (.ret v)=>Q v s'
    |.ok _=>False
    |.error e=>E e s') s') (λe s'=>E e s') ⟨(hh.push {cls:=.type "tuple",data:=.seq #[text] }).update x (Obj.mapFields (·.setIfInBounds 0 (.ref hh.objs.size))),g,d,t',os⟩:=λt'=>Um (hq t')
 split
 . exact wpAny_letGo (done _)
 . exact Um (done _)
theorem vK{v:Value}{Q:Unit->Shared->Prop}(S:qk K c C L cd)(X:K.In s.heap)(I:InstAt s.heap x ox C od)(hna:findIn K (.ref C) name=some none)
  (h:∀(A':Around)(R:Fin->Shared->Prop),(∀s',Q () s'->R (.done (.ret .none)) s')->wpAny (model prog w) A' (Builtin.ObjectAttr.storeInOwnDict (.ref x) (.ref C) (.str name s.toks) name v false) R (λ_ _=>False) {s with toks:=s.toks+1}) :
  wpAny (model prog w) A (setAttr (.ref x) name v) Q E s:=by
 have SF:=PySem.F.store_ValueError;obtain⟨hh,g,d,t,os⟩:=s;have L0:=I.type (M:=model prog w);have L1:=looks_findIn (M:=model prog w) X S.sa;have L2:=looks_findIn (M:=model prog w) X hna;have Lm:Looks (model prog w) hh (mroOf (.ref C)) cd.mro:=(looks_clsIn X S.cls).andThen .now;have hi:Looks (model prog w) hh (isInstance (.ref x) (.type "object")) true:=L0.andThen (S.isT X _);unfold setAttr callSpecial? specialOf;refine kS (wpAny_mkText (kS (kS (kS (L0.at (L1.at ?_))))));dsimp only;refine Vz (kS ?_);rw[SF.slot.bind];refine Um (kS (Wa ?_));refine VE SF.slot.plain SF.entry (@check_slot (model prog w) _ _ ⟨hh,g,d,t+1,os⟩ "object.__setattr__" "object" "__setattr__" (.ref x) [.str name t,v] [] _ SF.kind SF.split hi (SF.args (.ref x) (.str name t) v) ?_);show wpAny _ _ (Builtin.«object.__setattr__» ⟨[.ref x,.str name t,v],[]⟩) _ _ _;rw[osa_eq,refuse_eq];refine kS (kS (L0.at (kS (Lm.at ?_))));rw[S.mro];have em:Bd C L=[.ref C,.ref L,.type "ValueError",.type "Exception",.type "BaseException",.type "object"]∨Bd C L=[.ref L,.type "ValueError",.type "Exception",.type "BaseException",.type "object"]:=(xH C L).imp id And.left;rcases em with e|e
 all_goals
  rw[e]
  first|rw[refuseLoop_ref,refuseLoop_ref,SF.passes] | rw[refuseLoop_ref,SF.passes]
  refine Um (kS (L0.at (kS (L2.at (kS (Um ?_))))));dsimp only;refine U8 (h _ _ λs' q=>?_) (λ_ _ z=>z) λ_ _ z=>z.elim;exact Um (Um q)
theorem Er{v:Value}{Q:Unit->Shared->Prop}(S:qk K c C L cd)(X:K.In s.heap)(I:InstAt s.heap x ox C od)(hdn:ox.dict=none)(hna:findIn K (.ref C) name=some none)
  (hq:∀h' tk,h'.get? x=some {ox with dict:=some s.heap.objs.size}->h'.Ns1 s.heap.objs.size (λy=>if y=name then some v else none)->(∀b o,b≠x->s.heap.get? b=some o->h'.get? b=some o)->Q () {s with heap:=h',toks:=tk}) :
  wpAny (model prog w) A (setAttr (.ref x) name v) Q E s:=by
 refine vK S X I hna λA' R k=>?_;obtain⟨hh,g,d,t,os⟩:=s;have hx:=I.at_;have hcl:=I.cls;have hno:=I.no;have Lc:=looks_clsIn (M:=model prog w) X S.cls;have hxs:x≠hh.objs.size:=UI (Up hx);unfold Builtin.ObjectAttr.storeInOwnDict;refine kS (Um ?_);rw[if_neg (by show ¬ ((Value.ref C == Value.type "module")=true); exact λz=>by cases z)];refine kS ?_;show wpAny _ _ (instanceDict x true) _ _ _;unfold instanceDict;refine kS (Vb hx ?_);rw[hcl];dsimp only;refine kS (Lc.at ?_);rw[S.dct];simp only[Bool.not_true,Bool.false_eq_true,if_false];rw[hdn];dsimp only;rw[if_neg (by simp[typeHasDict])]
 have go:∀(Q':Option Addr->Shared->Prop),(∀ h1,h1.get? x=some {ox with dict:=some hh.objs.size}->h1.get? hh.objs.size=some {cls:=.type "dict",data:=.dict #[] }->(∀ b o,b≠x->hh.get? b=some o->h1.get? b=some o)->Q' (some hh.objs.size) ⟨h1,g,d,t+1,os⟩) ->
   wpAny (model prog w) A' (do
    let d <- alloc {cls:=.type "dict",data:=.dict #[] }
    update x λo=>{o with dict:=some d}
    dictMade (.ref C) x d) Q' (λ_ _=>False) ⟨hh,g,d,t+1,os⟩:=λQ' q=>by
  have hx1:(hh.push {cls:=.type "dict",data:=.dict #[] }).get? x=some ox:=Ug _ hx;refine kS (wpAny_alloc' ?_);refine kS (wpAny_update' hx1 ?_);refine Um (q _ ?_ ?_ λb o hb e=>?_)
  .
   refine Vx _ hx1 ?_;have fr:=(Heap.get?_some_iff.mp hx).2;obtain⟨c0,d0,dt,s0⟩:=ox
   cases dt<;>first|rfl|exact fr
  . exact(Heap.get?_update_ne _ _ _ _ hxs.symm).trans (Heap.get?_push_at rfl rfl)
  . exact(Heap.get?_update_ne _ _ _ _ hb).trans (Ug _ e)
 have fin:∀ h1,h1.get? x=some {ox with dict:=some hh.objs.size}->h1.get? hh.objs.size=some {cls:=.type "dict",data:=.dict #[] }->(∀ b o,b≠x->hh.get? b=some o->h1.get? b=some o) ->
   wpAny (model prog w) A' (Builtin.ObjectAttr.storeInDict hh.objs.size (.str name t) name v) R (λ_ _=>False) ⟨h1,g,d,t+1,os⟩:=λh1 e1 e2 e3=>by
  have n0:h1.Ns hh.objs.size (λ_=>none):=⟨_,#[],_,e2,rfl,λe he=>absurd he v6,λ_=>rfl⟩;unfold Builtin.ObjectAttr.storeInDict Builtin.ObjectAttr.newKeyGuard;refine kS (Um (kS (wpAny_nsSet1 (Heap.Ns1.of_empty n0) λh2 n2 hs=>?_)));obtain⟨oD,esD,epD,hoD,hdD,hcD⟩:=n2.count (Within.cons name v Within.nil);refine kS (wpAny_lookBehind hoD (by rw[hdD];exact pastItsLine_dict (Uv hcD (by rw[Uk,UA,sizeLine_eq];omega))) ?_);refine Um (k _ (hq h2 _ ((hs.2 x hxs).trans e1) n2 λb o hb e=>(hs.2 b (UI (Up e))).trans (e3 b o hb e)))
 split
 . rename_i q;rw[notCls,q]at hno;cases hno
 . exact go _ fin
theorem Es{v:Value}{Q:Unit->Shared->Prop}{dx:Addr}{mA:Str->Option Value}{ns:List Str}(S:qk K c C L cd)(X:K.In s.heap)(I:InstAt s.heap x ox C od)(hdx:ox.dict=some dx)(hN:s.heap.Ns1 dx mA)(hw:PySem.Within mA ns)(hz:ns.length<=1000)(hna:findIn K (.ref C) name=some none)
  (hq:∀h' tk,h'.Ns1 dx (λy=>if y=name then some v else mA y)->Heap.SameBut dx s.heap h'->Q () {s with heap:=h',toks:=tk}) :
  wpAny (model prog w) A (setAttr (.ref x) name v) Q E s:=by
 refine vK S X I hna λA' R k=>?_;obtain⟨hh,g,d,t,os⟩:=s;have hx:=I.at_;have hcl:=I.cls;have Lc:=looks_clsIn (M:=model prog w) X S.cls;unfold Builtin.ObjectAttr.storeInOwnDict;refine kS (Um ?_);rw[if_neg (by show ¬ ((Value.ref C == Value.type "module")=true); exact λz=>by cases z)];refine kS ?_;show wpAny _ _ (instanceDict x true) _ _ _;unfold instanceDict;refine kS (Vb hx ?_);rw[hcl];dsimp only;refine kS (Lc.at ?_);rw[S.dct];simp only[Bool.not_true,Bool.false_eq_true,if_false];rw[hdx];refine Um ?_;show wpAny _ _ (Builtin.ObjectAttr.storeInDict dx (.str name t) name v) _ _ _;unfold Builtin.ObjectAttr.storeInDict Builtin.ObjectAttr.newKeyGuard;refine kS (Um (kS (wpAny_nsSet1 hN λh2 n2 hs=>?_)));obtain⟨oD,esD,epD,hoD,hdD,hcD⟩:=n2.count (Within.cons name v hw);refine kS (wpAny_lookBehind hoD (by rw[hdD];exact pastItsLine_dict (Uv hcD (by rw[Uk,sizeLine_eq];omega))) ?_);exact Um (k _ (hq h2 _ n2 hs))
end
end L2
namespace L2
open PySem PySem.Spec PyProof.Rows
section
variable{X:Cx}{gV:List (Addr×Obj)}{σ:St}{H:Hp}{s:Shared}
theorem P4.reword{a:Addr}{u w:HO}(I:P4 X gV σ H s)(h:H a=some u)(hu:¬M0 u)(hw:∀y,u≠.own y)(nw:cR X.prog X.w H s.heap a w)(hw2:∀C dx fs,w≠.ins C dx fs):P4 X gV σ (PR H a w) s:=by
 have ne:∀b,H b=none->b≠a:=λb n e=>by subst e;rw[h]at n;cases n
 have nt:∀b xs,H b=some (.tup xs)->b≠a:=λb xs n e=>by subst e;rw[h]at n;cases n;exact hu True.intro
 have nf:∀b o z,H b=some (.frz o z)->b≠a:=λb o z n e=>by subst e;rw[h]at n;cases n;exact hu True.intro
 have no:∀b z,H b=some (.own z)->b≠a:=λb z n e=>by subst e;rw[h]at n;cases n;exact hw _ rfl
 refine⟨I.ok,I.os,I.bare,⟨I.base.keep,I.base.slot,λb ob e n hx=>?_,I.base.there,λb xs e=>?_,λb ob z e=>?_,λb ps e=>?_⟩,I.loc,I.cell,?_,λx c e=>?_,λp hp=>?_,λb z e=>?_,I.len⟩
 . have q:=I.base.free b ob e n hx;rw[ay (ne b q)];exact q
 . have q:=I.base.tups b xs e;rw[ay (nt b xs q)];exact q
 . have q:=I.base.frzs b ob z e;rw[ay (nf b ob z q)];exact q
 . have q:=I.base.tbls b ps e;rw[ay (λz=>by subst z;rw[h]at q;cases q;exact hu True.intro)];exact q
 . rw[ay (ne _ I.free)];exact I.free
 .
  rcases I.freeC x c e with z|⟨hf,o,z⟩
  . exact .inl (by rw[ay (ne _ z)];exact z)
  . exact .inr ⟨hf,o,by rw[ay (nf _ _ _ z)];exact z⟩
 . obtain⟨e,n,r⟩:=I.pin p hp;exact⟨e,by rw[ay (ne _ n)];exact n,r⟩
 .
  by_cases hb:b=a
  . subst hb;rw[aT]at e;cases e;exact nw.stay (λc v _ q=>q) (λc q=>by rw[ay (no c _ q)];exact q) (λc xs q=>by rw[ay (nt c xs q)];exact q) λc ob _ _ q=>by rw[ay (nf c ob _ q)];exact q
  . rw[ay hb]at e;exact(I.hok b z e).stay (λc v _ q=>q) (λc q=>by rw[ay (no c _ q)];exact q) (λc xs q=>by rw[ay (nt c xs q)];exact q) λc ob _ _ q=>by rw[ay (nf c ob _ q)];exact q
theorem P4.freezeL{a:Addr}{xs:List V}(I:P4 X gV σ H s)(h:H a=some (.lst xs)):∃o,P4 X gV σ (PR H a (.frz o (.lst xs))) s:=by obtain⟨z,its,n,r,e⟩:=id (I.hok a _ h);exact⟨_,I.reword h (λq=>q) (λ_ q=>nomatch q) ⟨e,z,its,n,r,e⟩ (λ_ _ _ q=>nomatch q)⟩
theorem P4.freezeD{a:Addr}{xs:List (PQ×V)}(I:P4 X gV σ H s)(h:H a=some (.dK xs)):∃o,P4 X gV σ (PR H a (.frz o (.dK xs))) s:=by obtain⟨z,y,vs,r,o,es,ep,e,c⟩:=id (I.hok a _ h);exact⟨_,I.reword h (λq=>q) (λ_ q=>nomatch q) ⟨e,z,y,vs,r,o,es,ep,e,c⟩ (λ_ _ _ q=>nomatch q)⟩
end
section
variable{K:W.Frag}{Pr H:Hp}{σ:St}{Z:Ev}
theorem aC.new(E:aC K Pr H σ Z){p:Addr}{o:HO}(h:H p=none):aC K Pr (PR H p o) σ Z:=by
 have k:∀b u,H b=some u->PR H p o b=some u:=λb u e=>by rw[ay (bb e h)];exact e
 exact⟨λb u e=>k b u (E.sub b u e),E.nd,E.off,Paired.impMem E.sl λl hl s q=>q.pres (λb u _ e=>k b u e) l λa e=>by
  obtain⟨vs,e,_⟩:=E.at_own (gp.mpr ⟨l,hl,e⟩)
  rw[k _ _ e,e]⟩
theorem bC.new{vs:List V}{ds:List D}(r:bC K H vs ds){p:Addr}{o:HO}(h:H p=none):bC K (PR H p o) vs ds:=r.pres λb u _ e=>by rw[ay (bb e h)];exact e
theorem QH.new{v:V}{d:D}(r:QH K H v d){p:Addr}{o:HO}(h:H p=none):QH K (PR H p o) v d:=r.pres λb u _ e=>by rw[ay (bb e h)];exact e
theorem pT:owns (.un::Z)=owns Z:=rfl
theorem bj{a:Addr}{xs:List D}:owns (.own a xs::Z)=a::owns Z:=rfl
theorem aC.cons_d(E:aC K Pr H σ Z){v:V}{x:D}(r:QH K H v x):aC K Pr H (some v::σ) (.d x::Z):=⟨E.sub,E.nd,E.off,.cons ⟨v,rfl,r⟩ E.sl⟩
theorem aC.cons_un(E:aC K Pr H σ Z){v:Option V}:aC K Pr H (v::σ) (.un::Z):=⟨E.sub,E.nd,E.off,.cons True.intro E.sl⟩
theorem aC.cons_own(E:aC K Pr H σ Z){p:Addr}{vs:List V}{xs:List D}(h:H p=none)(r:bC K H vs xs):aC K Pr (PR H p (.lst vs)) (some (.ref p)::σ) (.own p xs::Z):=by
 have E':=E.new (o:=.lst vs) h;refine⟨E'.sub,?_,λa ha=>?_,.cons ⟨rfl,vs,aT,r.new h⟩ E'.sl⟩
 . rw[bj];refine UN.mpr ⟨λhm=>?_,E.nd⟩;obtain⟨us,e,_⟩:=E.at_own hm;rw[h]at e;cases e
 .
  rw[bj]at ha;rcases Uo.mp ha with rfl|ha
  .
   cases q:Pr a with
   |none=>rfl
   |some u=>rw[E.sub a u q]at h;cases h
  . exact E.off a ha
theorem aC.cons_tup(E:aC K Pr H σ Z){p:Addr}{vs:List V}{xs:List D}(h:H p=none)(r:bC K H vs xs):aC K Pr (PR H p (.tup vs)) (some (.ref p)::σ) (.d (.tup xs)::Z) :=
 (E.new h).cons_d (.tup (Qb.of aT) (r.new h))
theorem aC.freeze(E:aC K Pr H σ (.own a xs::Z)){vs:List V}(h:H a=some (.lst vs))(o:Obj):aC K Pr (PR H a (.frz o (.lst vs))) σ (.d (.lst xs)::Z):=by
 have pa:Pr a=none:=E.off a (by rw[bj];exact Ui);have nd:=E.nd;rw[bj]at nd;obtain⟨hn,nd⟩:=UN.mp nd;have p:su H (PR H a (.frz o (.lst vs))):=λb u pu e=>by rw[ay];exact e;rintro rfl;rw[h]at e;cases e;exact pu
 refine⟨λb u e=>?_,nd,λb hb=>E.off b (by rw[bj];exact Ud _ hb),?_⟩
 . rw[ay];exact E.sub b u e;rintro rfl;rw[pa]at e;cases e
 .
  have sl:=E.sl
  cases sl with
  | cons q t =>
   obtain⟨e,us,e2,r⟩:=q;rw[h]at e2;cases e2;refine .cons ⟨.ref a,e,.lst (.inl ⟨o,aT⟩) (r.pres p)⟩ (Paired.impMem t λl hl s z=>z.pres p l λb hbm=>?_);rw[ay];rintro rfl;exact hn (gp.mpr ⟨l,hl,hbm⟩)
theorem aK(l:L)(Z:Ev):owns (l::Z)=bh l++owns Z:=rfl
theorem pU{a:Addr}{xs ys:List D}:∀{Z:Ev}{i:Nat},Z[i]?=some (.own a xs)->owns (Z.set i (.own a ys))=owns Z
 |[],_,h=>by simp at h
 |_::_,0,h=>by simp at h;subst h;rfl
 | l::Z,i+1,h=>by have ih:=pU (i:=i) (Z:=Z) (ys:=ys) (by simpa using h);show owns (l::Z.set i (.own a ys))=owns (l::Z);rw[aK,aK,ih]
theorem g7{k:L}:∀{Z:Ev}{i:Nat}{l:L},Z[i]?=some k->bh l=[]->(owns Z).Perm (bh k++owns (Z.set i l))
 |[],_,_,h,_=>by simp at h
 | _::Z,0,l,h,hl=>by simp at h;subst h;show(owns (_::Z)).Perm (_++owns (l::Z));rw[aK,aK,hl];exact List.Perm.refl _
 | m::Z,i+1,l,h,hl=>by have ih:=g7 (i:=i) (Z:=Z) (l:=l) (by simpa using h) hl;show(owns (m::Z)).Perm (bh k++owns (m::Z.set i l));rw[aK,aK];refine(List.Perm.append_left _ ih).trans ?_;rw[<- UT,<- UT];exact List.Perm.append_right _ Vf
theorem BL{a:Addr}{xs:List D}{Z:Ev}{i:Nat}{l:L}(h:Z[i]?=some (.own a xs))(hl:bh l=[]):(owns Z).Perm (a::owns (Z.set i l)):=g7 h hl
theorem yQ{Z:Ev}{i:Nat}(l:L)(h:Z[i]?=some .un):(owns (Z.set i l)).Perm (bh l++owns Z):=by
 have hi:i<Z.length:=(Uh.mp h).1;have pm:=g7 (Z:=Z.set i l) (i:=i) (k:=l) (l:=.un) (by simp[hi]) rfl;rw[VA]at pm;have e2:Z.set i .un=Z:=by have:=List.set_getElem_self (as:=Z) (i:=i) hi;have e3:Z[i]=.un:=(Uh.mp h).2;rw[e3]at this;exact this
 rw[e2]at pm;exact pm
theorem aC.outL(E:aC K Pr H σ Z){i:Nat}{k:L}{s:Option V}(h:Z[i]?=some k)(hs:σ[i]?=some s):aC K Pr H (s::σ) (k::Z.set i .un):=by have pm:=g7 (l:=.un) h rfl;obtain⟨s',hs',q⟩:=Paired.get2 E.sl h;rw[hs]at hs';cases hs';refine⟨E.sub,?_,λb hb=>E.off b (pm.mem_iff.mpr (by rw[aK]at hb;exact hb)),.cons q (Paired.set_r i E.sl λ_ _=>by simp only[a9])⟩;rw[aK];exact pm.nodup_iff.mp E.nd
theorem aC.out(E:aC K Pr H σ Z){i:Nat}{a:Addr}{xs:List D}(h:Z[i]?=some (.own a xs)):aC K Pr H (some (.ref a)::σ) (.own a xs::Z.set i .un):=by
 have pm:=BL (l:=.un) h rfl;obtain⟨s,hs,q⟩:=Paired.get2 E.sl h;refine⟨E.sub,?_,λb hb=>E.off b (pm.mem_iff.mpr (by rw[bj]at hb;exact hb)),.cons ?_ (Paired.set_r i E.sl λ_ _=>by simp only[a9])⟩
 . rw[bj];exact pm.nodup_iff.mp E.nd
 . obtain⟨_,r⟩:=q;exact⟨rfl,r⟩
theorem aC.back{v:Option V}{l:L}(E:aC K Pr H (v::σ) (l::Z)){i:Nat}(h:Z[i]?=some .un)(hs:σ[i]?=some v):aC K Pr H σ (Z.set i l):=by
 have sl:=E.sl
 cases sl with
 | cons q t =>
  have e1:Z.set i l=(Z.set i l):=rfl;refine⟨E.sub,?_,λb hb=>?_,Paired.set_r i t λa e=>by rw[hs]at e;cases e;exact q⟩
  . exact(yQ l h).nodup_iff.mpr E.nd
  . exact E.off b ((yQ l h).mem_iff.mp hb)
theorem aC.write(E:aC K Pr H σ (.own a xs::Z)){vs:List V}{ys:List D}(r:bC K H vs ys):aC K Pr (PR H a (.lst vs)) σ (.own a ys::Z):=by
 have pa:Pr a=none:=E.off a (by rw[bj];exact Ui);have nd:=E.nd;rw[bj]at nd;obtain⟨hn,nd'⟩:=UN.mp nd;obtain⟨us,ha,mu⟩:=E.at_own (a:=a) (by rw[bj];exact Ui);have p:su H (PR H a (.lst vs)):=λb u pu e=>by rw[ay];exact e;rintro rfl;rw[ha]at e;cases e;exact mu.no pu
 refine⟨λb u e=>?_,nd,λb hb=>E.off b hb,?_⟩
 . rw[ay];exact E.sub b u e;rintro rfl;rw[pa]at e;cases e
 .
  have sl:=E.sl
  cases sl with
  | cons q t =>
   obtain⟨e,_⟩:=q;refine .cons ⟨e,vs,aT,r.pres p⟩ (Paired.impMem t λl hl s z=>z.pres p l λb hbm=>?_);rw[ay];rintro rfl;exact hn (gp.mpr ⟨l,hl,hbm⟩)
end
noncomputable abbrev W(α:Type):=Ev->(α->Ev->Prop)->Prop
inductive Fl where
 |nx|bk|ct|rt (r:L)
inductive EL (X:Cx) (gV:List (Addr×Obj)) (σ:St) (Pr:Hp) (so:L->Ev->Prop) (u:Value) (s':Shared):Prop
 |mk (v:V) (H':Hp) (r:L) (Z':Ev) (i:P4 X gV σ H' s') (q:bS v u) (e:aC X.K Pr H' (some v::σ) (r::Z')) (p:so r Z')
theorem EL.on{G:Prop}{X:Cx}{gV:List (Addr×Obj)}{σ:St}{Pr:Hp}{so:L->Ev->Prop}{u:Value}{s':Shared}(h:EL X gV σ Pr so u s')(k:∀v H' r Z',P4 X gV σ H' s'->bS v u->aC X.K Pr H' (some v::σ) (r::Z')->so r Z'->G):G:=by cases h with|mk a b c d e f g h=>exact k a b c d e f g h
def PL(X:Cx)(e:Expr)(t:W L):Prop :=
 ∀(gV:List (Addr×Obj))(s:Shared)(σ:St)(H Pr:Hp)(Z:Ev)(so:L->Ev->Prop),P4 X gV σ H s->aC X.K Pr H σ Z->t Z so->wpAny (model X.prog X.w) X.A (eval e X.env) (EL X gV σ Pr so) X.xe s
inductive EB (X:Cx) (gV:List (Addr×Obj)) (σ:St) (Pr:Hp) (so:Bool->Ev->Prop) (b:Bool) (s':Shared):Prop
 |mk (H':Hp) (Z':Ev) (i:P4 X gV σ H' s') (e:aC X.K Pr H' σ Z') (p:so b Z')
theorem EB.on{G:Prop}{X:Cx}{gV:List (Addr×Obj)}{σ:St}{Pr:Hp}{so:Bool->Ev->Prop}{b:Bool}{s':Shared}(h:EB X gV σ Pr so b s')(k:∀H' Z',P4 X gV σ H' s'->aC X.K Pr H' σ Z'->so b Z'->G):G:=by cases h with|mk a c d e f=>exact k a c d e f
def PB(X:Cx)(e:Expr)(t:W Bool):Prop :=
 ∀(gV:List (Addr×Obj))(s:Shared)(σ:St)(H Pr:Hp)(Z:Ev)(so:Bool->Ev->Prop),P4 X gV σ H s->aC X.K Pr H σ Z->t Z so->wpAny (model X.prog X.w) X.A (isTrue e X.env (eval e X.env)) (EB X gV σ Pr so) X.xe s
inductive EA (X:Cx) (gV:List (Addr×Obj)) (σ:St) (Pr:Hp) (bs:List (Option Nat)) (so:List L->Ev->Prop) (us:List Value) (s':Shared):Prop
 |mk (vs:List V) (H':Hp) (ls:List L) (Z':Ev) (i:P4 X gV σ H' s') (q:bT vs us) (hl:vs.length=ls.length) (hb:vs.length=bs.length) (e:aC X.K Pr H' (vs.map some++σ) (ls++Z')) (o:∀(k i:Nat),bs[k]?=some (some i)->ls[k]?=some L.un/\∃v,vs[k]?=some v/\σ[i]?=some (some v)) (p:so ls Z')
theorem EA.on{G:Prop}{X:Cx}{gV:List (Addr×Obj)}{σ:St}{Pr:Hp}{bs:List (Option Nat)}{so:List L->Ev->Prop}{us:List Value}{s':Shared}(h:EA X gV σ Pr bs so us s')(k:∀vs H' ls Z',P4 X gV σ H' s'->bT vs us->vs.length=ls.length->vs.length=bs.length->aC X.K Pr H' (vs.map some++σ) (ls++Z')->(∀(k i:Nat),bs[k]?=some (some i)->ls[k]?=some L.un/\∃v,vs[k]?=some v/\σ[i]?=some (some v))->so ls Z'->G):G:=by cases h with|mk a b c d e f g i j l m=>exact k a b c d e f g i j l m
def QJ(X:Cx)(es:List Expr)(bs:List (Option Nat))(t:W (List L)):Prop :=
 ∀(pos:Pos)(gV:List (Addr×Obj))(s:Shared)(σ:St)(H Pr:Hp)(Z:Ev)(so:List L->Ev->Prop),P4 X gV σ H s->aC X.K Pr H σ Z->t Z so ->
  wpAny (model X.prog X.w) X.A (spliced (backTo pos (starEach es X.env))) (EA X gV σ Pr bs so) X.xe s
inductive QK (X:Cx) (gV:List (Addr×Obj)) (Pr:Hp) (so:Ev->Prop) (s':Shared):Prop
 |mk (σ':St) (H':Hp) (Z':Ev) (i:P4 X gV σ' H' s') (e:aC X.K Pr H' σ' Z') (p:so Z')
inductive QL (X:Cx) (gV:List (Addr×Obj)) (Pr:Hp) (so:L->Ev->Prop) (u:Value) (s':Shared):Prop
 |mk (v:V) (σ':St) (H':Hp) (r:L) (Z':Ev) (τ:St) (i:P4 X gV σ' H' s') (q:bS v u) (e:aC X.K Pr H' (some v::τ) (r::Z')) (p:so r Z')
def SM(X:Cx)(gV:List (Addr×Obj))(Pr:Hp)(so:Fl->Ev->Prop)(f:Flow)(s':Shared):Prop :=
 match f with
 |.next=>QK X gV Pr (so .nx) s'
 |.brk=>QK X gV Pr (so .bk) s'
 |.cont=>QK X gV Pr (so .ct) s'
 |.ret u=>QL X gV Pr (λr=>so (.rt r)) u s'
def PM(X:Cx)(st:Stmt)(t:W Fl):Prop :=
 ∀(gV:List (Addr×Obj))(s:Shared)(σ:St)(H Pr:Hp)(Z:Ev)(so:Fl->Ev->Prop),P4 X gV σ H s->aC X.K Pr H σ Z->t Z so->wpAny (model X.prog X.w) X.A (exec st X.env) (SM X gV Pr so) X.xe s
def QM(X:Cx)(st:List Stmt)(t:W Fl):Prop :=
 ∀(gV:List (Addr×Obj))(s:Shared)(σ:St)(H Pr:Hp)(Z:Ev)(so:Fl->Ev->Prop),P4 X gV σ H s->aC X.K Pr H σ Z->t Z so->wpAny (model X.prog X.w) X.A (execs st X.env) (SM X gV Pr so) X.xe s
section
variable{X:Cx}{e a b:Expr}{pos:Pos}{ta tb:W L}
theorem PL.of{t:TE}{u:W L}(h:PE X e t)(q:∀σ H Pr Z so,aC X.K Pr H σ Z->u Z so->t σ H λv H'=>∃r Z',aC X.K Pr H' (some v::σ) (r::Z')/\so r Z'):PL X e u :=
 λgV s σ H Pr Z so I E hu=>P8 (h gV s σ H _ I (q σ H Pr Z so E hu)) λu s1 ⟨v,H1,I1,r1,r,Z',E1,p⟩=>⟨v,H1,r,Z',I1,r1,E1,p⟩
mutual
noncomputable def bK:L->Option D
 |.un=>none
 |.d x=>some x
 |.own _ xs=>some (.lst xs)
 |.bx none ls=>(cm ls).map .tup
 |.bx (some _) ls=>(cm ls).map .lst
 |.dic _ _=>none
noncomputable def cm:List L->Option (List D)
 |[]=>some []
 | l::ls=>match bK l,cm ls with
  |some x,some xs=>some (x::xs)
  |_,_=>none
end
def dC:Option D->(D->Prop)->Prop
 |some x,k=>k x
 |none,_=>False
theorem Ax{o:Option D}{k:D->Prop}(h:dC o k):∃x,o=some x/\k x:=by
 cases o with
 |some x=>exact⟨x,rfl,h⟩
 |none=>exact h.elim
def Be(a:Option Addr)(ls:List L)(k:D->Prop):Prop:=dC (bK (.bx a ls)) k
def QN:L->(D->Prop)->Prop
 |.un,_=>False
 |.d x,k=>k x
 |.own _ xs,k=>k (.lst xs)
 |.bx a ls,k=>Be a ls k
 |.dic _ _,_=>False
theorem xJ{a:Option Addr}{ls:List L}{k:D->Prop}(h:Be a ls k):∃x,bK (.bx a ls)=some x/\k x:=Ax h
def Et(ls:List L)(k:List D->Prop):Prop:=∃xs,cm ls=some xs/\k xs
theorem K1(ls:List L)(k:D->Prop):Be none ls k=Et ls λxs=>k (.tup xs):=by
 unfold Be Et;simp only[bK]
 cases cm ls with
 |none=>simp[dC]
 |some xs=>simp[dC]
theorem K2(a:Addr)(ls:List L)(k:D->Prop):Be (some a) ls k=Et ls λxs=>k (.lst xs):=by
 unfold Be Et;simp only[bK]
 cases cm ls with
 |none=>simp[dC]
 |some xs=>simp[dC]
theorem Eu(k:List D->Prop):Et [] k=k []:=by unfold Et;simp[cm]
theorem HE(l:L)(k:D->Prop):QN l k=∃x,bK l=some x/\k x:=by
 cases l with
 |un=>simp[QN,bK]
 |d x=>simp[QN,bK]
 |own a xs=>simp[QN,bK]
 | bx a ls =>
  show dC _ k=_
  cases bK (.bx a ls)with
  |none=>simp[dC]
  |some x=>simp[dC]
 |dic a kvs=>simp[QN,bK]
theorem BM(l:L)(ls:List L)(k:List D->Prop):Et (l::ls) k=QN l λx=>Et ls λxs=>k (x::xs):=by
 rw[HE];unfold Et;simp only[cm]
 cases bK l with
 |none=>simp
 | some x =>
  cases cm ls with
  |none=>simp
  |some xs=>simp
theorem bU{K:W.Frag}{H:Hp}:∀{vs:List V}{ls:List L},bY K H vs ls↔Paired (a9 K H) (vs.map some) ls
 |[],[]=>⟨λ_=>.nil,λ_=>by simp only[bY]⟩
 | v::vs,l::ls=>by
  simp only[bY,UC];constructor
  . rintro⟨w,us,e,h1,h2⟩;cases e;exact .cons h1 (bU.mp h2)
  .
   intro h
   cases h with
   |cons q t=>exact⟨v,vs,rfl,q,bU.mpr t⟩
 | [],l::ls=>by
  simp only[bY,List.map_nil];constructor
  . rintro⟨w,us,e,_⟩;cases e
  . intro h;cases h
 | v::vs,[]=>by
  simp only[bY,UC];constructor
  . intro h;cases h
  . intro h;cases h
theorem xK{K:W.Frag}{H:Hp}:∀{vs:List V}{xs:List D},Paired (a9 K H) (vs.map some) (xs.map .d)->bC K H vs xs
 |[],[],_=>.nil
 | v::vs,x::xs,h=>by
  simp only[UC]at h
  cases h with
  | cons q t =>
   simp only[a9]at q;obtain⟨w,e,r⟩:=q;cases e;exact .cons r (xK t)
 |[],_::_,h=>by simp only[UC,List.map_nil]at h;cases h
 |_::_,[],h=>by simp only[UC,List.map_nil]at h;cases h
theorem bY.len{K:W.Frag}{H:Hp}{vs:List V}{ls:List L}(h:bY K H vs ls):vs.length=ls.length:=by have:=Paired.length (bU.mp h);simpa using this
theorem iI:∀{ls:List L}{xs:List D},cm ls=some xs->xs.length=ls.length
 |[],_,h=>by simp[cm]at h;subst h;rfl
 | l::ls,xs,h=>by
  simp only[cm]at h;split at h
  . rename_i x ys h1 h2;cases h;simp[iI h2]
  . cases h
theorem aC.openT{K:W.Frag}{Pr H:Hp}{σ:St}{Z:Ev}{v:Option V}{ls:List L}(E:aC K Pr H (v::σ) (.bx none ls::Z)):∃a vs,v=some (.ref a)/\Qb K H a vs/\vs.length=ls.length/\aC K Pr H (vs.map some++σ) (ls++Z):=by
 have sl:=E.sl
 cases sl with
 | cons q t =>
  simp only[a9]at q;obtain⟨a,vs,e,h,r⟩:=q;have ow:owns (.bx none ls::Z)=owns (ls++Z):=by rw[aK,aH];simp only[bh,Option.toList,Vj,cT]
  exact⟨a,vs,e,h,r.len,E.sub,by rw[<- ow];exact E.nd,λb hb=>E.off b (by rw[ow];exact hb),Paired.app (bU.mp r) t⟩
theorem aC.openO{K:W.Frag}{Pr H:Hp}{σ:St}{Z:Ev}{v:Option V}{a:Addr}{ls:List L}(E:aC K Pr H (v::σ) (.bx (some a) ls::Z)):∃vs,v=some (.ref a)/\H a=some (.lst vs)/\vs.length=ls.length/\a∉owns (ls++Z)/\Pr a=none/\aC K Pr H (vs.map some++σ) (ls++Z):=by
 have sl:=E.sl
 cases sl with
 | cons q t =>
  simp only[a9]at q;obtain⟨e,vs,h,r⟩:=q;have ow:owns (.bx (some a) ls::Z)=a::owns (ls++Z):=by rw[aK,aH];simp only[bh,Option.toList,Wf,Vj,cT]
  have nd:=E.nd;rw[ow]at nd;obtain⟨n1,n2⟩:=UN.mp nd;exact⟨vs,e,h,r.len,n1,E.off a (by rw[ow];exact Ui),E.sub,n2,λb hb=>E.off b (by rw[ow];exact Ud _ hb),Paired.app (bU.mp r) t⟩
theorem uk(xs:List D):owns (xs.map .d)=[]:=by
 induction xs with
 |nil=>rfl
 |cons x xs ih=>rw[UC,aK,ih];rfl
def pV(H H':Hp)(S:List Addr):Prop:=su H H'/\(∀b,b∉S->H' b=H b)/\∀a∈S,∀vs,H a=some (.lst vs)->∃o,H' a=some (.frz o (.lst vs))
theorem pV.refl(H:Hp):pV H H []:=⟨λ_ _ _ e=>e,λ_ _=>rfl,λ_ h=>by simp at h⟩
mutual
theorem K3:∀(l:L){gV:List (Addr×Obj)}{σ0:St}{s:Shared}{Pr H:Hp}{σ:St}{Z:Ev}{v:Option V}{x:D},P4 X gV σ0 H s->aC X.K Pr H (v::σ) (l::Z)->bK l=some x->∃H',P4 X gV σ0 H' s/\aC X.K Pr H' (v::σ) (.d x::Z)/\pV H H' (bh l)
 |.un,_,_,_,_,_,_,_,_,_,_,_,h=>by simp[bK]at h
 |.dic _ _,_,_,_,_,_,_,_,_,_,_,_,h=>by simp[bK]at h
 | .d y,_,_,_,_,_,_,_,_,_,I,E,h=>by
  simp only[bK,UX]at h
  subst h
  exact⟨_,I,E,pV.refl _⟩
 | .own a xs,_,_,_,_,H,σ,Z,v,_,I,E,h=>by
  simp only[bK,UX]at h
  subst h
  have sl:=E.sl
  cases sl with
  | cons q t =>
   simp only[a9]at q
   obtain⟨e0,vs,ha,r⟩:=q
   obtain⟨o,I'⟩:=I.freezeL ha
   refine⟨_,I',E.freeze ha o,λb u pu eb=>?_,λb hb=>?_,λb hb vs' eb=>?_⟩
   .
    rw[ay];exact eb
    rintro rfl
    rw[ha]at eb;cases eb;exact pu
   .
    rw[ay]
    rintro rfl
    exact hb (by simp[bh])
   .
    have e:b=a:=by simpa[bh]using hb
    subst e
    rw[ha]at eb;cases eb
    exact⟨o,aT⟩
 | .bx none ls,_,_,_,Pr,H,σ,Z,v,x,I,E,h=>by
  simp only[bK,Option.map_eq_some_iff]at h
  obtain⟨xs,h,rfl⟩:=h
  obtain⟨a,vs,rfl,ha,hl,E1⟩:=E.openT
  obtain⟨H',I',E',F⟩:=HF ls hl I E1 h
  have hxl:=iI h
  obtain⟨s1,s2⟩:=Paired.unapp (by simp[hl,hxl]) E'.sl
  refine⟨H',I',(E'.drop (by simp[hl,hxl])).cons_d (.tup (ha.pres F.1) (xK s1)),F.1,λb hb=>F.2.1 b ?_,λb hb=>F.2.2 b ?_⟩
  .
   simpa[bh,cT]using hb
  .
   simpa[bh,cT]using hb
 | .bx (some a) ls,_,_,_,Pr,H,σ,Z,v,x,I,E,h=>by
  simp only[bK,Option.map_eq_some_iff]at h
  obtain⟨xs,h,rfl⟩:=h
  obtain⟨vs,rfl,ha,hl,hn,hp,E1⟩:=E.openO
  obtain⟨H',I',E',F⟩:=HF ls hl I E1 h
  have hxl:=iI h
  have hal:a∉owns ls:=λz=>hn (by rw[aH];exact Uz _ z)
  have haρ:a∉owns Z:=λz=>hn (by rw[aH];exact UD _ z)
  have ha':H' a=some (.lst vs):=(F.2.1 a hal).trans ha
  obtain⟨s1,s2⟩:=Paired.unapp (by simp[hl,hxl]) E'.sl
  have E2:=E'.drop (by simp[hl,hxl])
  have E3:aC X.K Pr H' (some (.ref a)::σ) (.own a xs::Z):=by
   refine⟨E2.sub,?_,λb hb=>?_,.cons ?_ E2.sl⟩
   .
    rw[bj];exact UN.mpr ⟨haρ,E2.nd⟩
   .
    rw[bj]at hb
    rcases Uo.mp hb with z|z
    .
     rw[z];exact hp
    .
     exact E2.off b z
   .
    unfold a9
    exact⟨rfl,vs,ha',xK s1⟩
  obtain⟨o,I2⟩:=I'.freezeL ha'
  refine⟨_,I2,E3.freeze ha' o,λb u pu e=>?_,λb hb=>?_,λb hb vs' eb=>?_⟩
  .
   rw[ay];exact F.1 b u pu e
   rintro rfl
   rw[ha]at e;cases e;exact pu
  .
   have hb':b≠a/\b∉owns ls:=by simpa[bh,cT,not_or]using hb
   rw[ay hb'.1]
   exact F.2.1 b hb'.2
  .
   by_cases hba:b=a
   .
    subst hba
    rw[ha]at eb;cases eb
    exact⟨o,aT⟩
   .
    have hb':b∈owns ls:=by
     rcases(by simpa[bh,cT]using hb:b=a∨b∈owns ls)with z|z
     .
      exact absurd z hba
     .
      exact z
    rw[ay hba]
    exact F.2.2 b hb' vs' eb
theorem HF:∀(ls:List L){gV:List (Addr×Obj)}{σ0:St}{s:Shared}{Pr H:Hp}{σ:St}{Z:Ev}{vs:List V}{xs:List D},vs.length=ls.length->P4 X gV σ0 H s->aC X.K Pr H (vs.map some++σ) (ls++Z)->cm ls=some xs->∃H',P4 X gV σ0 H' s/\aC X.K Pr H' (vs.map some++σ) (xs.map .d++Z)/\pV H H' (owns ls)
 | [],_,_,_,_,_,_,_,vs,xs,hl,I,E,h=>by
  simp only[cm,UX]at h
  subst h
  cases vs with
  |nil=>exact⟨_,I,E,pV.refl _⟩
  |cons _ _=>simp at hl
 | l::ls,_,_,_,Pr,H,σ,Z,vs,xs,hl,I,E,h=>by
  simp only[cm]at h
  split at h
  rotate_left
  .
   cases h
  rename_i x ys h1 h2
  cases h
  cases vs with
  |nil=>simp at hl
  | cons v vs =>
   have hl':vs.length=ls.length:=by simpa using hl
   obtain⟨H1,I1,E1,F1⟩:=K3 l I E h1
   have E2:aC X.K (bD H1 (ls++Z)) H1 (vs.map some++σ) (ls++Z):=(E1.drop (τ:=[some v]) (lam:=[.d x]) rfl).wide
   obtain⟨H2,I2,E3,F2⟩:=HF ls hl' I1 E2 h2
   have hyl:=iI h2
   have E4:aC X.K Pr H2 (some v::(vs.map some++σ)) (.d x::(ys.map .d++Z)):=by
    have z:=aC.step (τ:=[some v]) (lam:=[.d x]) (w:=[]) (μ:=[]) (σ':=vs.map some++σ) (Z':=ys.map .d++Z) E1 rfl E3 rfl
    exact z
   refine⟨H2,I2,E4,λb u pu e=>F2.1 b u pu (F1.1 b u pu e),λb hb=>?_,λb hb vs' eb=>?_⟩
   .
    rw[aK]at hb
    rw[F2.2.1 b (λz=>hb (UD _ z)),F1.2.1 b (λz=>hb (Uz _ z))]
   .
    rw[aK]at hb
    rcases Ur.mp hb with z|z
    .
     obtain⟨o,eo⟩:=F1.2.2 b z vs' eb
     exact⟨o,F2.1 b _ True.intro eo⟩
    .
     have hn:b∉bh l:=λz'=>by
      have nd:=E.nd
      rw[Wf,aK,aH]at nd
      exact(UQ.mp nd).2.2 b z' b (Uz _ z) rfl
     exact F2.2.2 b z vs' ((F1.2.1 b hn).trans eb)
end
theorem EL.frz{gV:List (Addr×Obj)}{σ:St}{Pr:Hp}{so:D->Ev->Prop}{u:Value}{s':Shared}(h:EL X gV σ Pr (λr Z=>QN r λx=>so x Z) u s') :
  ∃v H' x Z',P4 X gV σ H' s'/\bS v u/\aC X.K Pr H' (some v::σ) (.d x::Z')/\so x Z':=by
 obtain⟨v,H',r,Z',I,rv,E,p⟩:=h
 cases r with
 |un=>exact p.elim
 |d x=>exact⟨v,H',x,Z',I,rv,E,p⟩
 | own a xs =>
  obtain⟨H2,I2,E2,_⟩:=K3 (.own a xs) I E rfl;exact⟨v,H2,.lst xs,Z',I2,rv,E2,p⟩
 | bx a ls =>
  obtain⟨x,ex,p⟩:=xJ p;obtain⟨H2,I2,E2,_⟩:=K3 (.bx a ls) I E ex;exact⟨v,H2,x,Z',I2,rv,E2,p⟩
 |dic a kvs=>exact p.elim
def br(t:W L):W L:=λZ so=>t Z λr Z1=>QN r λx=>so (.d x) Z1
theorem aA{t:W L}(h:PL X e t):PL X e (br t):=λgV s σ H Pr Z so I E ht =>
 P8 (h gV s σ H Pr Z _ I E ht) λu s1 q=>by obtain⟨v,H',x,Z',I',rv,E',p⟩:=EL.frz (so:=λx Z=>so (.d x) Z) q;exact⟨v,H',.d x,Z',I',rv,E',p⟩
theorem aC.head_d{K:W.Frag}{Pr H:Hp}{v:Option V}{σ:St}{x:D}{Z:Ev}(E:aC K Pr H (v::σ) (.d x::Z)):∃w,v=some w/\QH K H w x:=by
 have sl:=E.sl
 cases sl with
 |cons q t=>exact q
theorem aC.tail{K:W.Frag}{Pr H:Hp}{v:Option V}{σ:St}{l:L}{Z:Ev}(E:aC K Pr H (v::σ) (l::Z)):aC K Pr H σ Z:=aC.drop (τ:=[v]) (lam:=[l]) E rfl
theorem QO{gV:List (Addr×Obj)}{s:Shared}{σ:St}{H Pr:Hp}{Z:Ev}{R:D->D->Ev->Prop}(ha:PL X a ta)(hb:PL X b tb)(I:P4 X gV σ H s)(E:aC X.K Pr H σ Z)
  (h:ta Z λx Z1=>QN x λdx=>tb Z1 λy Z2=>QN y λdy=>R dx dy Z2) {α:Type} {Q:α->Shared->Prop} {f:Value->Value->Sem α}
  (hf:∀v u s2 x y H2 dx dy Z2,P4 X gV σ H2 s2->bS x v->bS y u->aC X.K Pr H2 (some y::some x::σ) (.d dy::.d dx::Z2)->QH X.K H2 x dx->QH X.K H2 y dy->R dx dy Z2->wpAny (model X.prog X.w) X.A (f v u) Q X.xe s2) :
  wpAny (model X.prog X.w) X.A (eval a X.env) (λv s₁=>wpAny (model X.prog X.w) X.A (eval b X.env) (λu s₂=>wpAny (model X.prog X.w) X.A (f v u) Q X.xe s₂) X.xe s₁) X.xe s:=by
 refine P8 (ha gV s σ H Pr Z _ I E h) λv s1 q=>?_;obtain⟨x,H1,dx,Z1,I1,r1,E1,q1⟩:=EL.frz (so:=λdx Z1=>tb Z1 λy Z2=>QN y λdy=>R dx dy Z2) q;refine P8 (hb gV s1 σ H1 _ Z1 _ I1 E1.tail.wide q1) λu s2 q=>?_;obtain⟨y,H2,dy,Z2,I2,r2,E2,q2⟩:=EL.frz (so:=λdy Z2=>R dx dy Z2) q;have E3:aC X.K Pr H2 (some y::some x::σ) (.d dy::.d dx::Z2):=aC.step (τ:=[some x]) (lam:=[.d dx]) (w:=[some y]) (μ:=[.d dy]) E1 rfl E2 rfl;obtain⟨_,e1,p1⟩:=E3.head_d;obtain⟨_,e2,p2⟩:=E3.tail.head_d;cases e1;cases e2;exact hf v u s2 x y H2 dx dy Z2 I2 r1 r2 E3 p2 p1 q2
abbrev QP:=D->D->(L->Prop)->Prop
def QQ(X:Cx)(f:Value->Value->Sem Value)(op:QP):Prop :=
 ∀(gV:List (Addr×Obj))(s:Shared)(σ:St)(H Pr:Hp)(Z:Ev)(x y:V)(v u:Value)(dx dy:D)(so:L->Prop),P4 X gV σ H s->bS x v->bS y u->aC X.K Pr H σ Z->QH X.K H x dx->QH X.K H y dy->op dx dy so ->
  wpAny (model X.prog X.w) X.A (f v u) (λw s'=>∃z H' r,P4 X gV σ H' s'/\bS z w/\aC X.K Pr H' (some z::σ) (r::Z)/\so r) X.xe s
theorem QQ.of{f:Value->Value->Sem Value}{r:R2}{op:QP}(h:Qi X f r)(q:∀σ H Pr Z x y dx dy so,aC X.K Pr H σ Z->QH X.K H x dx->QH X.K H y dy->op dx dy so->r x y H λz H'=>∃r,aC X.K Pr H' (some z::σ) (r::Z)/\so r):QQ X f op :=
 λgV s σ H Pr Z x y v u dx dy so I rx ry E px py ho=>P8 (h gV s σ H x y v u _ I rx ry (q σ H Pr Z x y dx dy so E px py ho)) λw s' ⟨z,H',I',rz,r,E',p⟩=>⟨z,H',r,I',rz,E',p⟩
theorem QQ.or{f:Value->Value->Sem Value}{o1 o2:QP}(h1:QQ X f o1)(h2:QQ X f o2):QQ X f (λx y p=>o1 x y p∨o2 x y p) :=
 λgV s σ H Pr Z x y v u dx dy so I rx ry E px py ho=>ho.elim (h1 gV s σ H Pr Z x y v u dx dy so I rx ry E px py) (h2 gV s σ H Pr Z x y v u dx dy so I rx ry E px py)
theorem QQ.imp{f:Value->Value->Sem Value}{o1 o2:QP}(h1:QQ X f o1)(h:∀x y p,o2 x y p->o1 x y p):QQ X f o2 :=
 λgV s σ H Pr Z x y v u dx dy so I rx ry E px py ho=>h1 gV s σ H Pr Z x y v u dx dy so I rx ry E px py (h _ _ _ ho)
def aG(op:QP)(ta tb:W L):W L:=λZ so=>ta Z λx Z1=>QN x λdx=>tb Z1 λy Z2=>QN y λdy=>op dx dy λr=>so r Z2
theorem av{op:Operator}{o:QP}(ho:QQ X (binaryOp op) o)(ha:PL X a ta)(hb:PL X b tb):PL X (.BinOp a op b pos) (aG o ta tb):=λgV s σ H Pr Z so I E h =>
 wpAny_BinOp (QO (R:=λdx dy Z2=>o dx dy λr=>so r Z2) ha hb I E h λv u s2 x y H2 dx dy Z2 I2 r1 r2 E2 p1 p2 q =>
  P8 (ho gV s2 σ H2 Pr Z2 x y v u dx dy _ I2 r1 r2 E2.tail.tail p1 p2 q) λw s3 ⟨z,H3,r,I3,rz,E3,p⟩=>⟨z,H3,r,Z2,I3,rz,E3,p⟩)
theorem jm{op:CmpOp}{o:QP}(ho:QQ X (compareOp op) o)(ha:PL X a ta)(hb:PL X b tb)(hm:behindInMarks op b=false):PL X (.Compare a [op] [b] pos) (aG o ta tb):=λgV s σ H Pr Z so I E h =>
 wpAny_Compare1 (QO (R:=λdx dy Z2=>o dx dy λr=>so r Z2) ha hb I E h λv u s2 x y H2 dx dy Z2 I2 r1 r2 E2 p1 p2 q =>
  P8 (ho gV s2 σ H2 Pr Z2 x y v u dx dy _ I2 r1 r2 E2.tail.tail p1 p2 q) λw s3 ⟨z,H3,r,I3,rz,E3,p⟩=>⟨z,H3,r,Z2,I3,rz,E3,p⟩) hm
def wC(x:D):W L:=λZ so=>so (.d x) Z
theorem ah {i j pos}:PL X (.Constant (.int i) j pos) (wC (.int i)):=PL.of GB λσ H Pr Z so E h=>⟨_,_,E.cons_d (.int i),h⟩
theorem m4 {b j pos}:PL X (.Constant (.bool b) j pos) (wC (.bl b)):=PL.of M9 λσ H Pr Z so E h=>⟨_,_,E.cons_d (.bl b),h⟩
theorem bH {j pos}:PL X (.Constant .none j pos) (wC .non):=PL.of Kz λσ H Pr Z so E h=>⟨_,_,E.cons_d .non,h⟩
theorem aP {x j pos}:PL X (.Constant (.str x) j pos) (wC (.str x)):=PL.of sT λσ H Pr Z so E h=>⟨_,_,E.cons_d (.str x),h⟩
def K4(o:Option L)(i:Nat)(Z:Ev)(so:L->Ev->Prop):Prop:=match o with
 |some (.d x)=>so (.d x) Z
 |some (.own _ xs)=>so (.d (.lst xs)) (Z.set i (.d (.lst xs)))
 |some (.bx a ls)=>Be a ls λx=>so (.d x) (Z.set i (.d x))
 |_=>False
def aj(i:Nat):W L:=λZ so=>K4 Z[i]? i Z so
theorem K5(x:D)(i:Nat)(Z:Ev)(so:L->Ev->Prop):K4 (some (.d x)) i Z so=so (.d x) Z:=rfl
theorem Ew(a:Addr)(xs:List D)(i:Nat)(Z:Ev)(so:L->Ev->Prop):K4 (some (.own a xs)) i Z so=so (.d (.lst xs)) (Z.set i (.d (.lst xs))):=rfl
theorem HG(a:Option Addr)(ls:List L)(i:Nat)(Z:Ev)(so:L->Ev->Prop):K4 (some (.bx a ls)) i Z so=Be a ls λx=>so (.d x) (Z.set i (.d x)):=rfl
theorem aC.slot{K:W.Frag}{Pr H:Hp}{σ:St}{Z:Ev}{i:Nat}{l:L}(E:aC K Pr H σ Z)(h:Z[i]?=some l):∃s,σ[i]?=some s/\a9 K H s l:=Paired.get2 E.sl h
theorem af(i:Nat){x:Str}{pos:Pos}(hN:X.N[i]?=some x:=by rfl)(hv:P0 X.env.scope x:=by first | exact Or.inl rfl | exact Or.inr (Or.inl rfl) | exact Or.inr (Or.inr rfl)) (hd:aab x:=by decide)
  (hcd:aac x:=by decide):PL X (.Name x pos) (aj i):=by
 intro gV s σ H Pr Z so I E h;unfold aj K4 at h
 cases q:Z[i]? with
 |none=>rw[q]at h;exact h.elim
 | some l =>
  rw[q]at h;obtain⟨sv,hs,sl⟩:=E.slot q
  cases l with
  |un=>exact h.elim
  |dic a kvs=>exact h.elim
  | d y =>
   obtain⟨v,rfl,r⟩:=sl;exact P8 (dY hN hv hd hcd gV s σ H (λw H'=>w=v/\H'=H) I ⟨v,hs,rfl,rfl⟩) λu s1 ⟨w,H1,I1,r1,e1,e2⟩=>by subst e1 e2;exact⟨w,H1,_,Z,I1,r1,E.cons_d r,h⟩
  | own a xs =>
   obtain⟨rfl,vs,ha,r⟩:=sl;refine P8 (dY hN hv hd hcd gV s σ H (λw H'=>w=.ref a/\H'=H) I ⟨.ref a,hs,rfl,rfl⟩) λu s1 ⟨w,H1,I1,r1,e1,e2⟩=>?_;subst e1 e2;obtain⟨o,I2⟩:=I1.freezeL ha;have E2:=(E.out q).freeze ha o;have hi:i<Z.length:=(Uh.mp q).1;have E3:=E2.back (i:=i) (by simp[hi]) hs;rw[VA]at E3;obtain⟨_,e,p⟩:=E2.head_d;cases e;exact⟨_,_,_,_,I2,r1,E3.cons_d p,h⟩
  | bx a ls =>
   obtain⟨y,ey,h⟩:=xJ h
   have hv':∃b,sv=some (.ref b):=by
    cases a with
    |none=>simp only[a9]at sl;obtain⟨b,_,e,_⟩:=sl;exact⟨b,e⟩
    |some b=>simp only[a9]at sl;exact⟨b,sl.1⟩
   obtain⟨b,rfl⟩:=hv';refine P8 (dY hN hv hd hcd gV s σ H (λw H'=>w=.ref b/\H'=H) I ⟨.ref b,hs,rfl,rfl⟩) λu s1 ⟨w,H1,I1,r1,e1,e2⟩=>?_;subst e1 e2;obtain⟨H2,I2,E2,_⟩:=K3 (.bx a ls) I1 (E.outL q hs) ey;have hi:i<Z.length:=(Uh.mp q).1;have E3:=E2.back (i:=i) (by simp[hi]) hs;rw[VA]at E3;obtain⟨_,e,p⟩:=E2.head_d;cases e;exact⟨_,_,_,_,I2,r1,E3.cons_d p,h⟩
def K6(o:Option L)(i:Nat)(Z:Ev)(so:L->Ev->Prop):Prop:=match o with
 |some (.d x)=>so (.d x) Z
 |some (.own a xs)=>so (.own a xs) (Z.set i .un)
 |some (.bx a ls)=>so (.bx a ls) (Z.set i .un)
 |_=>False
def um(i:Nat):W L:=λZ so=>K6 Z[i]? i Z so
theorem K7(x:D)(i:Nat)(Z:Ev)(so:L->Ev->Prop):K6 (some (.d x)) i Z so=so (.d x) Z:=rfl
theorem Ey(a:Addr)(xs:List D)(i:Nat)(Z:Ev)(so:L->Ev->Prop):K6 (some (.own a xs)) i Z so=so (.own a xs) (Z.set i .un):=rfl
theorem HH(a:Option Addr)(ls:List L)(i:Nat)(Z:Ev)(so:L->Ev->Prop):K6 (some (.bx a ls)) i Z so=so (.bx a ls) (Z.set i .un):=rfl
theorem oP(i:Nat){x:Str}{pos:Pos}(hN:X.N[i]?=some x:=by rfl)(hv:P0 X.env.scope x:=by first | exact Or.inl rfl | exact Or.inr (Or.inl rfl) | exact Or.inr (Or.inr rfl)) (hd:aab x:=by decide)
  (hcd:aac x:=by decide):PL X (.Name x pos) (um i):=by
 intro gV s σ H Pr Z so I E h;unfold um K6 at h
 cases q:Z[i]? with
 |none=>rw[q]at h;exact h.elim
 | some l =>
  rw[q]at h;obtain⟨sv,hs,sl⟩:=E.slot q
  cases l with
  |un=>exact h.elim
  |dic a kvs=>exact h.elim
  | d y =>
   obtain⟨v,rfl,r⟩:=sl;exact P8 (dY hN hv hd hcd gV s σ H (λw H'=>w=v/\H'=H) I ⟨v,hs,rfl,rfl⟩) λu s1 ⟨w,H1,I1,r1,e1,e2⟩=>by subst e1 e2;exact⟨w,H1,_,Z,I1,r1,E.cons_d r,h⟩
  | own a xs =>
   obtain⟨rfl,vs,ha,r⟩:=sl;refine P8 (dY hN hv hd hcd gV s σ H (λw H'=>w=.ref a/\H'=H) I ⟨.ref a,hs,rfl,rfl⟩) λu s1 ⟨w,H1,I1,r1,e1,e2⟩=>?_;subst e1 e2;exact⟨_,_,_,_,I1,r1,E.out q,h⟩
  | bx a ls =>
   have hv':∃b,sv=some (.ref b):=by
    cases a with
    |none=>simp only[a9]at sl;obtain⟨b,_,e,_⟩:=sl;exact⟨b,e⟩
    |some b=>simp only[a9]at sl;exact⟨b,sl.1⟩
   obtain⟨b,rfl⟩:=hv';refine P8 (dY hN hv hd hcd gV s σ H (λw H'=>w=.ref b/\H'=H) I ⟨.ref b,hs,rfl,rfl⟩) λu s1 ⟨w,H1,I1,r1,e1,e2⟩=>?_;subst e1 e2;exact⟨_,_,_,_,I1,r1,E.outL q hs,h⟩
theorem HI{x:Str}{v:V}{u:Value}{y:D}{pos:Pos}(hg:Gl X x)(hm:X.mg x=some u)(r:bS v u)(hy:∀ H,QH X.K H v y) (hd:aab x:=by decide):PL X (.Name x pos) (wC y) :=
 PL.of (xr hg hm r hd) λσ H Pr Z so E h=>⟨_,_,E.cons_d (hy H),h⟩
def vL:L->(Bool->Prop)->Prop
 |.d (.bl b),k=>k b
 |_,_=>False
def aR(t:W L):W Bool:=λZ so=>t Z λr Z1=>vL r λb=>so b Z1
theorem qO{r:L}{k:Bool->Prop}(h:vL r k):∃b,r=.d (.bl b)/\k b:=by
 cases r with
 | d x=>cases x with
  |bl b=>exact⟨b,rfl,h⟩
  |_=>exact h.elim
 |_=>exact h.elim
theorem bV{t:W L}(h:PL X e t)(he:∀whole,isTrue e X.env whole=(do let v <- whole;standAt e.pos;holding [v] (truthy v)):=by intro _;rfl):PB X e (aR t):=by intro gV s σ H Pr Z so I E ht;rw[he];refine kS (P8 (h gV s σ H Pr Z _ I E ht) λu s1 ⟨v,H1,r,Z1,I1,rv,E1,p⟩=>kS (We (Vz ?_)));obtain⟨b,rfl,p⟩:=qO p;obtain⟨_,e1,p1⟩:=E1.head_d;cases e1;obtain rfl:=QH.inv_bl p1;cases rv;exact UO ⟨H1,Z1,I1,E1.tail,p⟩
end
section
variable{X:Cx}{e a b c:Expr}{rest:List Expr}{pos:Pos}{ta tb:W L}{tA tB:W Bool}
def QR(X:Cx)(e:Expr)(t:W Bool):Prop :=
 ∀(whole:Sem Value)(gV:List (Addr×Obj))(s:Shared)(σ:St)(H Pr:Hp)(Z:Ev)(so:Bool->Ev->Prop),P4 X gV σ H s->aC X.K Pr H σ Z->t Z so->wpAny (model X.prog X.w) X.A (isTrue e X.env whole) (EB X gV σ Pr so) X.xe s
theorem QR.pb{t:W Bool}(h:QR X e t):PB X e t:=h _
def HJ(t u:W Bool):W Bool:=λZ so=>t Z λc Z1=>if c=true then u Z1 so else so false Z1
def QS(t u:W Bool):W Bool:=λZ so=>t Z λc Z1=>if c=true then so true Z1 else u Z1 so
def l5(t:W Bool):W Bool:=λZ so=>t Z λc Z1=>so (!c) Z1
theorem m5(ha:PB X a tA):QR X (.BoolOp .And [a] pos) tA:=by
 intro wh gV s σ H Pr Z so I E h;refine isTrue_and (P8 (ha gV s σ H Pr Z so I E h) λc s1 e=>?_)
 cases c with
 |true=>exact isTrue_and_nil e
 |false=>exact e
theorem cn(ha:PB X a tA):QR X (.BoolOp .Or [a] pos) tA:=by
 intro wh gV s σ H Pr Z so I E h;refine isTrue_or (P8 (ha gV s σ H Pr Z so I E h) λc s1 e=>?_)
 cases c with
 |false=>exact isTrue_or_nil e
 |true=>exact e
theorem qP(ha:PB X a tA)(hb:QR X (.BoolOp .And (b::rest) pos) tB):QR X (.BoolOp .And (a::b::rest) pos) (HJ tA tB):=by
 intro wh gV s σ H Pr Z so I E h;refine isTrue_and (P8 (ha gV s σ H Pr Z _ I E h) λc s1 h_=>h_.on λH1 Z1 I1 E1 q1=>?_)
 cases c with
 |true=>exact hb wh gV s1 σ H1 Pr Z1 so I1 E1 q1
 |false=>exact⟨H1,Z1,I1,E1,q1⟩
theorem b9(ha:PB X a tA)(hb:QR X (.BoolOp .Or (b::rest) pos) tB):QR X (.BoolOp .Or (a::b::rest) pos) (QS tA tB):=by
 intro wh gV s σ H Pr Z so I E h;refine isTrue_or (P8 (ha gV s σ H Pr Z _ I E h) λc s1 h_=>h_.on λH1 Z1 I1 E1 q1=>?_)
 cases c with
 |true=>exact⟨H1,Z1,I1,E1,q1⟩
 |false=>exact hb wh gV s1 σ H1 Pr Z1 so I1 E1 q1
theorem bN(ha:PB X a tA):PB X (.UnaryOp .Not a pos) (l5 tA):=by intro gV s σ H Pr Z so I E h;exact isTrue_not (P8 (ha gV s σ H Pr Z (λc Z1=>so (!c) Z1) I E h) λ_ _ h_=>h_.on λH1 Z1 I1 E1 q=>⟨H1,Z1,I1,E1,q⟩)
theorem QT{op:CmpOp}{o:QP}(ho:QQ X (compareOp op) o)(ha:PL X a ta)(hb:PL X b tb)(hm:behindInMarks op b=false):PB X (.Compare a [op] [b] pos) (aR (aG o ta tb)):=by intro gV s σ H Pr Z so I E h;refine wpAny_isTrue_Compare1 (QO (R:=λdx dy Z2=>o dx dy λr=>vL r λb=>so b Z2) ha hb I E h λv u s2 x y H2 dx dy Z2 I2 r1 r2 E2 p1 p2 q=>?_) hm;refine P8 (ho gV s2 σ H2 Pr Z2 x y v u dx dy _ I2 r1 r2 E2.tail.tail p1 p2 q) λw s3 ⟨z,H3,r,I3,rz,E3,p⟩=>?_;obtain⟨b,rfl,p⟩:=qO p;obtain⟨_,e1,p1⟩:=E3.head_d;cases e1;obtain rfl:=QH.inv_bl p1;cases rz;exact UO ⟨H3,Z2,I3,E3.tail,p⟩
def ql(ta tb:W L):W L:=λZ so=>ta Z λr Z1=>vL r λc=>if c=true then tb Z1 so else so (.d (.bl false)) Z1
def Ez(t:W Bool):W L:=λZ so=>t Z λc Z1=>so (.d (.bl (!c))) Z1
theorem qQ {op} {t:W L} (h:PL X a t):PL X (.BoolOp op [a] pos) t:=λgV s σ H Pr Z so I E hw=>BoolOp_one (h gV s σ H Pr Z so I E hw)
theorem EL.bl{gV:List (Addr×Obj)}{σ:St}{Pr:Hp}{so:Bool->Ev->Prop}{u:Value}{s':Shared}(h:EL X gV σ Pr (λr Z=>vL r λb=>so b Z) u s') :
  ∃H' b Z',u=.bool b/\P4 X gV σ H' s'/\aC X.K Pr H' σ Z'/\so b Z':=by
 obtain⟨v,H',r,Z',I,rv,E,p⟩:=h;obtain⟨b,rfl,p⟩:=qO p;obtain⟨_,e1,p1⟩:=E.head_d;cases e1;obtain rfl:=QH.inv_bl p1;cases rv;exact⟨H',b,Z',rfl,I,E.tail,p⟩
theorem lB(ha:PL X a ta)(hb:PL X (.BoolOp .And (b::rest) pos) tb):PL X (.BoolOp .And (a::b::rest) pos) (ql ta tb):=by
 intro gV s σ H Pr Z so I E h;refine BoolOp_and (P8 (ha gV s σ H Pr Z _ I E h) λv s1 q=>?_)
 obtain⟨H1,c,Z1,rfl,I1,E1,q1⟩:=EL.bl (so:=λc Z1=>if c=true then tb Z1 so else so (.d (.bl false)) Z1) q
 refine UO ?_
 cases c with
 |true=>exact hb gV s1 σ H1 Pr Z1 so I1 E1 q1
 |false=>exact⟨.bl false,H1,_,Z1,I1,rfl,E1.cons_d (.bl false),q1⟩
theorem GH(ha:PL X a ta):PL X (.UnaryOp .Not a pos) (Ez (aR ta)):=by intro gV s σ H Pr Z so I E h;refine UnaryOp_ (P8 (ha gV s σ H Pr Z _ I E h) λv s1 q=>?_);obtain⟨H1,c,Z1,rfl,I1,E1,q1⟩:=EL.bl (so:=λc Z1=>so (.d (.bl (!c))) Z1) q;exact not_of (UO ⟨.bl (!c),H1,_,Z1,I1,rfl,E1.cons_d (.bl _),q1⟩)
def Kl(t:W Bool)(ta tb:W L):W L:=λZ so=>t Z λc Z1=>if c=true then ta Z1 so else tb Z1 so
theorem yR(hc:PB X c tA)(ha:PL X a ta)(hb:PL X b tb):PL X (.IfExp c a b pos) (Kl tA ta tb):=by
 intro gV s σ H Pr Z so I E h;refine wpAny_IfExp (P8 (hc gV s σ H Pr Z _ I E h) λd s1 h_=>h_.on λH1 Z1 I1 E1 q1=>?_)
 cases d with
 |true=>exact ha gV s1 σ H1 Pr Z1 so I1 E1 q1
 |false=>exact hb gV s1 σ H1 Pr Z1 so I1 E1 q1
def QU(op:D->(L->Prop)->Prop)(t:W L):W L:=λZ so=>t Z λx Z1=>QN x λdx=>op dx λr=>so r Z1
def BN:D->(L->Prop)->Prop
 |.int i,k=>k (.d (.int (-i)))
 |_,_=>False
theorem GI(ha:PL X a ta):PL X (.UnaryOp .USub a pos) (QU BN ta):=by
 intro gV s σ H Pr Z so I E h;refine UnaryOp_ (P8 (ha gV s σ H Pr Z _ I E h) λv s1 q=>?_);obtain⟨x,H1,dx,Z1,I1,r1,E1,q1⟩:=EL.frz (so:=λdx Z1=>BN dx λr=>so r Z1) q;obtain⟨_,e1,p1⟩:=E1.head_d;cases e1
 cases p1 with
 | int i =>
  exact P8 (KJ gV s1 σ H1 _ v (λw H'=>w=.int (-i)/\H'=H1) I1 r1 ⟨i,rfl,rfl,rfl⟩) λu s2 ⟨w,H2,I2,r2,e1,e2⟩=>by subst e1 e2;exact⟨_,_,_,Z1,I2,r2,E1.tail.cons_d (.int _),q1⟩
 |_=>exact q1.elim
variable{st:Stmt}{sts:List Stmt}{t u:W Fl}
def bu:W Fl:=λZ so=>so .nx Z
def a8(t u:W Fl):W Fl:=λZ so=>t Z λf Z1=>match f with
 |.nx=>u Z1 so
 |f=>so f Z1
theorem aO:QM X [] bu:=λ_ _ σ H Pr Z so I E h=>VS ⟨σ,H,Z,I,E,h⟩
theorem ai(h1:PM X st t)(h2:QM X sts u):QM X (st::sts) (a8 t u):=by
 intro gV s σ H Pr Z so I E h;refine wpAny_execs_cons (P8 (h1 gV s σ H Pr Z _ I E h) λf s1 q=>?_)
 cases f with
 | next =>
  obtain⟨σ',H',Z',I',E',q⟩:=q;exact h2 gV s1 σ' H' Pr Z' so I' E' q
 |ret v=>exact q
 |brk=>exact q
 |cont=>exact q
theorem aq(h1:PM X st t):QM X [st] t:=by
 intro gV s σ H Pr Z so I E h;refine wpAny_execs_cons (P8 (h1 gV s σ H Pr Z _ I E h) λf s1 q=>?_)
 cases f with
 |next=>exact VS q
 |ret v=>exact q
 |brk=>exact q
 |cont=>exact q
def lb(t:W L):W Fl:=λZ so=>t Z λ_ Z1=>so .nx Z1
theorem fk{te:W L}(he:PL X e te)(hs:swapsWith e none pos.line X.env=pure false:=by rfl):PM X (.Expr e pos) (lb te):=by intro gV s σ H Pr Z so I E h;exact wpAny_Expr_any (P8 (he gV s σ H Pr Z _ I E h) λv s1 h_=>h_.on λx H1 r Z1 I1 r1 E1 q1=>⟨σ,H1,Z1,I1,E1.tail,q1⟩) I.quiet hs
def cf(t:W L):W Fl:=λZ so=>t Z λr Z1=>so (.rt r) Z1
theorem aN{te:W L}(he:PL X e te):PM X (.Return (some e) pos) (cf te):=by intro gV s σ H Pr Z so I E h;exact wpAny_Return_some (P8 (he gV s σ H Pr Z _ I E h) λv s1 h_=>h_.on λx H1 r Z1 I1 r1 E1 q1=>⟨x,σ,H1,r,Z1,σ,I1,r1,E1,q1⟩)
def QV(c:W Bool)(t u:W Fl):W Fl:=λZ so=>c Z λb Z1=>if b=true then t Z1 so else u Z1 so
theorem bA{sa sb:List Stmt}(hc:PB X c tA)(ha:QM X sa t)(hb:QM X sb u):PM X (.If c sa sb pos) (QV tA t u):=by
 intro gV s σ H Pr Z so I E h;refine wpAny_If (P8 (hc gV s σ H Pr Z _ I E h) λd s1 h_=>h_.on λH1 Z1 I1 E1 q1=>?_)
 cases d with
 |true=>exact ha gV s1 σ H1 Pr Z1 so I1 E1 q1
 |false=>exact hb gV s1 σ H1 Pr Z1 so I1 E1 q1
theorem aC.forget{K:W.Frag}{Pr H:Hp}{σ:St}{Z:Ev}(E:aC K Pr H σ Z)(i:Nat)(v:Option V):aC K Pr H (σ.set i v) (Z.set i .un):=by
 have hsub:(owns (Z.set i .un)).Sublist (owns Z):=by
  have:∀(Z:Ev)(i:Nat),(owns (Z.set i .un)).Sublist (owns Z):=by
   intro Z
   induction Z with
   |nil=>intro i;exact V9 _
   | cons l Z ih =>
    intro i
    cases i with
    | zero =>
     show(owns Z).Sublist (owns (l::Z));rw[aK];exact Vu _ _
    | succ i =>
     show(owns (l::Z.set i .un)).Sublist (owns (l::Z));rw[aK,aK];exact(V9 _).append (ih i)
  exact this Z i
 exact⟨E.sub,E.nd.sublist hsub,λa h=>E.off a (hsub.subset h),Paired.set2 True.intro i E.sl⟩
theorem aC.store{K:W.Frag}{Pr H:Hp}{σ:St}{Z:Ev}{v:Option V}{l:L}(E:aC K Pr H (v::σ) (l::Z)){i:Nat}(hi:i<σ.length):aC K Pr H (σ.set i v) (Z.set i l):=by have E1:=E.forget (i+1) v;have E2:aC K Pr H (v::σ.set i v) (l::Z.set i .un):=E1;have hl:=E.tail.len;have E3:=E2.back (i:=i) (by rw[Vc xL]) (by rw[Vc hi]);rw[VA]at E3;exact E3
def bP(i:Nat)(t:W L):W Fl:=λZ so=>t Z λr Z1=>so .nx (Z1.set i r)
theorem aJ{i:Nat}{x:Str}{te:W L}{pos':Pos}(hN:X.N.Nodup)(hi:X.N[i]?=some x)(hx:P2 X.env.scope x)(he:PL X e te)(hs:swapsWith e (some (.Name x pos')) pos.line X.env=pure false:=by rfl)(hf:X.fn x=true∨X.env.scope.names.lookup x=some .local:=by first|exact .inl rfl|exact .inr rfl|assumption) :
  PM X (.Assign [.Name x pos'] e pos) (bP i te):=by
 intro gV s σ H Pr Z so I E h;refine wpAny_Assign_Name (P8 (he gV s σ H Pr Z _ I E h) λv s1 h_=>h_.on λy H1 r Z1 I1 r1 E1 q1=>?_) hs;exact kN I1 hN hi hx r1 (λs2 I2=>⟨_,H1,_,I2,E1.store (by rw[I1.len];exact(Uh.mp hi).1),q1⟩) hf
end
theorem m6{a b:Ev}(h:a.Perm b):(owns a).Perm (owns b):=by
 induction h with
 |nil=>exact .refl _
 |cons x _ ih=>rw[aK,aK];exact ih.append_left _
 | swap x y l =>
  rw[aK,aK,aK,aK,<- UT,<- UT];exact List.Perm.append_right _ Vf
 |trans _ _ h1 h2=>exact h1.trans h2
theorem EC{a b:Ev}(h:a.Sublist b):(owns a).Sublist (owns b):=by
 induction h with
 |slnil=>exact .refl _
 |cons x _ ih=>rw[aK];exact ih.trans (Vu _ _)
 |cons_cons x _ ih=>rw[aK,aK];exact(V9 _).append ih
def tL(K:W.Frag)(t:W L):TE:=λσ H Q=>∃Pr Z so,aC K Pr H σ Z/\t Z so/\∀v H' r Z',aC K Pr H' (some v::σ) (r::Z')->so r Z'->Q v H'
def tW(K:W.Frag)(t:W Fl):TS:=λD σ H=>∃Pr Z so,aC K Pr H σ Z/\t Z so/\(∀σ' H' Z',aC K Pr H' σ' Z'->so .nx Z'->D.nx σ' H')/\(∀σ' H' Z',aC K Pr H' σ' Z'->so .bk Z'->D.bk σ' H')/\(∀σ' H' Z',aC K Pr H' σ' Z'->so .ct Z'->D.ct σ' H') /\
 ∀v τ H' r Z',aC K Pr H' (some v::τ) (r::Z')->so (.rt r) Z'->D.rt v H'
noncomputable def QW(K:W.Frag)(t:W Bool):TT:=λσ H Q=>∃Pr Z so,aC K Pr H σ Z/\t Z so/\∀b H' Z',aC K Pr H' σ Z'->so b Z'->Q b H'
section
variable{X:Cx}{e a b:Expr}{es:List Expr}{pos:Pos}{st:Stmt}{sts:List Stmt}{t u:W Fl}
theorem PL.pe{t:W L}(h:PL X e t):PE X e (tL X.K t):=λgV s σ H Q I ⟨Pr,Z,so,E,ht,q⟩ =>
 P8 (h gV s σ H Pr Z so I E ht) λu s1 h_=>h_.on λv H1 r Z1 I1 rv E1 p=>⟨v,H1,I1,rv,q v H1 r Z1 E1 p⟩
theorem PB.pt{t:W Bool}(h:PB X e t):PT X e (QW X.K t):=λgV s σ H Q I ⟨Pr,Z,so,E,ht,q⟩ =>
 P8 (h gV s σ H Pr Z so I E ht) λb s1 h_=>h_.on λH1 Z1 I1 E1 p=>⟨H1,I1,q b H1 Z1 E1 p⟩
theorem QM.pss(h:QM X sts t):P7 X sts (tW X.K t):=λgV s σ H D I ⟨Pr,Z,so,E,ht,q1,q2,q3,q4⟩ =>
 P8 (h gV s σ H Pr Z so I E ht) λf s1 q=>by
  cases f with
  |next=>obtain⟨σ',H',Z',I',E',p⟩:=q;exact⟨σ',H',I',q1 σ' H' Z' E' p⟩
  |brk=>obtain⟨σ',H',Z',I',E',p⟩:=q;exact⟨σ',H',I',q2 σ' H' Z' E' p⟩
  |cont=>obtain⟨σ',H',Z',I',E',p⟩:=q;exact⟨σ',H',I',q3 σ' H' Z' E' p⟩
  |ret u=>obtain⟨v,σ',H',r,Z',τ,I',rv,E',p⟩:=q;exact⟨v,σ',H',I',rv,q4 v τ H' r Z' E' p⟩
noncomputable def K8(K:W.Frag)(Pr:Hp)(so:Fl->Ev->Prop):Kk where
 nx:=λσ' H'=>∃Z',aC K Pr H' σ' Z'/\so .nx Z'
 rt:=λv H'=>∃τ r Z',aC K Pr H' (some v::τ) (r::Z')/\so (.rt r) Z'
 bk:=λσ' H'=>∃Z',aC K Pr H' σ' Z'/\so .bk Z'
 ct:=λσ' H'=>∃Z',aC K Pr H' σ' Z'/\so .ct Z'
theorem PM.of{ts:TS}(h:PS X st ts)(q:∀σ H Pr Z so,σ.length=X.N.length->aC X.K Pr H σ Z->t Z so->ts (K8 X.K Pr so) σ H):PM X st t:=λgV s σ H Pr Z so I E ht =>
 P8 (h gV s σ H _ I (q σ H Pr Z so I.len E ht)) λf s1 q=>by
  cases f with
  |next=>obtain⟨σ',H',I',Z',E',p⟩:=q;exact⟨σ',H',Z',I',E',p⟩
  |brk=>obtain⟨σ',H',I',Z',E',p⟩:=q;exact⟨σ',H',Z',I',E',p⟩
  |cont=>obtain⟨σ',H',I',Z',E',p⟩:=q;exact⟨σ',H',Z',I',E',p⟩
  |ret u=>obtain⟨v,σ',H',I',rv,τ,r,Z',E',p⟩:=q;exact⟨v,σ',H',r,Z',τ,I',rv,E',p⟩
theorem aC.narrow{K:W.Frag}{Pr H1 H:Hp}{σ1 σ:St}{Z1 Z:Ev}(E1:aC K Pr H1 σ1 Z1)(E:aC K (bD H1 Z1) H σ Z):aC K Pr H σ Z:=by
 refine⟨λb o e=>E.sub b o ?_,E.nd,λa ha=>?_,E.sl⟩
 . unfold bD;rw[if_neg,E1.sub b o e];intro hm;have z:=E1.off b hm;rw[e]at z;cases z
 .
  have z:=E.off a ha;unfold bD at z;by_cases hm:a∈owns Z1
  . exact E1.off a hm
  .
   rw[if_neg hm]at z
   cases q:Pr a with
   |none=>rfl
   |some o=>rw[E1.sub a o q]at z;cases z
def aQ:W (List L):=λZ so=>so [] Z
def aE(t:W L)(r:W (List L)):W (List L):=λZ so=>t Z λx Z1=>r Z1 λxs Z2=>so (x::xs) Z2
def gG(i:Nat)(r:W (List L)):W (List L):=λZ so=>match Z[i]? with
 |some (.own _ _)=>r Z λxs Z2=>so (.un::xs) Z2
 |_=>False
theorem ag:QJ X [] [] aQ:=λ_ gV s σ H Pr Z so I E h=>Calls.spliced_nil ⟨[],H,[],Z,I,.nil,rfl,rfl,E,λk i e=>by simp at e,h⟩
theorem ae{bs:List (Option Nat)}{r:W (List L)}{t:W L}(ha:PL X e t)(hr:QJ X es bs r)(hs:starEach (e::es) X.env=(false,eval e X.env)::starEach es X.env:=by rfl):QJ X (e::es) (none::bs) (aE t r):=by
 intro pos gV s σ H Pr Z so I E h;rw[hs];show wpAny _ _ (spliced ((false,eval e X.env)::backTo pos (starEach es X.env))) _ _ s;refine V3 (P8 (ha gV s σ H Pr Z _ I E h) λu s1 h_=>h_.on λx H1 l Z1 I1 r1 E1 q1=>?_);refine P8 (hr pos gV s1 σ H1 _ Z1 _ I1 E1.tail.wide q1) λus s2 h_=>h_.on λvs H2 ls Z2 I2 r2 hl hb E2 hv q2=>?_;have E3:aC X.K Pr H2 (vs.map some++(some x::σ)) (ls++(l::Z2)):=aC.step (τ:=[some x]) (lam:=[l]) E1 rfl E2 (by simp[hl])
 have E4:aC X.K Pr H2 (some x::(vs.map some++σ)) (l::(ls++Z2)):=by
  have pm:(owns (ls++(l::Z2))).Perm (owns (l::(ls++Z2))):=m6 List.perm_middle;have s1:=Paired.unapp (by simp[hl]) E3.sl;obtain⟨s1,s2⟩:=s1
  cases s2 with
  |cons q t=>exact⟨E3.sub,pm.nodup_iff.mp E3.nd,λa h=>E3.off a (pm.mem_iff.mpr h),.cons q (Paired.app s1 t)⟩
 refine⟨x::vs,H2,l::ls,Z2,I2,.cons r1 r2,by simp[hl],by simp[hb],E4,λk i e=>?_,q2⟩
 cases k with
 |zero=>simp at e
 |succ k=>simpa using hv k i (by simpa using e)
theorem aX(i:Nat){x:Str}{p:Pos}{bs:List (Option Nat)}{r:W (List L)}(hr:QJ X es bs r)(hN:X.N[i]?=some x:=by rfl)(hv:P0 X.env.scope x:=by first | exact Or.inl rfl | exact Or.inr (Or.inl rfl) | exact Or.inr (Or.inr rfl)) (hd:aab x:=by decide)
  (hcd:aac x:=by decide) (hs:starEach (.Name x p::es) X.env=(false,eval (.Name x p) X.env)::starEach es X.env:=by rfl):QJ X (.Name x p::es) (some i::bs) (gG i r):=by
 intro pos gV s σ H Pr Z so I E h;unfold gG at h
 cases q:Z[i]? with
 |none=>rw[q]at h;exact h.elim
 | some l =>
  rw[q]at h
  cases l with
  |un=>exact h.elim
  |d y=>exact h.elim
  |bx _ _=>exact h.elim
  |dic _ _=>exact h.elim
  | own a xs =>
   obtain⟨sv,hsl,sl⟩:=E.slot q;obtain⟨rfl,_⟩:=sl;rw[hs];show wpAny _ _ (spliced ((false,eval (.Name x p) X.env)::backTo pos (starEach es X.env))) _ _ s;refine V3 (P8 (dY hN hv hd hcd gV s σ H (λw H'=>w=.ref a/\H'=H) I ⟨.ref a,hsl,rfl,rfl⟩) λu s1 ⟨w,H1,I1,r1,e1,e2⟩=>?_);subst e1 e2;refine P8 (hr pos gV s1 σ H1 Pr Z _ I1 E h) λus s2 ⟨vs,H2,ls,Z2,I2,r2,hl,hb,E2,hv,q2⟩=>?_;refine⟨.ref a::vs,H2,.un::ls,Z2,I2,.cons r1 r2,by simp[hl],by simp[hb],E2.cons_un,λk j e=>?_,q2⟩
   cases k with
   |zero=>simp at e;subst e;exact⟨rfl,.ref a,rfl,hsl⟩
   |succ k=>simpa using hv k j (by simpa using e)
def D3:List L->(List D->Prop)->Prop
 |[],k=>k []
 |.d x::r,k=>D3 r λxs=>k (x::xs)
 |_::_,_=>False
theorem jT:∀{ls:List L}{k:List D->Prop},D3 ls k->∃xs,ls=xs.map .d/\k xs
 |[],_,h=>⟨[],rfl,h⟩
 | .d x::r,k,h=>by obtain⟨xs,e,q⟩:=jT (ls:=r) h;exact⟨x::xs,by rw[e];rfl,q⟩
 |.un::_,_,h=>h.elim
 |.own _ _::_,_,h=>h.elim
theorem jU{K:W.Frag}{Pr H:Hp}{σ:St}{Z:Ev}:∀{vs:List V}{xs:List D},vs.length=xs.length->aC K Pr H (vs.map some++σ) (xs.map .d++Z)->bC K H vs xs
 |[],[],_,_=>.nil
 | v::vs,x::xs,hl,E=>by obtain⟨w,e,r⟩:=aC.head_d (v:=some v) (x:=x) E;cases e;exact .cons r (jU (by simpa using hl) (aC.tail (v:=some v) (l:=.d x) E))
 |[],_::_,hl,_=>by simp at hl
 |_::_,[],hl,_=>by simp at hl
def uo(t:W (List L)):W L:=λZ so=>t Z λls Z1=>D3 ls λxs=>xs.length<=sizeLine/\so (.d (.tup xs)) Z1
def jo(t:W (List L)):W L:=λZ so=>t Z λls Z1=>D3 ls λxs=>xs.length<=sizeLine/\∀a,so (.own a xs) Z1
theorem d5 {x1} {bs:List (Option Nat)} {t:W (List L)} (h:QJ X es bs t):PL X (.Tuple es x1 pos) (uo t):=by
 intro gV s σ H Pr Z so I E hq;refine wpAny_Tuple_spliced (P8 (h pos gV s σ H Pr Z _ I E hq) λus s1 h_=>h_.on λvs H1 ls Z1 I1 r hl hb E1 hv q=>?_);obtain⟨xs,rfl,z,q⟩:=jT q;have kz:vs.length=xs.length:=by simpa using hl
 refine⟨by rw[<- r.length,kz];exact z,?_⟩;have hf:H1 s1.heap.objs.size=none:=I1.hok.fresh (Ul _);refine⟨.ref s1.heap.objs.size,PR H1 s1.heap.objs.size (.tup vs),_,Z1,I1.laid (t':=s1.toks) (λb u e=>Ug _ e) (Ul _) ?_,rfl,(E1.drop (by simp[kz])).cons_tup hf (jU kz E1),q⟩;exact⟨by rw[kz];exact z,us,r,⟨_,UH _ rfl,rfl,_,rfl⟩⟩
theorem bz{bs:List (Option Nat)}{t:W (List L)}(h:QJ X es bs t):PL X (.List es pos) (jo t):=by
 intro gV s σ H Pr Z so I E hq;refine wpAny_List_spliced (P8 (h pos gV s σ H Pr Z _ I E hq) λus s1 h_=>h_.on λvs H1 ls Z1 I1 r hl hb E1 hv q=>?_);obtain⟨xs,rfl,z,q⟩:=jT q;have kz:vs.length=xs.length:=by simpa using hl
 refine⟨by rw[<- r.length,kz];exact z,?_⟩;have hf:H1 s1.heap.objs.size=none:=I1.hok.fresh (Ul _);refine⟨.ref s1.heap.objs.size,PR H1 s1.heap.objs.size (.lst vs),_,Z1,I1.laid (t':=s1.toks) (λb u e=>Ug _ e) (Ul _) ?_,rfl,(E1.drop (by simp[kz])).cons_own hf (jU kz E1),q _⟩;exact⟨by rw[kz];exact z,us,0,r,UH _ rfl⟩
abbrev FS:=List L->(L->List L->Prop)->Prop
noncomputable def spF(K:W.Frag)(n:Nat)(fs:FS):Sp:=λvs H Q _=>vs.length=n/\∃Pr ls so,aC K Pr H (vs.map some) ls/\fs ls so/\∀v H' r ls',aC K Pr H' (some v::vs.map some) (r::ls')->so r ls'->Q v H'
theorem aC.swap{K:W.Frag}{Pr H:Hp}{σ τ:St}{Z lam:Ev}(hl:τ.length=lam.length)(E:aC K Pr H (τ++σ) (lam++Z)):aC K Pr H (σ++τ) (Z++lam):=by have pm:(owns (lam++Z)).Perm (owns (Z++lam)):=m6 Vf;obtain⟨s1,s2⟩:=Paired.unapp hl E.sl;exact⟨E.sub,pm.nodup_iff.mp E.nd,λa h=>E.off a (pm.mem_iff.mpr h),Paired.app s2 s1⟩
theorem GJ{K:W.Frag}{Pr H H':Hp}{σ τ:St}{Z ls ls':Ev}{v:Option V}{r:L}(hl:τ.length=ls.length)(E:aC K Pr H (τ++σ) (ls++Z))(E':aC K (bD H ls) H' (v::τ) (r::ls')):aC K Pr H' (v::(τ++σ)) (r::(ls'++Z)):=by
 have hρ:σ.length=Z.length:=(E.drop hl).len;have z:=aC.step (τ:=σ) (σ:=τ) (lam:=Z) (Z:=ls) (w:=[v]) (μ:=[r]) (E.swap hl) hρ E' rfl;have hl':τ.length=ls'.length:=by have:=E'.len;simpa using this
 obtain⟨s1,s2⟩:=Paired.unapp (a:=[v]) (b:=[r]) rfl z.sl;obtain⟨s2,s3⟩:=Paired.unapp hρ s2;have pm:(owns ([r]++(Z++ls'))).Perm (owns (r::(ls'++Z))):=m6 (List.Perm.cons r (Vf (l₁:=Z) (l₂:=ls')));exact⟨z.sub,pm.nodup_iff.mp z.nd,λa h=>z.off a (pm.mem_iff.mpr h),Paired.app s1 (Paired.app s3 s2)⟩
def bJ(fs:FS)(t:W (List L)):W L:=λZ so=>t Z λls Z1=>fs ls λr _=>so r Z1
def bg(fs:FS)(k i:Nat)(t:W (List L)):W L:=λZ so=>t Z λls Z1=>match Z1[i]? with
 |some (.own a xs)=>fs (ls.set k (.own a xs)) λr ls'=>∃ys,ls'[k]?=some (.own a ys)/\so r (Z1.set i (.own a ys))
 |_=>False
section
variable{CX:Qp}{k n:Nat}{f:Addr}{fd:FuncData}{ps:List Str}{fs:FS}{E:XK}{x:Str}{p:Pos}{bs:List (Option Nat)}{t:W (List L)}
theorem aC.drop1{K:W.Frag}{Pr H:Hp}{σ τ:St}{Z lam:Ev}{v:Option V}{r:L}(hl:τ.length=lam.length)(E:aC K Pr H (v::(τ++σ)) (r::(lam++Z))):aC K Pr H (v::σ) (r::Z):=by obtain⟨s1,s2⟩:=Paired.unapp (a:=[v]) (b:=[r]) rfl E.sl;obtain⟨s2,s3⟩:=Paired.unapp hl s2;have sb:(owns (r::Z)).Sublist (owns (r::(lam++Z))):=EC (List.Sublist.cons_cons r (Vu _ _));exact⟨E.sub,E.nd.sublist sb,λa h=>E.off a (sb.subset h),Paired.app s1 s3⟩
theorem HK(F:FnOk X.prog X.w X.K X.mg X.base CX k f fd ps (spF X.K n fs))(hr:g6 k X.A)(hg:Gl X x)(hm:X.mg x=some (.ref f))(hk:W.keepIn X.K (.ref f)=true)(hb:mW X.K fd ps [])(hx:yM CX X E)
  (ha:QJ X (e::es) bs t) (hn:bs.length=n) (hdb:aab x:=by decide) (he:starEach (e::es) X.env=(false,eval e X.env)::starEach es X.env:=by rfl) (hpl:(backTo pos (starEach es X.env)).any (·.1)=false:=by rfl) :
  PL X (.Call (.Name x p) (e::es) [] pos) (bJ fs t):=by
 intro gV s σ H Pr Z so I E0 h;refine Ve (gF I hg hm ?_ hdb);refine V1 (h₀:=X.base) I.ok.mod.kin hk (P8 (ha pos gV s σ H Pr Z _ I E0 h) λus s1 h_=>h_.on λvs H1 ls Z1 I1 r hl hbl E1 hv q=>⟨I1.kIn,?_⟩) he hpl;have hl':(vs.map some).length=ls.length:=by simp[hl]
 refine P8 (By (Q:=λv H'=>∃r Z',aC X.K Pr H' (some v::σ) (r::Z')/\so r Z') F hr hb .nil hx I1 r ?_) λu s2 ⟨v,H2,I2,rv,r,Z',E2,p⟩=>⟨v,H2,r,Z',I2,rv,E2,p⟩;rw[U5];refine⟨hbl.trans hn,bD H1 ls,ls,_,(E1.left hl').wide,q,λv H' r ls' E2 p=>⟨r,Z1,?_,p⟩⟩;have z:=GJ hl' E1 E2;have hl2:(vs.map some).length=ls'.length:=by have:=E2.len;simpa using this
 exact z.drop1 hl2
theorem ED(F:FnOk X.prog X.w X.K X.mg X.base CX k f fd ps (spF X.K n fs))(hr:g6 k X.A)(hg:Gl X x)(hm:X.mg x=some (.ref f))(hk:W.keepIn X.K (.ref f)=true)(hb:mW X.K fd ps [])(hx:yM CX X E)
  (j i:Nat) (ha:QJ X (e::es) bs t) (hj:bs[j]?=some (some i)) (hn:bs.length=n) (hdb:aab x:=by decide) (he:starEach (e::es) X.env=(false,eval e X.env)::starEach es X.env:=by rfl) (hpl:(backTo pos (starEach es X.env)).any (·.1)=false:=by rfl) :
  PL X (.Call (.Name x p) (e::es) [] pos) (bg fs j i t):=by
 intro gV s σ H Pr Z so I E0 h;refine Ve (gF I hg hm ?_ hdb);refine V1 (h₀:=X.base) I.ok.mod.kin hk (P8 (ha pos gV s σ H Pr Z _ I E0 h) λus s1 h_=>h_.on λvs H1 ls Z1 I1 r hl hbl E1 hv q=>⟨I1.kIn,?_⟩) he hpl;have hl':(vs.map some).length=ls.length:=by simp[hl]
 refine P8 (By (Q:=λv H'=>∃r Z',aC X.K Pr H' (some v::σ) (r::Z')/\so r Z') F hr hb .nil hx I1 r ?_) λu s2 ⟨v,H2,I2,rv,r,Z',E2,p⟩=>⟨v,H2,r,Z',I2,rv,E2,p⟩;rw[U5]
 try dsimp only at q
 cases qi:Z1[i]? with
 |none=>rw[qi]at q;exact q.elim
 | some l =>
  rw[qi]at q
  cases l with
  |un=>exact q.elim
  |d y=>exact q.elim
  |bx _ _=>exact q.elim
  |dic _ _=>exact q.elim
  | own a xs =>
   obtain⟨hun,w,hw,hσ⟩:=hv j i hj;obtain⟨sv,hs2,rfl,_⟩:=(E1.drop hl').slot qi;rw[hσ]at hs2;cases hs2;have hjl:j<ls.length:=(Uh.mp hun).1;have hjv:j<vs.length:=by omega
   have hil:i<Z1.length:=(Uh.mp qi).1;have E2:=E1.out (i:=ls.length+i) (a:=a) (xs:=xs) (by rw[UG xL];simpa using qi);rw[List.set_append_right _ _ xL,Va]at E2;have E3:=E2.back (i:=j) (by rw[UF hjl];exact hun) (by rw[UF (by simp;omega)];simp[hw]);rw[VN _ _ hjl]at E3;have hl3:(vs.map some).length=(ls.set j (.own a xs)).length:=by simp[hl]
   refine⟨hbl.trans hn,bD H1 (ls.set j (.own a xs)),_,_,(E3.left hl3).wide,q,λv H' r ls' E4 p=>?_⟩;obtain⟨ys,hys,p⟩:=p;refine⟨r,Z1.set i (.own a ys),?_,p⟩;have z:=GJ hl3 E3 E4;have hl4:(vs.map some).length=ls'.length:=by have:=E4.len;simpa using this
   have hjl':j<ls'.length:=by simp at hl4;omega
   have z1:=z.out (i:=1+j) (a:=a) (xs:=ys) (by rw[Nat.add_comm];simp only[VO];rw[UF hjl'];exact hys);rw[Nat.add_comm 1 j,List.set_cons_succ,VN _ _ hjl']at z1
   have z2:=z1.back (i:=(1+ls'.length)+i) (by
    rw[Nat.add_comm 1,Nat.add_right_comm,VO,UG v6]
    simp[hil]) (by
    rw[Nat.add_comm 1,Nat.add_right_comm,VO,UG (by simp at hl4 ⊢;omega)];simp at hl4 ⊢;rw[<- hl4,Va]
    exact hσ)
   rw[Nat.add_comm 1,Nat.add_right_comm,List.set_cons_succ,List.set_append_right _ _ v6]at z2;simp only[List.length_set,Va,VA]at z2;exact z2.drop1 (by simp at hl4 ⊢;exact hl4)
end
end
def yS(Z:Ev):List L->List L->Prop:=Paired λl l'=>match l with
 |.own a _=>(∃ys,l'=.own a ys/\L.own a ys∈Z)∨l'=.un
 |.bx _ _=>l'=.un
 |.dic _ _=>l'=.un
 |l=>l'=l
def bB(ls:List L)(so:L->List L->Prop):Fl->Ev->Prop:=λf Z=>match f with
 |.rt r=>∃ls',yS Z ls ls'/\so r ls'
 |.nx=>∃ls',yS Z ls ls'/\so (.d .non) ls'
 |_=>False
theorem yS.owns{Z:Ev}:∀{ls ls':List L},yS Z ls ls'->(owns ls').Sublist (owns ls)
 |_,_,.nil=>.refl _
 | l::ls,l'::ls',.cons h t=>by
  have ih:=yS.owns t;rw[aK,aK]
  cases l with
  | own a xs =>
   rcases h with⟨ys,rfl,_⟩|rfl
   . exact(V9 _).append ih
   . exact ih.trans (Vu _ _)
  |un=>have e:l'=.un:=h;subst e;exact(V9 _).append ih
  |d x=>have e:l'=.d x:=h;subst e;exact(V9 _).append ih
  |bx k ms=>have e:l'=.un:=h;subst e;exact ih.trans (Vu _ _)
  |dic k ms=>have e:l'=.un:=h;subst e;exact ih.trans (Vu _ _)
theorem yS.sub{Z:Ev}:∀{ls ls':List L},yS Z ls ls'->∀a∈L2.owns ls',a∈L2.owns Z
 |_,_,.nil=>λa ha=>by simp[L2.owns]at ha
 | l::ls,l'::ls',.cons h t=>λa ha=>by
  have ih:=yS.sub t;rw[aK]at ha;rcases Ur.mp ha with z|z
  .
   cases l with
   | own b xs =>
    rcases h with⟨ys,rfl,hm⟩|rfl
    .
     have e:a=b:=by simpa[bh]using z
     subst e;exact xG hm
    . simp[bh]at z
   |un=>have e:l'=.un:=h;subst e;simp[bh]at z
   |d x=>have e:l'=.d x:=h;subst e;simp[bh]at z
   |bx k ms=>have e:l'=.un:=h;subst e;simp[bh]at z
   |dic k ms=>have e:l'=.un:=h;subst e;simp[bh]at z
  . exact ih a z
theorem yT{K:W.Frag}{Pr H H':Hp}{σ τ:St}{ls ls' Z:Ev}{v:Option V}{r:L}(E:aC K Pr H σ ls)(E':aC K (bD H ls) H' (v::τ) (r::Z))(B:yS Z ls ls'):aC K Pr H' (v::σ) (r::ls'):=by
 have E1:=E.narrow E';have p:su H H':=uj E E'.sub;have sub:=B.sub;have nd1:(owns ls').Nodup:=E.nd.sublist B.owns;refine⟨E1.sub,?_,λa ha=>?_,?_⟩
 . have nd:=E'.nd;rw[aK]at nd ⊢;obtain⟨n1,n2,n3⟩:=UQ.mp nd;exact UQ.mpr ⟨n1,nd1,λa ha b hb=>n3 a ha b (sub b hb)⟩
 .
  rw[aK]at ha;refine E1.off a ?_;rw[aK];rcases Ur.mp ha with z|z
  . exact Uz _ z
  . exact UD _ (sub a z)
 .
  have s1:=E'.sl
  cases s1 with
  | cons q t =>
   refine .cons q ?_;have sl:=E.sl;clear E E' E1 nd1 sub
   induction B generalizing σ with
   |nil=>cases sl;exact .nil
   | cons h u ih =>
    rename_i l l' _ _
    cases sl with
    | cons s0 s2 =>
     refine .cons ?_ (ih s2)
     cases l with
     | own a xs =>
      rcases h with⟨ys,rfl,hm⟩|rfl
      . obtain⟨e,_⟩:=s0;obtain⟨_,_,_,z⟩:=Paired.mem2 t hm;exact⟨e,z⟩
      . unfold a9;exact True.intro
     |un=>have e:l'=.un:=h;subst e;unfold a9;exact True.intro
     |bx k ms=>have e:l'=.un:=h;subst e;unfold a9;exact True.intro
     |dic k ms=>have e:l'=.un:=h;subst e;unfold a9;exact True.intro
     | d x =>
      have e:l'=.d x:=h;subst e;obtain⟨w,e,r⟩:=s0;exact⟨w,e,r.pres p⟩
section
variable{P:Program}{w:World}{K:W.Frag}{mg:Str->Option Value}{base:Heap}
theorem aC.uns{K:W.Frag}{Pr H:Hp}{σ:St}{Z:Ev}(E:aC K Pr H σ Z):∀n,aC K Pr H (σ++List.replicate n none) (Z++List.replicate n .un):=λn=>by
 have e:owns (Z++List.replicate n .un)=owns Z:=by
  rw[aH]
  have:owns (List.replicate n L.un)=[]:=by
   induction n with
   |zero=>rfl
   |succ n ih=>rw[U1,pT];exact ih
  rw[this,U5]
 refine⟨E.sub,by rw[e];exact E.nd,λa h=>E.off a (by rw[e]at h;exact h),Paired.app E.sl ?_⟩
 induction n with
 |zero=>exact .nil
 | succ n ih =>
  rw[U1,U1];refine .cons True.intro (ih ?_)
  have:owns (List.replicate n L.un)=[]:=by
   clear ih e
   induction n with
   |zero=>rfl
   |succ n ih=>rw[U1,pT];exact ih
  rw[aH,this,U5]
theorem cy{x qual:Str}{st:Stmt}{f:Addr}{fd:FuncData}{N ps:List Str}{k:Nat}{fs:FS}(F:QF K x qual st f fd)(S:aU N ps (au st))(t:W Fl)
  (hbody:∀(cdv:Value)(A:Around)(outer:List Env)(s:Shared)(H:Hp)(E:XK),g6 k (A.deeper (envOfC qual (au st) s.heap.objs.size f cdv))->QM (D2 CX0 P w K mg base N qual (au st) f cdv A outer s H E).nox (cL st) t)
  (h:∀ls so,ls.length=ps.length->fs ls so->t (ls++List.replicate (N.length-ps.length) .un) (bB ls so)):FnOk P w K mg base CX0 (k+1) f fd ps (spF K ps.length fs):=by
 refine F.ok S (λvs H Q E q=>q.1) (λcdv A outer s H vs Q E hr q=>?_);obtain⟨hl,Pr,ls,so,E0,hf,q⟩:=q;refine⟨_,(hbody cdv A outer s H E hr).pss,bD H ls,ls++List.replicate (N.length-ps.length) .un,bB ls so,?_,h ls so (by rw[<- hl];have:=E0.len;simpa using this.symm) hf,λσ' H' Z' E' p=>?_,λ_ _ _ _ p=>p.elim,λ_ _ _ _ p=>p.elim,λv τ H' r Z' E' p=>?_⟩
 . unfold mX;rw[hl];exact E0.wide.uns _
 . obtain⟨ls',B,p⟩:=p;exact q .non H' (.d .non) ls' (yT E0 (E'.cons_d .non) B) p
 . obtain⟨ls',B,p⟩:=p;exact q v H' r ls' (yT E0 E' B) p
end
theorem aZ{Z:Ev}:yS Z [] []:=.nil
theorem aB{Z:Ev}{x:D}{a b:List L}(t:yS Z a b):yS Z (.d x::a) (.d x::b):=.cons rfl t
theorem eY{Z:Ev}{p:Addr}{xs ys:List D}{a b:List L}(h:L.own p ys∈Z)(t:yS Z a b):yS Z (.own p xs::a) (.own p ys::b):=.cons (.inl ⟨ys,rfl,h⟩) t
section
variable{X:Cx}{e a b c tg:Expr}{es:List Expr}{pos:Pos}{tA:W Bool}{t u:W Fl}
def yU(c:W Bool)(b:W Fl):W Fl:=λZ so=>∃J:Nat->Ev->Prop,(∃n,J n Z)/\∀n Z,J n Z->c Z λt Z1=>if t=true then b Z1 λf Z2=>(match f with
 |.nx=>∃m,m<n/\J m Z2
 |.ct=>∃m,m<n/\J m Z2
 |.bk=>so .nx Z2
 |.rt r=>so (.rt r) Z2)else so .nx Z1
theorem uq{body:List Stmt}(hp:PassesOwn (model X.prog X.w) X.A X.env X.xe)(hc:PB X c tA)(hb:QM X body t):PM X (.While c body [] pos) (yU tA t):=by
 refine PM.of (Ee hp hc.pt hb.pss) λσ H Pr Z so kz E h=>?_;obtain⟨J,⟨n0,j0⟩,turn⟩:=h;refine⟨λn σ H=>∃Z,aC X.K Pr H σ Z/\J n Z,⟨n0,Z,E,j0⟩,λn σ1 H1 ⟨Z1,E1,j1⟩=>⟨Pr,Z1,_,E1,turn n Z1 j1,λb H2 Z2 E2 q=>?_⟩⟩
 cases b with
 |false=>exact⟨Z2,E2,q⟩
 | true =>
  refine⟨λσ' H'=>∃Z' m,aC X.K Pr H' σ' Z'/\m<n/\J m Z',λσ' H' ⟨Z',m,E',hm,j⟩=>⟨m,hm,Z',E',j⟩,Pr,Z2,_,E2,q,λσ' H' Z' E' ⟨m,hm,j⟩=>⟨Z',m,E',hm,j⟩,λσ' H' Z' E' p=>⟨Z',E',p⟩,λσ' H' Z' E' ⟨m,hm,j⟩=>⟨Z',m,E',hm,j⟩,λv τ H' r Z' E' p=>⟨τ,r,Z',E',p⟩⟩
abbrev Tg:=D->Ev->(Ev->Prop)->Prop
def QX(X:Cx)(tg:Expr)(g:Tg):Prop:=∃gg:TG,PG X tg gg/\∀v σ H Pr Z x k,σ.length=X.N.length->aC X.K Pr H σ Z->QH X.K H v x->g x Z k->gg v σ H λσ' H'=>H'=H/\σ'.length=X.N.length/\∃Z',aC X.K Pr H σ' Z'/\k Z'
def bL(i:Nat):Tg:=λx Z k=>k (Z.set i (.d x))
theorem ur{i:Nat}{x:Str}(hN:X.N.Nodup)(hi:X.N[i]?=some x)(hx:P2 X.env.scope x)(hf:X.fn x=true∨X.env.scope.names.lookup x=some .local:=by first|exact .inl rfl|exact .inr rfl|assumption):QX X (.Name x pos) (bL i) :=
 ⟨_,xw hN hi hx hf,λv σ H Pr Z x k hl E r h=>⟨rfl,by simpa using hl,_,(E.cons_d r).store (by rw[hl];exact(Uh.mp hi).1),h⟩⟩
def jV:List Nat->List D->Ev->(Ev->Prop)->Prop
 |[],[],Z,k=>k Z
 |i::is,x::xs,Z,k=>jV is xs (Z.set i (.d x)) k
 |_,_,_,_=>False
def QY(X:Cx)(es:List Expr)(is:List Nat):Prop:=∃gg:Qc,Qd X es gg/\es.length=is.length/\∀vs σ H Pr Z xs k,σ.length=X.N.length->aC X.K Pr H σ Z->bC X.K H vs xs->jV is xs Z k->gg vs σ H λσ' H'=>H'=H/\σ'.length=X.N.length/\∃Z',aC X.K Pr H σ' Z'/\k Z'
theorem oQ:QY X [] []:=⟨_,Hj,rfl,λvs σ H Pr Z xs k hl E r h=>by
 cases r with
 |nil=>exact⟨rfl,rfl,hl,Z,E,h⟩
 |cons _ _=>exact h.elim⟩
theorem cj{i:Nat}{is:List Nat}{x:Str}(hN:X.N.Nodup)(hi:X.N[i]?=some x)(hx:P2 X.env.scope x)(hr:QY X es is)(hf:X.fn x=true∨X.env.scope.names.lookup x=some .local:=by first|exact .inl rfl|exact .inr rfl|assumption)
  (hs:(assignEach (.Name x pos::es) X.env).map (·.2)=assign (.Name x pos) X.env::(assignEach es X.env).map (·.2):=by rfl):QY X (.Name x pos::es) (i::is):=by
 obtain⟨gg,hg,kz,q⟩:=hr;refine⟨_,Ed (xw hN hi hx hf) hg hs,by simp[kz],λvs σ H Pr Z xs k hl E r h=>?_⟩
 cases r with
 |nil=>exact h.elim
 | cons r0 t =>
  refine⟨_,_,rfl,?_⟩;exact q _ _ H Pr _ _ k (by simpa using hl) ((E.cons_d r0).store (by rw[hl];exact(Uh.mp hi).1)) t h
def m7(is:List Nat):Tg:=λx Z k=>match x with
 |.tup xs=>jV is xs Z k
 |_=>False
theorem qR:∀{is:List Nat}{xs:List D}{Z:Ev}{k:Ev->Prop},jV is xs Z k->xs.length=is.length
 |[],[],_,_,_=>rfl
 |_::is,_::xs,_,_,h=>by simp[qR (is:=is) (xs:=xs) h]
 |[],_::_,_,_,h=>h.elim
 |_::_,[],_,_,h=>h.elim
theorem sW{is:List Nat}{k:Nat}(hc:X.calm=true)(h:QY X es is)(hn:(assignEach es X.env).length=is.length:=by rfl)(hst:(assignEach es X.env).findIdx? (·.1)=none:=by rfl):QX X (.Tuple es k pos) (m7 is):=by
 obtain⟨gg,hg,kz,q⟩:=h;refine⟨_,KA hc hg hn hst,λv σ H Pr Z x k hl E r h=>?_⟩
 cases r with
 |tup hs rs=>exact⟨_,_,rfl,hs,by rw[rs.length];exact qR h,q _ σ H Pr Z _ k hl E rs h⟩
 |_=>exact h.elim
def iJ(g:Tg)(b:W Fl):List D->W Fl
 |[]=>λZ so=>so .nx Z
 | x::xs=>λZ so=>g x Z λZ1=>b Z1 λf Z2=>match f with
  |.nx=>iJ g b xs Z2 so
  |.ct=>iJ g b xs Z2 so
  |.bk=>so .nx Z2
  |.rt r=>so (.rt r) Z2
def iK:D->(List D->Prop)->Prop
 |.lst xs,k=>k xs
 |.tup xs,k=>k xs
 |_,_=>False
def K9(H H':Hp):Prop:=H'=H∨∃p o,H p=none/\H'=PR H p o
theorem aC.grown{K:W.Frag}{Pr H H':Hp}{σ:St}{Z:Ev}(E:aC K Pr H σ Z)(g:K9 H H'):aC K Pr H' σ Z:=by
 rcases g with rfl|⟨p,o,h,rfl⟩
 . exact E
 . exact E.new h
def xM(K:W.Frag)(H:Hp)(J:It)(xs:List D):Prop:=∀H',su H H' ->
 (∀i x,xs[i]?=some x->J.go i H'/\∀v H2,J.yld i H' v H2->K9 H' H2/\QH K H2 v x)/\J.stop xs.length H'
inductive EI (X:Cx) (gV:List (Addr×Obj)) (σ:St) (tg:Expr) (Pr:Hp) (so:List D->Ev->Prop) (itv:Value) (s2:Shared):Prop
 |mk (it:Addr) (fp:List Addr) (tn:Nat->Heap->Prop) (J:It) (H':Hp) (xs:List D) (Z':Ev) (hv:itv=.ref it) (i:P4 X gV σ H' s2) (t:GC X.prog X.w X.K tg J fp it tn) (h0:tn 0 s2.heap) (hf:∀b∈fp,Bm X gV H' b) (e:aC X.K Pr H' σ Z') (g:xM X.K H' J xs) (p:so xs Z')
def QZ(X:Cx)(tg iter:Expr)(w:W (List D)):Prop :=
 ∀(gV:List (Addr×Obj))(s:Shared)(σ:St)(H Pr:Hp)(Z:Ev)(so:List D->Ev->Prop),P4 X gV σ H s->aC X.K Pr H σ Z->w Z so ->
  wpAny (model X.prog X.w) X.A (eval iter X.env) (λv s1=>wpAny (model X.prog X.w) X.A (pyIter v) (EI X gV σ tg Pr so) X.xe s1) X.xe s
def D4(t:W L):W (List D):=λZ so=>t Z λr Z1=>QN r λx=>iK x λxs=>so xs Z1
theorem Ay{K:W.Frag}{H:Hp}{a:Addr}{vs:List V}{xs:List D}(h:QG K H a vs)(r:bC K H vs xs):xM K H (Qf K a) xs:=λH' p=>by have h':=(h.pres p).l;refine⟨λi x e=>?_,⟨vs,h',by rw[r.length];exact Ul _⟩⟩;obtain⟨v,ev,rv⟩:=r.get e;refine⟨⟨vs,v,h',ev⟩,λw H2 ⟨e1,e2⟩=>?_⟩;have e3:=e2 vs h';rw[ev]at e3;cases e3;subst e1;exact⟨.inl rfl,rv.pres p⟩
theorem BO{K:W.Frag}{H:Hp}{a:Addr}{vs:List V}{xs:List D}(h:Qb K H a vs)(r:bC K H vs xs):xM K H (Qg K a) xs:=λH' p=>by have h':=h.pres p;refine⟨λi x e=>?_,⟨vs,h',by rw[r.length];exact Ul _⟩⟩;obtain⟨v,ev,rv⟩:=r.get e;refine⟨⟨vs,v,h',ev⟩,λw H2 ⟨e1,e2⟩=>?_⟩;have e3:=e2 vs h';rw[ev]at e3;cases e3;subst e1;exact⟨.inl rfl,rv.pres p⟩
theorem jW{t:W L}(h:PL X e t):QZ X tg e (D4 t):=by
 intro gV s σ H Pr Z so I E ht;refine P8 (h gV s σ H Pr Z _ I E ht) λu s1 q=>?_;obtain⟨v,H1,x,Z1,I1,r1,E1,q2⟩:=EL.frz (so:=λx Z1=>iK x λxs=>so xs Z1) q;obtain⟨_,e1,p⟩:=E1.head_d;cases e1
 cases p with
 | lst hz rs =>
  cases r1;obtain⟨its,rv,pl,hz'⟩:=I1.list hz.l;refine wpAny_pyIter_list pl.isList ?_;refine⟨s1.heap.objs.size,[s1.heap.objs.size],_,_,H1,_,Z1,rfl,I1.kept (t':=s1.toks) λb o e=>Ug _ e,Bo _ _,⟨_,UH _ rfl,rfl,rfl⟩,λb hb=>?_,E1.tail,Ay hz rs,q2⟩;have e:b=s1.heap.objs.size:=by simpa using hb
  subst e;exact I1.fpOk (Ul _) (I1.hok.fresh (Ul _))
 | tup hz rs =>
  cases r1;obtain⟨its,rv,pl,hz'⟩:=I1.tuple hz;refine wpAny_pyIter_tuple (show s1.heap.IsTuple _ its.toArray from pl) ?_;refine⟨s1.heap.objs.size,[s1.heap.objs.size],_,_,H1,_,Z1,rfl,I1.kept (t':=s1.toks) λb o e=>Ug _ e,Ai _ _,⟨_,UH _ rfl,rfl,rfl⟩,λb hb=>?_,E1.tail,BO hz rs,q2⟩;have e:b=s1.heap.objs.size:=by simpa using hb
  subst e;exact I1.fpOk (Ul _) (I1.hok.fresh (Ul _))
 |_=>exact q2.elim
noncomputable def xl(lo:Int)(n:Nat):List D:=(List.range n).map λ(i:Nat)=>.int (lo+(i:Int))
theorem vM{K:W.Frag}{H:Hp}(lo:Int)(n:Nat):xM K H (Qh lo n) (xl lo n):=λH' p=>by
 refine⟨λi x e=>?_,?_⟩
 .
  have hi:i<n:=by have:=(Uh.mp e).1;simpa[xl]using this
  refine⟨hi,λv H2 ⟨e1,e2⟩=>?_⟩;subst e1 e2;have:x=.int (lo+(i:Int)):=by unfold xl at e;rw[UJ,List.getElem?_range hi]at e;simpa using e.symm
  subst this;exact⟨.inl rfl,.int _⟩
 . show n<=(xl lo n).length;simp[xl]
def m8:L->(Int->Prop)->Prop
 |.d (.int i),k=>k i
 |_,_=>False
theorem cU{r:L}{k:Int->Prop}(h:m8 r k):∃i,r=.d (.int i)/\k i:=by
 cases r with
 | d x=>cases x with
  |int i=>exact⟨i,rfl,h⟩
  |_=>exact h.elim
 |_=>exact h.elim
def BP(j:Int):Prop:=-(2^62)<=j/\j<2^62
def Az(t:W L):W (List D):=λZ so=>t Z λr Z1=>m8 r λj=>BP j/\so (xl 0 j.toNat) Z1
def EE(t u:W L):W (List D):=λZ so=>t Z λr Z1=>m8 r λi=>u Z1 λr Z2=>m8 r λj=>BP i/\BP j/\so (xl i (j-i).toNat) Z2
theorem qC{t:W L}{p pos:Pos} (hg:Gl X "range") (hm:X.mg "range"=none) (ha:PL X a t) (hs:starEach [a] X.env=[(false,eval a X.env)]:=by rfl):QZ X tg (.Call (.Name "range" p) [a] [] pos) (Az t):=by
 intro gV s σ H Pr Z so I E h;refine P8 (Bp (tg:=tg) hg hm (bE ha.pe eX hs) hs gV s σ H (λJ H1=>∃Z1 n,J=Qh 0 n/\aC X.K Pr H1 σ Z1/\so (xl 0 n) Z1) I ?_) λv s1 q=>P8 q λitv s2 ⟨it,fp,tn,J,H',e,I',T,t0,hf,Z1,n,eJ,E1,q⟩=>?_
 . refine⟨Pr,Z,_,E,h,λv H' r Z' E' p=>?_⟩;obtain⟨j,rfl,hj,p⟩:=cU p;obtain⟨_,e1,p1⟩:=E'.head_d;cases e1;obtain rfl:=QH.inv_int p1;exact⟨j,rfl,hj.1,hj.2,Z',_,rfl,E'.tail,p⟩
 . subst eJ;exact⟨it,fp,tn,_,H',_,Z1,e,I',T,t0,hf,E1,vM 0 n,q⟩
theorem yV{t u:W L}{p pos:Pos} (hg:Gl X "range") (hm:X.mg "range"=none) (ha:PL X a t) (hb:PL X b u) (hs:starEach [a,b] X.env=[(false,eval a X.env),(false,eval b X.env)]:=by rfl) (hs2:starEach [b] X.env=[(false,eval b X.env)]:=by rfl):QZ X tg (.Call (.Name "range" p) [a,b] [] pos) (EE t u):=by
 intro gV s σ H Pr Z so I E h;refine P8 (Bq (tg:=tg) hg hm (bE ha.pe (bE hb.pe eX hs2) (hs.trans (by rw[hs2]))) hs hs2 gV s σ H (λJ H1=>∃Z1 lo n,J=Qh lo n/\aC X.K Pr H1 σ Z1/\so (xl lo n) Z1) I ?_) λv s1 q=>P8 q λitv s2 ⟨it,fp,tn,J,H',e,I',T,t0,hf,Z1,lo,n,eJ,E1,q⟩=>?_
 . refine⟨Pr,Z,_,E,h,λv H' r Z' E' p=>?_⟩;obtain⟨i,rfl,p⟩:=cU p;obtain⟨_,e1,p1⟩:=E'.head_d;cases e1;obtain rfl:=QH.inv_int p1;refine⟨Pr,Z',_,E'.tail,p,λv H2 r Z2 E2 p=>?_⟩;obtain⟨j,rfl,hi,hj,p⟩:=cU p;obtain⟨_,e1,p1⟩:=E2.head_d;cases e1;obtain rfl:=QH.inv_int p1;exact⟨i,j,rfl,⟨hi.1,hi.2,hj.1,hj.2⟩,Z2,_,_,rfl,E2.tail,p⟩
 . subst eJ;exact⟨it,fp,tn,_,H',_,Z1,e,I',T,t0,hf,E1,vM lo n,q⟩
def D5(s:W (List D))(g:Tg)(b:W Fl):W Fl:=λZ so=>s Z λxs Z1=>iJ g b xs Z1 so
theorem pW{iter:Expr}{body:List Stmt}{w:W (List D)}{g:Tg}(hp:PassesOwn (model X.prog X.w) X.A X.env X.xe)(hc:X.calm=true)(hi:QZ X tg iter w)(hg:QX X tg g)(hb:QM X body t)
  (hs:∀x,foldedSetIterable iter X.env x=pure x:=by intro _;rfl):PM X (.For tg iter body [] pos) (D5 w g t):=by
 intro gV s σ H Pr Z so I E h;obtain⟨gg,hg,hgg⟩:=hg;refine wpAny_For (P8 (hi gV s σ H Pr Z _ I E h) λv s1 h1=>P8 h1 λitv s2 h2=>?_) hs;obtain⟨it,fp,tn,J,H2,xs,Z2,e,I2,T,st2,f2,E2,G,w0⟩:=h2;subst e;have stat:∀{H':Hp},(∀b∈fp,H' b=none)->∀b∈fp,Bm X gV H' b:=λhn b hb=>⟨hn b hb,(f2 b hb).2⟩;refine codeAny_forLoop_any (λn s'=>∃i σ' H' Z',n+i=xs.length/\P4 X gV σ' H' s'/\tn i s'.heap/\(∀b∈fp,H' b=none)/\aC X.K (bD H2 Z2) H' σ' Z'/\iJ g t (xs.drop i) Z' so) ?_ xs.length ⟨0,σ,H2,Z2,xL,I2,st2,λb hb=>(f2 b hb).1,E2.wide,by simpa using w0⟩;rintro n s3 ⟨i,σ3,H3,Z3,hn,I3,st3,fr3,E3,w3⟩;obtain⟨go,stop⟩:=G H3 (uj E2 E3.sub);by_cases hlt:i<xs.length
 .
  obtain⟨hgo,hy⟩:=go i xs[i] (Uu hlt);rw[VH hlt]at w3;refine V4 hp (P8 (T.item X rfl rfl rfl hc i gV s3 σ3 H3 X.xe I3 (stat fr3) st3 hgo) λr s4 ⟨u,hr,h4⟩=>?_);subst hr;refine V4 hp (P8 h4 λ_ s5 ⟨x,H5,I5,r5,y5,st5,fr5⟩=>?_);obtain⟨gr,rx⟩:=hy x H5 y5;have I5':=I5.pinned (stat fr5) (T.obj _ _ st5);have E5:=E3.grown gr;refine V4 hp (P8 (hg _ s5 σ3 H5 x u _ I5' r5 (hgg x σ3 H5 _ Z3 xs[i] _ I5.len E5 rx w3)) λ_ s6 ⟨σ6,H6,I6,e6,hl6,Z6,E6,q6⟩=>?_);subst e6;refine V4 hp (P8 (hb _ s6 σ6 _ _ Z6 _ I6 E6 q6) λf s7 q7=>?_)
  have again:∀{σ7:St}{H7:Hp}{Z7:Ev},P4 X (gV++vz fp s5.heap) σ7 H7 s7->aC X.K (bD H2 Z2) H7 σ7 Z7->iJ g t (xs.drop (i+1)) Z7 so ->
    ∃m,m<n/\∃i σ' H' Z',m+i=xs.length/\P4 X gV σ' H' s7/\tn i s7.heap/\(∀b∈fp,H' b=none)/\aC X.K (bD H2 Z2) H' σ' Z'/\iJ g t (xs.drop i) Z' so:=λ{σ7 H7 Z7} I7 E7 n7=>by
   refine⟨n-1,xL,i+1,σ7,H7,Z7,xL,I7.unpinned,T.keep _ _ _ st5 λb hb o e=>(I7.pin (b,o) (UD _ (UD _ (kO hb e)))).1,λb hb=>?_,E7,n7⟩;obtain⟨o,e,d⟩:=T.obj _ _ st5 b hb;exact(I7.pin (b,o) (UD _ (UD _ (kO hb e)))).2.1
  cases f with
  |next=>obtain⟨σ7,H7,Z7,I7,E7,n7⟩:=q7;exact again I7 E7 n7
  |cont=>obtain⟨σ7,H7,Z7,I7,E7,n7⟩:=q7;exact again I7 E7 n7
  |brk=>obtain⟨σ7,H7,Z7,I7,E7,q7⟩:=q7;exact⟨σ7,H7,Z7,I7.unpinned,E2.narrow E7,q7⟩
  |ret v=>obtain⟨x7,σ7,H7,r,Z7,τ,I7,r7,E7,q7⟩:=q7;exact⟨x7,σ7,H7,r,Z7,τ,I7.unpinned,r7,E2.narrow E7,q7⟩
 .
  have e:i=xs.length:=by omega
  subst e;refine V4 hp (P8 (T.done X rfl rfl rfl hc xs.length gV s3 σ3 H3 X.xe I3 (stat fr3) st3 stop) λr s4 ⟨hr,I4⟩=>?_);subst hr;rw[List.drop_length]at w3;exact VS ⟨σ3,H3,Z3,I4,E2.narrow E3,w3⟩
end
section
variable{X:Cx}{e a b c:Expr}{pos:Pos}{ta tb:W L}
def dB(i:Int):Prop:=i.natAbs<2^1000000
def aW:QP:=λx y k=>match x,y with
 |.int i,.int j=>k (.d (.int (i+j)))
 |.str i,.str j=>i.length+j.length<=sizeLine/\k (.d (.str (i++j)))
 |.lst xs,.lst ys=>xs.length+ys.length<=sizeLine/\∀a,k (.own a (xs++ys))
 |_,_=>False
def sx:QP:=λx y k=>match x,y with
 |.int i,.int j=>k (.d (.int (i-j)))
 |_,_=>False
def vN:QP:=λx y k=>match x,y with
 |.int i,.int j=>j≠0/\j.natAbs<2^9000/\k (.d (.int (i.fdiv j)))
 |_,_=>False
def jM:QP:=λx y k=>match x,y with
 |.int i,.int j=>j≠0/\k (.d (.int (i.fmod j)))
 |_,_=>False
def AA:QP:=λx y k=>match x,y with
 |.int i,.int j=>0<=j/\j<=1000000/\i.natAbs<2^64/\k (.d (.int (i^j.toNat)))
 |_,_=>False
def yW:QP:=λx y k=>match x,y with
 |.int i,.int j=>k (.d (.bl (decide (i<j))))
 |_,_=>False
def vq:QP:=λx y k=>match x,y with
 |.int i,.int j=>k (.d (.bl (decide (i<=j))))
 |_,_=>False
def EF:QP:=λx y k=>match x,y with
 |.int i,.int j=>k (.d (.bl (decide (j<i))))
 |_,_=>False
def Km:QP:=λx y k=>match x,y with
 |.int i,.int j=>k (.d (.bl (decide (j<=i))))
 |_,_=>False
theorem BQ{i j:Int}(h1:dB i)(h2:dB j):IntMulOk i j:=IntMulOk.of_le (PySem.intBits_le_iff.mpr h1) (PySem.intBits_le_iff.mpr h2) x_
theorem HL:Qi X (binaryOp .Mult) (rI (λi j=>dB i/\dB j) λi j=>.int (i*j)):=Qm λ_ _ _ _ _ _ _ hc q=>mul_int q (BQ hc.1 hc.2)
theorem HM:Qi X (binaryOp .FloorDiv) (rI (λi j=>j≠0/\j.natAbs<2^9000) λi j=>.int (i.fdiv j)):=Qm λi j _ _ _ _ _ hc q=>floordiv_int hc.1 q (.inl (PyProof.noPylong_of_log2 ((Nat.log2_lt (by have:=hc.1;omega)).mpr hc.2)))
theorem HN:Qi X (binaryOp .Add) (λx y H Q=>∃l b xs zs,x=.ref l/\y=.ref b/\Qa X.K H l xs/\Qa X.K H b zs/\xs.length+zs.length<=sizeLine/\∀p,H p=none->Q (.ref p) (PR H p (.lst (xs++zs)))):=by
 intro gV s σ H x y v u Q I rx ry h;obtain⟨l,b,xs,zs,rfl,rfl,hH,hB,hz,q⟩:=h;cases rx;cases ry;obtain⟨its,r,⟨o,n,e,c,d,f⟩,z⟩:=I.list hH;obtain⟨its2,r2,⟨o2,n2,e2,c2,d2,f2⟩,z2⟩:=I.list hB;obtain⟨cl,dd,dt,sl⟩:=o;obtain⟨cl2,dd2,dt2,sl2⟩:=o2;simp only at c f c2 f2;subst c f c2 f2;have hl:=r.length;have hl2:=r2.length;refine concat_meets ⟨_,e,rfl⟩ ⟨_,e2,rfl⟩ noFill_list_add seq_list_add PySem.F.slot_list_add PySem.F.entry_list_add (PySem.F.args_list_add_2 _ _) (list_addW l b its.toArray its2.toArray n n2 dd dd2 sl sl2 (by rw[UB,UB];omega)) ⟨e,e2,?_⟩;have ea:its.toArray++its2.toArray=(its++its2).toArray:=by simp
 rw[ea];exact⟨.ref _,_,I.lnew (t':=s.toks) (r.append r2) (by rw[Ue];omega),rfl,q _ I.fresh⟩
theorem EG{x y:D}{k:L->Prop}(h:aW x y k):(∃i j,x=.int i/\y=.int j/\k (.d (.int (i+j))))∨(∃i j,x=.str i/\y=.str j/\i.length+j.length<=sizeLine/\k (.d (.str (i++j))))∨∃xs ys,x=.lst xs/\y=.lst ys/\xs.length+ys.length<=sizeLine/\∀a,k (.own a (xs++ys)):=by
 unfold aW at h;split at h
 . exact .inl ⟨_,_,rfl,rfl,h⟩
 . exact .inr (.inl ⟨_,_,rfl,rfl,h⟩)
 . exact .inr (.inr ⟨_,_,rfl,rfl,h⟩)
 . exact h.elim
theorem HP:QQ X (binaryOp .Add) (λx y k=>∃i j,x=.int i/\y=.int j/\k (.d (.int (i+j)))):=QQ.of KG λσ H Pr Z x y dx dy so E px py ⟨i,j,e1,e2,h⟩=>by subst e1 e2;obtain rfl:=QH.inv_int px;obtain rfl:=QH.inv_int py;exact⟨i,j,rfl,rfl,_,E.cons_d (.int _),h⟩
theorem HQ:QQ X (binaryOp .Add) (λx y k=>∃i j,x=.str i/\y=.str j/\i.length+j.length<=sizeLine/\k (.d (.str (i++j)))):=QQ.of Ak λσ H Pr Z x y dx dy so E px py ⟨i,j,e1,e2,z,h⟩=>by subst e1 e2;obtain rfl:=QH.inv_str px;obtain rfl:=QH.inv_str py;exact⟨i,j,rfl,rfl,z,_,E.cons_d (.str _),h⟩
theorem HR:QQ X (binaryOp .Add) (λx y k=>∃xs ys,x=.lst xs/\y=.lst ys/\xs.length+ys.length<=sizeLine/\∀a,k (.own a (xs++ys))):=QQ.of HN λσ H Pr Z x y dx dy so E px py ⟨xs,ys,e1,e2,z,h⟩=>by
 subst e1 e2;obtain⟨_,_,rfl,h1,r1⟩:=QH.inv_lst px
 cases py with
 |lst h2 r2=>exact⟨_,_,_,_,rfl,rfl,h1.l,h2.l,by rw[r1.length,r2.length];exact z,λp hp=>⟨_,E.cons_own hp (r1.append r2),h p⟩⟩
theorem aM:QQ X (binaryOp .Add) aW:=by
 intro gV s σ H Pr Z x y v u dx dy so I rx ry E px py ho;rcases EG ho with h|h|h
 . exact HP gV s σ H Pr Z x y v u dx dy so I rx ry E px py h
 . exact HQ gV s σ H Pr Z x y v u dx dy so I rx ry E px py h
 . exact HR gV s σ H Pr Z x y v u dx dy so I rx ry E px py h
theorem yX{f:Value->Value->Sem Value}{C:Int->Int->Prop}{g:Int->Int->V}{gd:Int->Int->D}(h:Qi X f (rI C g))(hg:∀K H i j,QH K H (g i j) (gd i j)) :
  QQ X f (λx y k=>∃i j,x=.int i/\y=.int j/\C i j/\k (.d (gd i j))) :=
 QQ.of h λσ H Pr Z x y dx dy so E px py ⟨i,j,e1,e2,z,h⟩=>by subst e1 e2;obtain rfl:=QH.inv_int px;obtain rfl:=QH.inv_int py;exact⟨i,j,rfl,rfl,z,_,E.cons_d (hg _ _ _ _),h⟩
theorem qS{f:Value->Value->Sem Value}{g:Int->Int->V}{gd:Int->Int->D}(h:Qi X f (Ql g))(hg:∀K H i j,QH K H (g i j) (gd i j)) :
  QQ X f (λx y k=>∃i j,x=.int i/\y=.int j/\k (.d (gd i j))) :=
 QQ.of h λσ H Pr Z x y dx dy so E px py ⟨i,j,e1,e2,h⟩=>by subst e1 e2;obtain rfl:=QH.inv_int px;obtain rfl:=QH.inv_int py;exact⟨i,j,rfl,rfl,_,E.cons_d (hg _ _ _ _),h⟩
theorem qT:QQ X (binaryOp .Sub) sx:=(qS KH (gd:=λi j=>.int (i-j)) λ_ _ _ _=>.int _).imp λx y k h=>by
 unfold sx at h;split at h
 . exact⟨_,_,rfl,rfl,h⟩
 . exact h.elim
theorem La:QQ X (binaryOp .Mult) (λx y k=>∃i j,x=.int i/\y=.int j/\(dB i/\dB j)/\k (.d (.int (i*j)))):=yX HL (gd:=λi j=>.int (i*j)) λ_ _ _ _=>.int _
def jX:QP:=λx y k=>match x,y with
 |.int i,.int j=>dB i/\dB j/\k (.d (.int (i*j)))
 |_,_=>False
theorem jY:QQ X (binaryOp .Mult) jX:=La.imp λx y k h=>by
 unfold jX at h;split at h
 . exact⟨_,_,rfl,rfl,⟨h.1,h.2.1⟩,h.2.2⟩
 . exact h.elim
theorem vO:QQ X (binaryOp .FloorDiv) vN:=(yX HM (gd:=λi j=>.int (i.fdiv j)) λ_ _ _ _=>.int _).imp λx y k h=>by
 unfold vN at h;split at h
 . exact⟨_,_,rfl,rfl,⟨h.1,h.2.1⟩,h.2.2⟩
 . exact h.elim
theorem fu:QQ X (binaryOp .Mod) jM:=(yX Hl (gd:=λi j=>.int (i.fmod j)) λ_ _ _ _=>.int _).imp λx y k h=>by
 unfold jM at h;split at h
 . exact⟨_,_,rfl,rfl,h.1,h.2⟩
 . exact h.elim
theorem BR:QQ X (binaryOp .Pow) AA:=(yX KI (gd:=λi j=>.int (i^j.toNat)) λ_ _ _ _=>.int _).imp λx y k h=>by
 unfold AA at h;split at h
 . exact⟨_,_,rfl,rfl,⟨h.1,h.2.1,h.2.2.1⟩,h.2.2.2⟩
 . exact h.elim
theorem xN:QQ X (compareOp .Lt) yW:=(qS KM (gd:=λi j=>.bl (decide (i<j))) λ_ _ _ _=>.bl _).imp λx y k h=>by
 unfold yW at h;split at h
 . exact⟨_,_,rfl,rfl,h⟩
 . exact h.elim
theorem Ld:QQ X (compareOp .LtE) vq:=(qS KN (gd:=λi j=>.bl (decide (i<=j))) λ_ _ _ _=>.bl _).imp λx y k h=>by
 unfold vq at h;split at h
 . exact⟨_,_,rfl,rfl,h⟩
 . exact h.elim
theorem AB:QQ X (compareOp .Gt) EF:=(qS Nj (gd:=λi j=>.bl (decide (j<i))) λ_ _ _ _=>.bl _).imp λx y k h=>by
 unfold EF at h;split at h
 . exact⟨_,_,rfl,rfl,h⟩
 . exact h.elim
theorem HS:QQ X (compareOp .GtE) Km:=(qS Nk (gd:=λi j=>.bl (decide (j<=i))) λ_ _ _ _=>.bl _).imp λx y k h=>by
 unfold Km at h;split at h
 . exact⟨_,_,rfl,rfl,h⟩
 . exact h.elim
mutual
noncomputable def Q0:D->PyData
 |.non=>.none
 |.bl b=>.bool b
 |.int i=>.int i
 |.str x=>.str x
 |.tup xs=>.tuple (gj xs)
 |.lst xs=>.list (gj xs)
 |.dct _=>.dict []
 |.exc _ _ _=>.dict []
 |.fn _ _=>.dict []
 |.dk _ _=>.dict []
 |.gf _=>.dict []
noncomputable def gj:List D->List PyData
 |[]=>[]
 |x::xs=>Q0 x::gj xs
end
noncomputable def Q1(x y:D):Bool:=PyData.eqv (Q0 x) (Q0 y)
def cq(x:D):Prop:=SeqAt.shaped (Q0 x)=true
def oO:QP:=λx y k=>cq x/\cq y/\k (.d (.bl (Q1 x y)))
def vt:QP:=λx y k=>cq x/\cq y/\k (.d (.bl (!Q1 x y)))
mutual
theorem kQ{gV:List (Addr×Obj)}{σ:St}{H:Hp}{s:Shared}(I:P4 X gV σ H s):∀(d:D)(x:V)(u:Value),bS x u->QH X.K H x d->(Q0 d).canLay0=true->∃as,Reads s.heap u (Q0 d) as
 |.non,_,_,rv,r,_=>by obtain rfl:=QH.inv_non r;cases rv;exact⟨_,.none⟩
 |.bl b,_,_,rv,r,_=>by obtain rfl:=QH.inv_bl r;cases rv;exact⟨_,.bool b⟩
 |.int i,_,_,rv,r,_=>by obtain rfl:=QH.inv_int r;obtain⟨t,rfl⟩:=rv;exact⟨_,.int i t⟩
 |.str z,_,_,rv,r,_=>by obtain rfl:=QH.inv_str r;obtain⟨t,rfl⟩:=rv;exact⟨_,.str z t⟩
 | .tup xs,_,_,rv,r,hc=>by
  obtain⟨_,_,rfl,h,rs⟩:=QH.inv_tup r
  cases rv
  obtain⟨its,vs,⟨o,e,c,n,d⟩,_⟩:=I.tuple h
  obtain⟨as,ra⟩:=fv I xs _ _ vs rs hc
  exact⟨_,.tuple (xs:=gj xs) e c d (by simpa using ra)⟩
 | .lst xs,_,_,rv,r,hc=>by
  obtain⟨_,_,rfl,h,rs⟩:=QH.inv_lst r
  cases rv
  obtain⟨its,vs,⟨o,n,e,c,_,d⟩,_⟩:=I.list h.l
  obtain⟨as,ra⟩:=fv I xs _ _ vs rs hc
  exact⟨_,.list (xs:=gj xs) e c d (by simpa using ra)⟩
 |.dct _,_,_,_,_,hc=>nomatch hc
 |.exc _ _ _,_,_,_,_,hc=>nomatch hc
 |.fn _ _,_,_,_,_,hc=>nomatch hc
 |.dk _ _,_,_,_,_,hc=>nomatch hc
 |.gf _,_,_,_,_,hc=>nomatch hc
theorem fv{gV:List (Addr×Obj)}{σ:St}{H:Hp}{s:Shared}(I:P4 X gV σ H s):∀(ds:List D)(vs:List V)(us:List Value),bT vs us->bC X.K H vs ds->PyData.canLayAll0 (gj ds)=true->∃as,ReadsAll s.heap us (gj ds) as
 |[],_,_,rv,r,_=>by cases r;cases rv;exact⟨_,.nil⟩
 | d::ds,_,_,rv,r,hc=>by
  have hc':(Q0 d).canLay0=true/\PyData.canLayAll0 (gj ds)=true:=by simpa[gj,PyData.canLayAll0]using hc
  cases r with
  | cons r0 rs =>
   cases rv with
   | cons v0 vs =>
    obtain⟨as,ra⟩:=kQ I d _ _ v0 r0 hc'.1
    obtain⟨bs,rb⟩:=fv I ds _ _ vs rs hc'.2
    exact⟨_,.cons ra rb⟩
end
theorem d6(hu:X.A.units+64<cLine):QQ X (compareOp .Eq) oO:=by intro gV s σ H Pr Z x y v u dx dy so I rx ry E px py ⟨h1,h2,ho⟩;obtain⟨as,ra⟩:=kQ I dx x v rx px (Vd h1);obtain⟨bs,rb⟩:=kQ I dy y u ry py (Vd h2);exact eq_dataH ra rb h1 h2 hu ⟨.bl _,H,_,I,rfl,E.cons_d (.bl _),ho⟩
theorem lg(hu:X.A.units+64<cLine):QQ X (compareOp .NotEq) vt:=by intro gV s σ H Pr Z x y v u dx dy so I rx ry E px py ⟨h1,h2,ho⟩;obtain⟨as,ra⟩:=kQ I dx x v rx px (Vd h1);obtain⟨bs,rb⟩:=kQ I dy y u ry py (Vd h2);exact ne_dataH ra rb h1 h2 hu ⟨.bl _,H,_,I,rfl,E.cons_d (.bl _),ho⟩
noncomputable def AC(x:D)(xs:List D):Bool:=xs.any λy=>Q1 y x
theorem Lf:QQ X (compareOp .Is) (λx y k=>y=.non/\k (.d (.bl (match x with | .non=>true|_=>false)))):=QQ.of KO λσ H Pr Z x y dx dy so E px py ⟨e,h⟩=>by subst e;obtain rfl:=QH.inv_non py;refine⟨rfl,_,E.cons_d (.bl _),?_⟩;cases px<;>exact h
def bF:QP:=λx y k=>match x,y with
 |.lst xs,.int i=>∃v,Qu xs i=some v/\k (.d v)
 |.tup xs,.int i=>∃v,Qu xs i=some v/\k (.d v)
 |.str z,.int i=>z.length<=sizeLine/\∃c,Qu z.cps.toList i=some c/\k (.d (.str ⟨#[c]⟩))
 |_,_=>False
theorem xO{K:W.Frag}{H:Hp}{vs:List V}{xs:List D}(r:bC K H vs xs){i:Int}{x:D}(h:Qu xs i=some x):∃v,Qu vs i=some v/\QH K H v x:=by
 unfold Qu at h ⊢;rw[r.length]
 cases q:Qt xs.length i with
 |none=>rw[q]at h;cases h
 | some j =>
  rw[q]at h;exact r.get h
theorem HU{x y:D}{k:L->Prop}(h:bF x y k):∃i,y=.int i/\((∃xs,x=.lst xs/\∃v,Qu xs i=some v/\k (.d v))∨(∃xs,x=.tup xs/\∃v,Qu xs i=some v/\k (.d v))∨∃z,x=.str z/\z.length<=sizeLine/\∃c,Qu z.cps.toList i=some c/\k (.d (.str ⟨#[c]⟩))):=by
 unfold bF at h;split at h
 . exact⟨_,rfl,.inl ⟨_,rfl,h⟩⟩
 . exact⟨_,rfl,.inr (.inl ⟨_,rfl,h⟩)⟩
 . exact⟨_,rfl,.inr (.inr ⟨_,rfl,h⟩)⟩
 . exact h.elim
theorem aY(ha:PL X a ta)(hb:PL X b tb)(hs:uc b):PL X (.Subscript a b pos) (aG bF ta tb):=by
 intro gV s σ H Pr Z so I E h;refine Subscript_ (QO (R:=λdx dy Z2=>bF dx dy λr=>so r Z2) ha hb I E h λv u s2 x y H2 dx dy Z2 I2 r1 r2 E2 p1 p2 q=>?_);have fin:∀(Q:VK),(∀z H',Q z H'->∃r,aC X.K Pr H' (some z::σ) (r::Z2)/\so r Z2)->∀w s',EP X gV σ Q w s'->EL X gV σ Pr so w s':=λQ hQ w s' h_=>h_.on λz H' I' rz q=>by obtain⟨r,E',p⟩:=hQ z H' q;exact⟨z,H',r,Z2,I',rz,E',p⟩
 have Eσ:=E2.tail.tail;obtain⟨i,rfl,⟨xs,rfl,z,hz',q⟩|⟨xs,rfl,z,hz',q⟩|⟨z,rfl,hz,c,hc,q⟩⟩:=HU q
 . obtain rfl:=QH.inv_int p2;obtain⟨_,_,rfl,hz,rs⟩:=QH.inv_lst p1;obtain⟨w,hw,rw⟩:=xO rs hz';exact P8 (xA a b gV s2 σ H2 _ _ v u (λz H'=>z=w/\H'=H2) I2 r1 r2 ⟨_,_,i,w,rfl,rfl,hz.l,hw,rfl,rfl⟩ (hs _ _)) (fin _ λz H' ⟨e1,e2⟩=>by subst e1 e2;exact⟨_,Eσ.cons_d rw,q⟩)
 . obtain rfl:=QH.inv_int p2;obtain⟨_,_,rfl,hz,rs⟩:=QH.inv_tup p1;obtain⟨w,hw,rw⟩:=xO rs hz';exact P8 (GE a b gV s2 σ H2 _ _ v u (λz H'=>z=w/\H'=H2) I2 r1 r2 ⟨_,_,i,w,rfl,rfl,hz,hw,rfl,rfl⟩ (hs _ _)) (fin _ λz H' ⟨e1,e2⟩=>by subst e1 e2;exact⟨_,Eσ.cons_d rw,q⟩)
 . obtain rfl:=QH.inv_int p2;obtain rfl:=QH.inv_str p1;exact P8 (KW a b gV s2 σ H2 _ _ v u (λz H'=>z=.str ⟨#[c]⟩/\H'=H2) I2 r1 r2 ⟨z,i,c,rfl,rfl,hz,hc,rfl,rfl⟩ (hs _ _)) (fin _ λz H' ⟨e1,e2⟩=>by subst e1 e2;exact⟨_,Eσ.cons_d (.str _),q⟩)
end
section
variable{X:Cx}{e a b c:Expr}{es:List Expr}{pos p:Pos}{ta:W L}{x:Str}{bs:List (Option Nat)}{t:W (List L)}{id T:String}
abbrev Q2:=List D->(L->Prop)->Prop
def gm(X:Cx)(f:Value)(op:Q2):Prop :=
 ∀(gV:List (Addr×Obj))(s:Shared)(σ:St)(H Pr:Hp)(Z:Ev)(vs:List V)(us:List Value)(ds:List D)(so:L->Prop),P4 X gV σ H s->bT vs us->aC X.K Pr H σ Z->bC X.K H vs ds->op ds so ->
  wpAny (model X.prog X.w) X.A (call f us) (λw s'=>∃z H' r,P4 X gV σ H' s'/\bS z w/\aC X.K Pr H' (some z::σ) (r::Z)/\so r) X.xe s
theorem gm.of{f:Value}{r:List V->Hp->VK->Prop}{op:Q2}(h:iH X f r)(q:∀σ H Pr Z vs ds so,aC X.K Pr H σ Z->bC X.K H vs ds->op ds so->r vs H λz H'=>∃r,aC X.K Pr H' (some z::σ) (r::Z)/\so r):gm X f op :=
 λgV s σ H Pr Z vs us ds so I rv E ps ho=>P8 (h gV s σ H vs us _ I rv (q σ H Pr Z vs ds so E ps ho)) λw s' ⟨z,H',I',rz,r,E',p⟩=>⟨z,H',r,I',rz,E',p⟩
def a6(op:Q2)(t:W (List L)):W L:=λZ so=>t Z λls Z1=>D3 ls λds=>op ds λr=>so r Z1
theorem aV(hc:gm X (.builtin id) op)(hg:Gl X x)(hm:X.mg x=none)(hv:bootBuiltins x=some (.builtin id))(ha:QJ X (e::es) bs t) (hn:x≠"__name__":=by decide) (hdb:aab x:=by decide)
  (he:starEach (e::es) X.env=(false,eval e X.env)::starEach es X.env:=by rfl) (hpl:(backTo pos (starEach es X.env)).any (·.1)=false:=by rfl):PL X (.Call (.Name x p) (e::es) [] pos) (a6 op t):=by
 intro gV s σ H Pr Z so I E h;refine Ve (mV I hg hm hv ?_ hn hdb);refine PyProof.Rows.callWith_builtin1 (P8 (ha pos gV s σ H Pr Z _ I E h) λus s1 h_=>h_.on λvs H1 ls Z1 I1 r1 hl hb E1 _ q1=>?_) he hpl;obtain⟨ds,rfl,q2⟩:=jT q1;have kz:vs.length=ds.length:=by simpa using hl
 exact P8 (hc gV s1 σ H1 Pr Z1 vs us ds _ I1 r1 (E1.drop (by simp[kz])) (jU kz E1) q2) λw s2 ⟨z,H2,r,I2,rz,E2,q⟩=>⟨z,H2,r,Z1,I2,rz,E2,q⟩
theorem bO(hc:gm X (.type T) op)(hg:Gl X x)(hm:X.mg x=none)(hv:bootBuiltins x=some (.type T))(ha:QJ X (e::es) bs t) (hn:x≠"__name__":=by decide) (hdb:aab x:=by decide)
  (he:starEach (e::es) X.env=(false,eval e X.env)::starEach es X.env:=by rfl) (hpl:(backTo pos (starEach es X.env)).any (·.1)=false:=by rfl):PL X (.Call (.Name x p) (e::es) [] pos) (a6 op t):=by
 intro gV s σ H Pr Z so I E h;refine Ve (mV I hg hm hv ?_ hn hdb);refine VV (P8 (ha pos gV s σ H Pr Z _ I E h) λus s1 h_=>h_.on λvs H1 ls Z1 I1 r1 hl hb E1 _ q1=>?_) he hpl;obtain⟨ds,rfl,q2⟩:=jT q1;have kz:vs.length=ds.length:=by simpa using hl
 exact P8 (hc gV s1 σ H1 Pr Z1 vs us ds _ I1 r1 (E1.drop (by simp[kz])) (jU kz E1) q2) λw s2 ⟨z,H2,r,I2,rz,E2,q⟩=>⟨z,H2,r,Z1,I2,rz,E2,q⟩
def cg:Q2:=λds k=>match ds with
 |[.lst xs]=>k (.d (.int xs.length))
 |[.tup xs]=>k (.d (.int xs.length))
 |[.str x]=>x.length<=sizeLine/\k (.d (.int x.length))
 |_=>False
theorem qU{K:W.Frag}{H:Hp}{vs:List V}{d:D}(r:bC K H vs [d]):∃v,vs=[v]/\QH K H v d:=by
 cases r with
 |cons h t=>cases t;exact⟨_,rfl,h⟩
theorem Lg{K:W.Frag}{H:Hp}{vs:List V}{d d':D}(r:bC K H vs [d,d']):∃v w,vs=[v,w]/\QH K H v d/\QH K H w d':=by
 cases r with
 | cons h t=>cases t with
  |cons h' t=>cases t;exact⟨_,_,rfl,h,h'⟩
theorem bQ:gm X (.builtin "len") cg:=gm.of (pR.or vF) λσ H Pr Z vs ds so E ps h=>by
 unfold cg at h;split at h
 . obtain⟨v,rfl,r⟩:=qU ps;obtain⟨_,_,rfl,hz,rs⟩:=QH.inv_lst r;exact .inl ⟨_,_,rfl,.inl hz.l,_,E.cons_d (.int _),by rw[rs.length];exact h⟩
 . obtain⟨v,rfl,r⟩:=qU ps;obtain⟨_,_,rfl,hz,rs⟩:=QH.inv_tup r;exact .inl ⟨_,_,rfl,.inr hz,_,E.cons_d (.int _),by rw[rs.length];exact h⟩
 .
  obtain⟨v,rfl,r⟩:=qU ps
  cases r with
  |str z=>exact .inr ⟨_,rfl,h.1,_,E.cons_d (.int _),h.2⟩
 . exact h.elim
def AD:Q2:=λds k=>match ds with
 |[.int i]=>k (.d (.int (if i<0 then -i else i)))
 |_=>False
theorem BS:gm X (.builtin "abs") AD:=gm.of Ei λσ H Pr Z vs ds so E ps h=>by
 unfold AD at h;split at h
 .
  obtain⟨v,rfl,r⟩:=qU ps
  cases r with
  |int i=>exact⟨_,rfl,_,E.cons_d (.int _),h⟩
 . exact h.elim
def EH:Q2:=λds k=>match ds with
 |[.int i,.int j]=>k (.d (.int (if j > i then j else i)))
 |_=>False
def EJ:Q2:=λds k=>match ds with
 |[.int i,.int j]=>k (.d (.int (if j<i then j else i)))
 |_=>False
theorem Lh(hc:X.calm=true):gm X (.builtin "max") EH:=gm.of (Bt hc) λσ H Pr Z vs ds so E ps h=>by
 unfold EH at h;split at h
 .
  obtain⟨v,w,rfl,r,r'⟩:=Lg ps
  cases r with
  | int i=>cases r' with
   |int j=>exact⟨_,_,rfl,_,E.cons_d (.int _),h⟩
 . exact h.elim
theorem Li(hc:X.calm=true):gm X (.builtin "min") EJ:=gm.of (Bu hc) λσ H Pr Z vs ds so E ps h=>by
 unfold EJ at h;split at h
 .
  obtain⟨v,w,rfl,r,r'⟩:=Lg ps
  cases r with
  | int i=>cases r' with
   |int j=>exact⟨_,_,rfl,_,E.cons_d (.int _),h⟩
 . exact h.elim
def BU:Q2:=λds k=>match ds with
 |[.int i]=>k (.d (.int i))
 |[.bl b]=>k (.d (.int (if b then 1 else 0)))
 |_=>False
theorem GK:gm X (.type "int") BU:=gm.of Bv λσ H Pr Z vs ds so E ps h=>by
 unfold BU at h;split at h
 .
  obtain⟨v,rfl,r⟩:=qU ps
  cases r with
  |int i=>exact .inl ⟨_,rfl,_,E.cons_d (.int _),h⟩
 .
  obtain⟨v,rfl,r⟩:=qU ps
  cases r with
  |bl i=>exact .inr ⟨_,rfl,_,E.cons_d (.int _),h⟩
 . exact h.elim
def Lj:Q2:=λds k=>match ds with
 |[.lst xs]=>∀a,k (.own a xs)
 |[.tup xs]=>∀a,k (.own a xs)
 |_=>False
def qV:Q2:=λds k=>match ds with
 |[.lst xs]=>k (.d (.tup xs))
 |[.tup xs]=>k (.d (.tup xs))
 |_=>False
theorem yY:gm X (.type "tuple") qV:=gm.of uf λσ H Pr Z vs ds so E ps h=>by
 unfold qV at h;split at h
 . obtain⟨v,rfl,r⟩:=qU ps;obtain⟨_,_,rfl,hz,rs⟩:=QH.inv_lst r;exact⟨_,_,rfl,.inl ⟨hz.l,λl hl=>⟨_,E.cons_tup hl rs,h⟩⟩⟩
 . obtain⟨v,rfl,r⟩:=qU ps;obtain⟨_,_,rfl,hz,rs⟩:=QH.inv_tup r;exact⟨_,_,rfl,.inr ⟨hz,_,E.cons_d (.tup hz rs),h⟩⟩
 . exact h.elim
noncomputable def Q3:D->Value
 |.non=>.type "NoneType"
 |.bl _=>.type "bool"
 |.int _=>.type "int"
 |.str _=>.type "str"
 |.tup _=>.type "tuple"
 |.lst _=>.type "list"
 |.dct _=>.type "dict"
 |.exc _ _ _=>.none
 |.fn _ _=>.type "function"
 |.dk _ _=>.type "dict"
 |.gf _=>.type "function"
def Q4(K:W.Frag)(d:D)(t:Value):Prop:=match d with
 |.exc c _ _=>∃C,t=.ref C/\jS K c C=true
 |d=>t=Q3 d
theorem uu{gV:List (Addr×Obj)}{σ:St}{H:Hp}{s:Shared}{a:Addr}{o:Obj}{u:HO}{C:Addr}{ns:List Str}{vs:List V}(I:P4 X gV σ H s)(h:H a=some (.frz o u))(hc:o.cls=.ref C)(hn:W.notCls o=true)(hf:XF H o.dict ns vs):∃od,W.InstAt s.heap a o C od/\∀d,o.dict=some d->∃q,od=some q/\s.heap.get? d=some q:=by
 have e:=(show s.heap.get? a=some o/\_ from I.hok a _ h).1;rcases hf with⟨_,_,z⟩|⟨d,od,z,h2,_⟩
 . exact⟨none,⟨e,hc,hn,by rw[z];trivial⟩,λd q=>by rw[z]at q;cases q⟩
 . have e2:=(show s.heap.get? d=some od/\_ from I.hok d _ h2).1;exact⟨some od,⟨e,hc,hn,by rw[z];exact e2⟩,λd' q=>by rw[z]at q;cases q;exact⟨od,rfl,e2⟩⟩
theorem yZ{gV:List (Addr×Obj)}{σ:St}{H:Hp}{s:Shared}{x:V}{u c:Value}{d:D}{b:Bool}{Q:Value->Shared->Prop}{A:Around}{E:Value->Shared->Prop}(I:P4 X gV σ H s)(rx:bS x u)(r:QH X.K H x d)(e:∀t,Q4 X.K d t->W.kitOne X.K t c=some b)(h:∀tk,Q (.bool b) {s with toks:=tk}) :
  wpAny (model X.prog X.w) A (call (.builtin "isinstance") [u,c]) Q E s:=by
 cases r with
 |non=>cases rx;exact Vs W.kitx_none I.kIn True.intro (e _ rfl) (λz=>nomatch z) h
 |bl y=>cases rx;exact Vs W.kitx_bool I.kIn True.intro (e _ rfl) (λz=>nomatch z) h
 |int i=>obtain⟨t,rfl⟩:=rx;exact Vs W.kitx_int I.kIn True.intro (e _ rfl) (λz=>nomatch z) h
 |str y=>obtain⟨t,rfl⟩:=rx;exact Vs W.kitx_str I.kIn True.intro (e _ rfl) (λz=>nomatch z) h
 | lst hz rs =>
  cases rx;obtain⟨its,_,⟨o,n,e1,c1,_,_⟩,_⟩:=I.list hz.l;exact Vs W.kitx_list I.kIn ⟨o,e1,c1⟩ (e _ rfl) (λz=>nomatch z) h
 | tup hz rs =>
  cases rx;obtain⟨its,_,⟨o,e1,c1,_⟩,_⟩:=I.tuple hz;exact Vs W.kitx_tuple I.kIn ⟨o,e1,c1⟩ (e _ rfl) (λz=>nomatch z) h
 | @dct a o kvs hz =>
  cases rx;obtain⟨_,_,_,vs,_,o',es,ep,h1,h2,_⟩:=(show cR X.prog X.w H s.heap a (.frz o (.dK kvs))from I.hok a _ hz);exact Vs W.kitx_dict I.kIn ⟨o',h1,h2.1⟩ (e _ rfl) (λz=>nomatch z) h
 | @exc a o u cc C ns vs ds h1 hv hc hn hs hq hf rs =>
  cases rx;obtain⟨od,Ia,_⟩:=uu I h1 hc hn hf;obtain⟨LL,cd,S⟩:=d4 hs;exact Vs (yP S) I.kIn ⟨_,_,Ia⟩ (e _ ⟨C,rfl,hs⟩) (λz=>nomatch z) h
 | fn hl hf hq hc hz hd hv hm r =>
  cases rx;exact Vs ui I.kIn ⟨_,(I.hok _ _ hf).1,rfl⟩ (e _ rfl) (λz=>nomatch z) h
 | @dk a' o kvs ds hz rs =>
  cases rx;obtain⟨_,_,_,vs,_,o',es,ep,h1,h2,_⟩:=(show cR X.prog X.w H s.heap a' (.frz o (.dK kvs))from I.hok a' _ hz);exact Vs W.kitx_dict I.kIn ⟨o',h1,h2.1⟩ (e _ rfl) (λz=>nomatch z) h
 | gf hx hl hk =>
  cases rx;exact Vs ui I.kIn ⟨_,I.kIn _ _ hl,rfl⟩ (e _ rfl) (λz=>nomatch z) h
noncomputable def mR(T:String):D->Bool
 |.non=>T == "NoneType"
 |.bl _=>T == "bool" ||T == "int"
 |.int _=>T == "int"
 |.str _=>T == "str"
 |.tup _=>T == "tuple"
 |.lst _=>T == "list"
 |.dct _=>T == "dict"
 |.exc _ _ _=>(["ValueError","Exception","BaseException","object"]:List String).contains T
 |.fn _ _=>T == "function"
 |.dk _ _=>T == "dict"
 |.gf _=>T == "function"
def l6(T:String):D->(L->Prop)->Prop:=λd k=>k (.d (.bl (mR T d)))
theorem jq{T:String}{y:Str}{py:Pos}(hT:∀ K d t,Q4 K d t->W.kitOne K t (.type T)=some (mR T d)) (hg:Gl X "isinstance") (hm:X.mg "isinstance"=none) (hy:Gl X y) (hmy:X.mg y=none) (hby:bootBuiltins y=some (.type T)) (ha:PL X a ta)
  (hny:y≠"__name__":=by decide) (hdy:aab y:=by decide)
  (h1:starEach [a,.Name y py] X.env=(false,eval a X.env)::starEach [.Name y py] X.env:=by rfl) (h2:starEach [.Name y py] X.env=[(false,eval (.Name y py) X.env)]:=by rfl) (hpl:(backTo pos (starEach [.Name y py] X.env)).any (·.1)=false:=by rfl) :
  PL X (.Call (.Name "isinstance" p) [a,.Name y py] [] pos) (QU (l6 T) ta):=by
 have cr:iH X (.builtin "isinstance") (λxs H Q=>∃ x d,xs=[x,.ty T]/\QH X.K H x d/\Q (.bl (mR T d)) H):=by intro gV s σ H xs us Q I rv h;obtain⟨x,d,rfl,r,q⟩:=h;obtain⟨u,w,rfl,r1,r2⟩:=Al rv;cases r2;exact yZ I r1 r (hT _ d) λtk=>⟨.bl _,H,I.tok _,rfl,q⟩
 refine PL.of (qz cr hg hm y_ (bE (aA ha).pe (bE (Hi hy hmy hby (v:=.ty T) rfl hny hdy) eX h2) h1) (he:=h1) (hpl:=hpl)) λσ H Pr Z so E h=>?_
 refine⟨Pr,Z,λr Z1=>match r with
  |.d x=>l6 T x λr=>so r Z1
  |_=>False,E,h,λv H' r Z' E' p=>?_⟩
 cases r with
 | d x =>
  obtain⟨_,e1,p1⟩:=E'.head_d;cases e1;exact⟨_,x,rfl,p1,_,Z',E'.tail.cons_d (.bl _),p⟩
 |_=>exact p.elim
end
section
variable{X:Cx}{e a b:Expr}{pos p apos cpos:Pos}{tb te:W L}{x:Str}
theorem aC.updOwn{K:W.Frag}{Pr H:Hp}{σ:St}{Z:Ev}{i:Nat}{l:Addr}{xs ys:List D}{vs:List V}(E:aC K Pr H σ Z)(q:Z[i]?=some (.own l xs))(r:bC K H vs ys):aC K Pr (PR H l (.lst vs)) σ (Z.set i (.own l ys)):=by obtain⟨sv,hs,rfl,_⟩:=E.slot q;have hi:i<Z.length:=(Uh.mp q).1;have E1:=(E.out q).write r;have E2:=E1.back (i:=i) (by simp[hi]) hs;rw[VA]at E2;exact E2
theorem aC.ownAt{K:W.Frag}{Pr H:Hp}{σ:St}{Z:Ev}{i:Nat}{l:Addr}{xs:List D}(E:aC K Pr H σ Z)(q:Z[i]?=some (.own l xs)):σ[i]?=some (some (.ref l))/\∃vs,H l=some (.lst vs)/\bC K H vs xs:=by obtain⟨sv,hs,rfl,r⟩:=E.slot q;exact⟨hs,r⟩
def AE(i:Nat)(Z:Ev)(k:Addr->List D->Prop):Prop:=match Z[i]? with
 |some (.own a xs)=>k a xs
 |_=>False
theorem l7{i:Nat}{Z:Ev}{k:Addr->List D->Prop}(h:AE i Z k):∃a xs,Z[i]?=some (.own a xs)/\k a xs:=by
 unfold AE at h
 cases q:Z[i]? with
 |none=>rw[q]at h;exact h.elim
 | some l =>
  rw[q]at h
  cases l with
  |own a xs=>exact⟨a,xs,rfl,h⟩
  |un=>exact h.elim
  |d x=>exact h.elim
  |bx _ _=>exact h.elim
  |dic _ _=>exact h.elim
def EK(i:Nat)(te:W L):W L:=λZ so=>AE i Z λ_ _=>te Z λr Z1=>QN r λy=>AE i Z1 λa xs=>xs.length<sizeLine/\so (.d .non) (Z1.set i (.own a (xs++[y])))
theorem fw(i:Nat)(he:PL X e te)(hN:X.N[i]?=some x:=by rfl)(hv:P0 X.env.scope x:=by first | exact Or.inl rfl | exact Or.inr (Or.inl rfl) | exact Or.inr (Or.inr rfl)) (hd:aab x:=by decide)
  (hcd:aac x:=by decide) (hs1:starEach [e] X.env=[(false,eval e X.env)]:=by rfl) (hbase:attributeBase (.Name x p) "append" X.env (eval (.Name x p) X.env)=eval (.Name x p) X.env:=by rfl)
  (hfew:((backTo cpos (starEach [e] X.env)).all (λx=>!x.1) && (backToKw cpos (keywordEach [] X.env)).all (λx=>x.1.isSome)
   && decide (([e]).length+([]:List Keyword).length+(if([]:List Keyword).isEmpty then 0 else 1)<30))=true:=by rfl)
  (hline:(apos.endLine == cpos.line)=true:=by rfl) (hplain:(backTo cpos (starEach ([]:List Expr) X.env)).any (·.1)=false:=by rfl) :
  PL X (.Call (.Attribute (.Name x p) "append" apos) [e] [] cpos) (EK i te):=by
 refine PL.of (BD PySem.F.plainAttrs_list PySem.F.slot_list_append PySem.F.type_list_append qK (dY hN hv hd hcd) (bE (aA he).pe eX hs1) (hbase:=hbase) (hfew:=hfew) (hline:=hline) (hs:=hs1) (hplain:=hplain)) λσ H Pr Z so E h=>?_;obtain⟨l,xs0,q0,h⟩:=l7 h;obtain⟨hσ,vs0,hl0,_⟩:=E.ownAt q0
 refine⟨.ref l,hσ,.inl ⟨rfl,vs0,Qa.of hl0⟩,Pr,Z,λr Z1=>match r with
  |.d y=>AE i Z1 λa xs=>xs.length<sizeLine/\so (.d .non) (Z1.set i (.own a (xs++[y])))
  |_=>False,E,h,λv H' r Z' E' pp=>?_⟩
 cases r with
 | d y =>
  obtain⟨l',xs,q,kz,pp⟩:=l7 pp;obtain⟨hσ',vs,hl,r⟩:=E'.tail.ownAt q;rw[hσ]at hσ';cases hσ';obtain⟨_,e1,p1⟩:=E'.head_d;cases e1;exact⟨l,vs,v,rfl,rfl,hl,by rw[r.length];exact kz,_,_,(E'.tail.updOwn q (r.append (.cons p1 .nil))).cons_d .non,pp⟩
 |_=>exact pp.elim
def D6(i:Nat)(tb:W L):W L:=λZ so=>AE i Z λ_ _=>tb Z λr Z1=>m8 r λj=>AE i Z1 λ_ xs=>∃y,Qu xs j=some y/\so (.d y) Z1
theorem pX(i:Nat)(hb:PL X b tb)(hs:uc b)(hN:X.N[i]?=some x:=by rfl)(hv:P0 X.env.scope x:=by first | exact Or.inl rfl | exact Or.inr (Or.inl rfl) | exact Or.inr (Or.inr rfl)) (hd:aab x:=by decide)
  (hcd:aac x:=by decide):PL X (.Subscript (.Name x p) b pos) (D6 i tb):=by
 refine PL.of (KU xA (dY hN hv hd hcd) hb.pe hs) λσ H Pr Z so E h=>?_;obtain⟨l,xs0,q0,h⟩:=l7 h;obtain⟨hσ,vs0,hl0,_⟩:=E.ownAt q0;refine⟨.ref l,hσ,Pr,Z,_,E,h,λv H' r Z' E' pp=>?_⟩;obtain⟨j,rfl,pp⟩:=cU pp;obtain⟨l',xs,q,y,hy,pp⟩:=l7 pp;obtain⟨hσ',vs,hl,r⟩:=E'.tail.ownAt q;rw[hσ]at hσ';cases hσ';obtain⟨_,e1,p1⟩:=E'.head_d;cases e1;obtain rfl:=QH.inv_int p1;obtain⟨w,hw,rw⟩:=xO r hy;exact⟨l,vs,j,w,rfl,rfl,Qa.of hl,hw,_,Z',E'.tail.cons_d rw,pp⟩
def HV(i:Nat):W L:=λZ so=>AE i Z λ_ xs=>so (.d (.int xs.length)) Z
theorem HW(i:Nat) (hg:Gl X "len") (hm:X.mg "len"=none) (hN:X.N[i]?=some x:=by rfl) (hv:P0 X.env.scope x:=by first | exact Or.inl rfl | exact Or.inr (Or.inl rfl) | exact Or.inr (Or.inr rfl)) (hd:aab x:=by decide)
  (hcd:aac x:=by decide) (h1:starEach [.Name x p] X.env=[(false,eval (.Name x p) X.env)]:=by rfl) (hpl:(backTo pos (starEach ([]:List Expr) X.env)).any (·.1)=false:=by rfl) :
  PL X (.Call (.Name "len" apos) [.Name x p] [] pos) (HV i):=by
 refine PL.of (qz pR hg hm PySem.boot_len (bE (dY hN hv hd hcd) eX h1) (he:=h1) (hpl:=hpl)) λσ H Pr Z so E h=>?_;obtain⟨l,xs0,q0,h⟩:=l7 h;obtain⟨hσ,vs0,hl0,r⟩:=E.ownAt q0;exact⟨.ref l,hσ,l,vs0,rfl,.inl (Qa.of hl0),_,Z,E.cons_d (.int _),by rw[r.length];exact h⟩
def BV(i:Nat)(tb te:W L):W Fl:=λZ so=>te Z λr Z1=>QN r λy=>AE i Z1 λ_ _=>tb Z1 λr Z2=>m8 r λj=>AE i Z2 λa xs=>∃k,Qt xs.length j=some k/\so .nx (Z2.set i (.own a (xs.set k y)))
theorem xP(i:Nat){b:Expr}{ps:Pos}(hb:PL X b tb)(he:PL X e te)(hN:X.N[i]?=some x:=by rfl)(hv:P0 X.env.scope x:=by first | exact Or.inl rfl | exact Or.inr (Or.inl rfl) | exact Or.inr (Or.inr rfl)) (hd:aab x:=by decide)
  (hcd:aac x:=by decide)
  (ha:∀v,assign (.Subscript (.Name x p) b ps) X.env v=(do
   let ov <- holding [v] (eval (.Name x p) X.env)
   let iv <- holding [v,ov] (eval b X.env)
   standAt ps
   holding [v,ov,iv] (setItem ov iv v)
   release [v,ov,iv] []):=by intro _;rfl)
  (hs:swapsWithSole [.Subscript (.Name x p) b ps] e pos.line X.env=pure false:=by rfl) (hw:swappedStores [.Subscript (.Name x p) b ps] e X.env=pure none:=by rfl)
  (h1:(assignEach [.Subscript (.Name x p) b ps] X.env).map (·.2)=[assign (.Subscript (.Name x p) b ps) X.env]:=by rfl):PM X (.Assign [.Subscript (.Name x p) b ps] e pos) (BV i tb te):=by
 refine PM.of (KC (aA he).pe (KB (dY hN hv hd hcd) hb.pe El ha) hs hw h1) λσ H Pr Z so kz E h=>?_
 refine⟨Pr,Z,λr Z1=>match r with
  |.d y=>AE i Z1 λ_ _=>tb Z1 λr Z2=>m8 r λj=>AE i Z2 λa xs=>∃k,Qt xs.length j=some k/\so .nx (Z2.set i (.own a (xs.set k y)))
  |_=>False,E,h,λv H' r Z' E' pp=>?_⟩
 cases r with
 | d y =>
  obtain⟨l,xs0,q0,pp⟩:=l7 pp;obtain⟨hσ,vs0,hl0,_⟩:=E'.tail.ownAt q0;refine⟨.ref l,hσ,bD H' Z',Z',_,E'.tail.wide,pp,λw H2 r2 Z2 E2 pp=>?_⟩;obtain⟨j,rfl,pp⟩:=cU pp;obtain⟨l',xs,q,k,hk,pp⟩:=l7 pp;obtain⟨_,e1,p1⟩:=E2.head_d;cases e1;obtain rfl:=QH.inv_int p1;have E3:aC X.K Pr H2 (some (.int j)::some v::σ) (.d (.int j)::.d y::Z2):=aC.step (τ:=[some v]) (lam:=[.d y]) (w:=[some (.int j)]) (μ:=[.d (.int j)]) E' rfl E2 rfl;obtain⟨_,e1,p1⟩:=E3.tail.head_d;cases e1;obtain⟨hσ',vs,hl,r⟩:=E3.tail.tail.ownAt q;rw[hσ]at hσ';cases hσ';refine⟨l,vs,j,k,rfl,rfl,hl,by rw[r.length];exact hk,_,E3.tail.tail.updOwn q (r.set p1 k),pp⟩
 |_=>exact pp.elim
def xQ:Option (W L)->Ev->(Option Int->Ev->Prop)->Prop
 |none=>λZ k=>k none Z
 |some t=>λZ k=>t Z λr Z1=>m8 r λi=>k (some i) Z1
noncomputable def m9{α:Type}(xs:List α)(lo hi:Option Int):List α:=(xs.drop (HT.sIx xs.length 0 lo)).take (HT.sIx xs.length xs.length hi-HT.sIx xs.length 0 lo)
end
noncomputable def bG:List Nat->Ev->Ev
 |[],Z=>Z
 |j::r,Z=>(bG r Z).set j .un
noncomputable def cB(fi:List Nat)(Z:Ev):Ev:=fi.map λj=>(Z[j]?).getD .un
noncomputable def cb(fi:List Nat)(σ:St):St:=fi.map λj=>(σ[j]?).getD none
noncomputable def g8:List Nat->Ev->Ev->Ev
 |j::r,c::cs,Z=>g8 r cs (Z.set j c)
 |_,_,Z=>Z
theorem fz:∀(fi:List Nat)(Z:Ev),(bG fi Z).length=Z.length
 |[],_=>rfl
 |j::r,Z=>by unfold bG;rw[List.length_set,fz r Z]
theorem vP:∀(fi:List Nat)(Z:Ev)(j:Nat),j∉fi->(bG fi Z)[j]?=Z[j]?
 |[],_,_,_=>rfl
 | i::r,Z,j,h=>by unfold bG;rw[Vo (λe=>h (by simp[e])),vP r Z j λe=>h (Ud _ e)]
theorem y2:∀(fi:List Nat)(Z:Ev)(j:Nat),j∈fi->j<Z.length->(bG fi Z)[j]?=some .un
 | i::r,Z,j,h,hl=>by
  unfold bG;by_cases e:i=j
  . subst e;rw[Vc (by rw[fz];exact hl)]
  . rw[Vo e];exact y2 r Z j ((Uo.mp h).resolve_left λz=>e z.symm) hl
section
variable{K:W.Frag}{Pr H:Hp}{σ:St}{Z:Ev}
theorem aC.takeAt(E:aC K Pr H σ Z){i:Nat}{l:L}{s:Option V}(h:Z[i]?=some l)(hs:σ[i]?=some s):aC K Pr H (s::σ) (l::Z.set i .un):=E.outL h hs
theorem aC.takes(E:aC K Pr H σ Z):∀(fi:List Nat),fi.Nodup->(∀j∈fi,j<Z.length)->aC K Pr H (cb fi σ++σ) (cB fi Z++bG fi Z)
 |[],_,_=>E
 | j::r,nd,hl=>by
  have ih:=E.takes r (UN.mp nd).2 λi hi=>hl i (Ud _ hi);have hj:j<Z.length:=hl j Ui;have hjs:j<σ.length:=by rw[E.len];exact hj
  have e1:(cB r Z++bG r Z)[r.length+j]?=some Z[j]:=by rw[UG (by simp[cB])];simp only[cB,tu,Va];rw[vP r Z j (UN.mp nd).1];exact Uu hj
  have e2:(cb r σ++σ)[r.length+j]?=some σ[j]:=by rw[UG (by simp[cb])];simp only[cb,tu,Va];exact Uu hjs
  have z:=ih.takeAt e1 e2;rw[List.set_append_right _ _ (by simp[cB])]at z;simp only[cB,tu,Va]at z;have c1:cb (j::r) σ=σ[j]::cb r σ:=by simp[cb,hjs]
  have c2:cB (j::r) Z=Z[j]::cB r Z:=by simp[cB,hj]
  rw[c1,c2];exact z
theorem aC.backs:∀(fi:List Nat){cs Z:Ev},fi.Nodup->cs.length=fi.length->(∀j∈fi,Z[j]?=some .un)->(∀j∈fi,j<σ.length)->aC K Pr H (cb fi σ++σ) (cs++Z)->aC K Pr H σ (g8 fi cs Z)
 |[],[],Z,_,_,_,_,E=>E
 | j::r,c::cs,Z,nd,hl,hu,hs,E=>by
  have hjs:j<σ.length:=hs j Ui;have hj:=hu j Ui;have c1:cb (j::r) σ=σ[j]::cb r σ:=by simp[cb,hjs]
  rw[c1]at E;have hlr:cs.length=r.length:=by simpa using hl
  have z:=aC.back (σ:=cb r σ++σ) (Z:=cs++Z) (l:=c) E (i:=r.length+j) (by
   rw[UG xL,hlr,Va];exact hj) (by
   rw[UG (by simp[cb])];simp only[cb,tu,Va]
   exact Uu hjs)
  rw[List.set_append_right _ _ xL,hlr,Va]at z
  exact aC.backs r (UN.mp nd).2 hlr (λi hi=>by
   rw[Vo (λe=>(UN.mp nd).1 (by rw[e];exact hi))];exact hu i (Ud _ hi)) (λi hi=>hs i (Ud _ hi)) z
 |[],_::_,_,_,hl,_,_,_=>by simp at hl
 |_::_,[],_,_,hl,_,_,_=>by simp at hl
end
noncomputable def vQ(cells:List (Str×Addr)):List (Str×NameKind)->List (Str×Addr)->List (Str×Addr)
 |[],acc=>acc
 |(n,k)::r,acc=>vQ cells r (if k == .free then(match cells.lookup n with|some c=>(n,c)::acc|none=>acc)else acc)
theorem oR{env:Env}:∀(names:List (Str×NameKind))(acc:List (Str×Addr)),(∀x∈names,x.2=.free->∃c,env.cells.lookup x.1=some c) ->
  (forIn names acc λ(x:Str×NameKind) (cs:List (Str×Addr))=>(if x.2 == .free then do let c <- cellOf env x.1;pure (ForInStep.yield ((x.1,c)::cs))else pure (ForInStep.yield cs):Sem (ForInStep (List (Str×Addr)))))=pure (vQ env.cells names acc)
 |[],acc,_=>rfl
 | (n,k)::r,acc,h=>by
  rw[List.forIn_cons];by_cases hk:(k == NameKind.free)=true
  .
   obtain⟨c,hc⟩:=h (n,k) Ui (by simpa using hk);have e:cellOf env n=pure c:=by unfold cellOf;rw[show env.cells.lookup n=some c from hc]
   simp only[hk,if_true,e,pure_bind,vQ,hc];exact oR r _ λx hx=>h x (Ud _ hx)
  . simp only[hk,vQ,if_false,pure_bind];exact oR r _ λx hx=>h x (Ud _ hx)
theorem ng{scope:Scope}{env:Env}(h:∀x∈scope.names,x.2=.free->∃c,env.cells.lookup x.1=some c):closureFor scope env=pure (vQ env.cells scope.names []):=by have:=oR (env:=env) scope.names [] h;unfold closureFor;simp only[bind_pure_comp]at this ⊢;rw[this];rfl
theorem y3{cells:List (Str×Addr)}:∀(names:List (Str×NameKind))(acc:List (Str×Addr)),(∀x c,acc.lookup x=some c->cells.lookup x=some c)->∀x c,(vQ cells names acc).lookup x=some c->cells.lookup x=some c
 |[],acc,h,x,c,e=>h x c e
 | (n,k)::r,acc,h,x,c,e=>by
  unfold vQ at e;refine y3 r _ (λy d ey=>?_) x c e;split at ey
  .
   split at ey
   .
    rename_i q;rw[U0]at ey;split at ey
    .
     rename_i e2;have:y=n:=by simpa using e2
     cases ey;rw[this];exact q
    . exact h y d ey
   . exact h y d ey
  . exact h y d ey
theorem qm{n:Str}{c:Addr}{acc:List (Str×Addr)}{x:Str}(h:∃d,acc.lookup x=some d):∃d,((n,c)::acc).lookup x=some d:=by
 rw[U0];split
 . exact⟨_,rfl⟩
 . exact h
theorem uv{cells:List (Str×Addr)}:∀(names:List (Str×NameKind))(acc:List (Str×Addr))(x:Str),((∃d,acc.lookup x=some d)∨((x,NameKind.free)∈names/\∃c,cells.lookup x=some c))->∃d,(vQ cells names acc).lookup x=some d
 | [],acc,x,h=>by
  rcases h with h|⟨h,_⟩
  . exact h
  . simp at h
 | (n,k)::r,acc,x,h=>by
  unfold vQ;refine uv r _ x ?_;rcases h with h|⟨hm,c,hc⟩
  .
   left;split
   .
    split
    . exact qm h
    . exact h
   . exact h
  .
   rcases Uo.mp hm with e|hm
   . cases e;left;simp only[hc,beq_self_eq_true,if_true];exact⟨c,by simp[U0]⟩
   . exact .inr ⟨hm,c,hc⟩
noncomputable def jt(X:Cx)(scope:Scope)(cl:List (Str×Addr))(Nb:List Str)(s₀:Shared)(H₀:Hp)(fp:List Addr):Cx :=
 {X with N:=Nb,s₀:=s₀,H₀:=H₀,env:=compEnvC scope cl s₀.heap.objs.size X.env,outer:=X.stack,stack:=X.stack,ex:=fp,fn:=λ_=>false,pn:=[],xe:=λ_ _=>False}
theorem kR{α β:Type}{F:α->β->Prop}:∀{a:List α}{b:List β},Paired F a b↔a.length=b.length/\∀p∈a.zip b,F p.1 p.2
 |[],[]=>⟨λ_=>⟨rfl,λ_ h=>by simp at h⟩,λ_=>.nil⟩
 |[],_::_=>⟨(λh=>nomatch h),λh=>by simp at h⟩
 |_::_,[]=>⟨(λh=>nomatch h),λh=>by simp at h⟩
 | x::a,y::b=>by
  constructor
  .
   intro h
   cases h with
   | cons r t =>
    obtain⟨h1,h2⟩:=kR.mp t
    exact⟨by simp[h1],λp hp=>by
     rw[VB]at hp;rcases Uo.mp hp with rfl|hp
     . exact r
     .
      exact h2 p hp⟩
  . rintro⟨hl,h⟩;exact .cons (h (x,y) v6) (kR.mpr ⟨by simpa using hl,λp hp=>h p (by rw[VB];exact Ud _ hp)⟩)
theorem uw:∀{σ:St}{Z:Ev},σ.length=Z.length->(σ.zip Z).map (·.2)=Z
 |[],[],_=>rfl
 | _::σ,l::Z,h=>by have ih:=uw (σ:=σ) (Z:=Z) (by simpa using h);rw[VB,UC,ih]
 |[],_::_,h=>by simp at h
 |_::_,[],h=>by simp at h
theorem aC.rearr{K:W.Frag}{Pr H:Hp}{σ σ2:St}{Z Z2:Ev}(E:aC K Pr H σ Z)(hl:σ2.length=Z2.length)(extra:List (Option V×L))(h:(σ.zip Z).Perm (σ2.zip Z2++extra)):aC K Pr H σ2 Z2:=by
 have pm:(owns Z).Perm (owns Z2++owns (extra.map (·.2))):=by have q:=m6 (h.map (·.2));rw[Vg,uw E.len,uw hl,aH]at q;exact q
 refine⟨E.sub,(UQ.mp (pm.nodup_iff.mp E.nd)).1,λa ha=>E.off a (pm.mem_iff.mpr (Uz _ ha)),kR.mpr ⟨hl,λp hp=>?_⟩⟩;exact(kR.mp E.sl).2 p (h.mem_iff.mpr (Uz _ hp))
theorem vR{fi:List Nat}{σ τ:St}(h:∀j∈fi,j<σ.length):cb fi (σ++τ)=cb fi σ:=by unfold cb;refine List.map_congr_left λj hj=>?_;rw[UF (h j hj)]
theorem AF{fi:List Nat}{σ τ:Ev}(h:∀j∈fi,j<σ.length):cB fi (σ++τ)=cB fi σ:=by unfold cB;refine List.map_congr_left λj hj=>?_;rw[UF (h j hj)]
theorem vS{τ:Ev}:∀{fi:List Nat}{Z:Ev},(∀j∈fi,j<Z.length)->bG fi (Z++τ)=bG fi Z++τ
 |[],_,_=>rfl
 | j::r,Z,h=>by unfold bG;rw[vS λi hi=>h i (Ud _ hi),VN _ _ (by rw[fz];exact h j Ui)]
theorem sX{τ:Ev}:∀{fi:List Nat}{cs Z:Ev},(∀j∈fi,j<Z.length)->g8 fi cs (Z++τ)=g8 fi cs Z++τ
 |[],[],_,_=>rfl
 |[],_::_,_,_=>rfl
 |_::_,[],_,_=>rfl
 | j::r,c::cs,Z,h=>by unfold g8;rw[VN _ _ (h j Ui)];exact sX λi hi=>by rw[List.length_set];exact h i (Ud _ hi)
theorem fA{env:Env}:∀{names:List (Str×NameKind)}{x:Str},names.lookup x=some .free ->
  (names.map λ(n,k)=>if(k == NameKind.free && env.scope.kind == .function && env.kindOf n == some .cell)then(n,NameKind.cell)else(n,k)).lookup x=some .cell ∨
  (names.map λ(n,k)=>if(k == NameKind.free && env.scope.kind == .function && env.kindOf n == some .cell)then(n,NameKind.cell)else(n,k)).lookup x=some .free
 |[],_,h=>by simp at h
 | (n,k)::r,x,h=>by
  have ih:=@fA env r x;rw[UC]
  cases hx:x == n with
  | true =>
   simp only[U0,hx]at h;cases h;dsimp only;by_cases hc:(NameKind.free == NameKind.free && env.scope.kind == .function && env.kindOf n == some .cell)=true
   . left;rw[if_pos hc];simp[U0,hx]
   . right;rw[if_neg hc];simp[U0,hx]
  | false =>
   simp only[U0,hx]at h;dsimp only;by_cases hc:(k == NameKind.free && env.scope.kind == .function && env.kindOf n == some .cell)=true
   . rw[if_pos hc];simp only[U0,hx];exact ih h
   . rw[if_neg hc];simp only[U0,hx];exact ih h
theorem iL{env:Env}:∀{names:List (Str×NameKind)}{x:Str}{k:NameKind},(∀y∈names,y.2≠.cell)->(k=.cell∨k=.free) ->
  (names.map λ(n,k)=>if(k == NameKind.free && env.scope.kind == .function && env.kindOf n == some .cell)then(n,NameKind.cell)else(n,k)).lookup x=some k->(x,NameKind.free)∈names
 |[],_,_,_,_,h=>by simp at h
 | (n,k0)::r,x,k,hc,hk,h=>by
  rw[UC]at h
  (try dsimp only at h)
  by_cases q:(k0 == NameKind.free && env.scope.kind == .function && env.kindOf n == some .cell)=true
  .
   rw[if_pos q,U0]at h;have e0:k0=.free:=by have:=(VM.mp (VM.mp q).1).1;simpa using this
   split at h
   .
    rename_i e;have:x=n:=by simpa using e
    subst this e0;exact Ui
   . exact Ud _ (iL (λy hy=>hc y (Ud _ hy)) hk h)
  .
   rw[if_neg q,U0]at h;split at h
   .
    rename_i e;have:x=n:=by simpa using e
    subst this;have e1:k0=k:=by simpa using h
    subst e1;rcases hk with z|z
    . exact absurd z (hc (x,k0) Ui)
    . subst z;exact Ui
   . exact Ud _ (iL (λy hy=>hc y (Ud _ hy)) hk h)
section
variable{prog:Program}{w:World}{A:Around}{R:Result->Shared->Prop}
theorem BW{elt target iter:Expr}{ifs:List Expr}{scope:Scope}{pos:Pos}{it acc:Value}{env:Env}(I:Nat->Shared->Prop)
  (turn:∀n s,I n s->wpAny (model prog w) A (pyNext it) (λr s₁=>match r with
   |none=>R (.ok .next) s₁
   | some v=>wpAny (model prog w) A (letOwnedTupleGo target it v) (λ_ s₀=>wpAny (model prog w) A (assign target env v) (λ_ s₂ =>
     wpAny (model prog w) A (forIn ifs true λc r=>if r=true then do let ok <- isTrue c env (eval c env);pure (ForInStep.yield ok)else pure (ForInStep.yield r)) (λok s₃ =>
      if ok=true then wpAny (model prog w) A (eval elt env) (λx s₄ =>
       wpAny (model prog w) A (call (.builtin "list.append") [acc,x]) (λ_ s₅=>∃ m,m < n/\I m s₅) (λ_ _=>False) s₄) (λ_ _=>False) s₃
      else ∃m,m<n/\I m s₃) (λ_ _=>False) s₂) (λ_ _=>False) s₀) (λ_ _=>False) s₁) (λ_ _=>False) s)
  (n:Nat) {s:Shared} (h:I n s) :
  codeAny (model prog w) A (.compLoop (.ListComp elt [⟨target,iter,ifs,0⟩] scope pos) 0 it acc env) R s:=by
 refine codeAny_loop rfl I (λn s hI=>?_) n h
 show wpAny _ A ((compTurn (.ListComp elt [⟨target,iter,ifs,0⟩] scope pos) 0 it acc env).onRaise (λx=>do noteFrame x env;theTreesLotGoes x)) _ _ s
 refine wpAny_noted ?_;rw[compTurn_list];have fe:∀{α:Type}{t:Sem α}{Q:α->Shared->Prop}{E:Value->Shared->Prop}{s:Shared},wpAny (model prog w) A t Q (λ_ _=>False) s->wpAny (model prog w) A t Q E s:=λh=>U8 h (λ_ _ q=>q) λ_ _ z=>z.elim;refine kS (We (kS (U8 (turn n s hI) (λr s₁ h₁=>?_) λ_ _ h'=>h'.elim)))
 cases r with
 |none=>exact Um h₁
 | some v =>
  refine kS (U8 h₁ (λ_ s₀ h₀=>?_) λ_ _ z=>z.elim);refine kS (U8 h₀ (λ_ s₂ h₂=>kS (U8 h₂ (λok s₃ h₃=>?_) λ_ _ h'=>h'.elim)) λ_ _ h'=>h'.elim)
  cases ok with
  |false=>exact Um ⟨rfl,h₃⟩
  | true =>
   exact kS (kS (U8 h₃ (λx s₄ h₄=>kS (U8 h₄ (λ_ s₅ h₅=>Um (Um ⟨rfl,h₅⟩)) λ_ _ h'=>h'.elim)) λ_ _ h'=>h'.elim))
end
def Q5(X:Cx)(tg:Expr)(n:Nat)(g:Tg):Prop:=∃gg:TG,PG X tg gg/\∀v σ H Pr Z x k,σ.length=X.N.length->aC X.K Pr H σ Z->QH X.K H v x->g x Z k->gg v σ H λσ' H'=>H'=H/\σ'.drop n=σ.drop n/\∃Z',aC X.K Pr H σ' Z'/\k Z'
theorem cV{X:Cx}{i n:Nat}{x:Str}{pos:Pos}(hn:i<n)(hN:X.N.Nodup)(hi:X.N[i]?=some x)(hx:P2 X.env.scope x)(hf:X.fn x=true∨X.env.scope.names.lookup x=some .local:=by first|exact .inl rfl|exact .inr rfl|assumption):Q5 X (.Name x pos) n (bL i) :=
 ⟨_,xw hN hi hx hf,λv σ H Pr Z x k hl E r h=>⟨rfl,by rw[List.drop_set_of_lt hn],_,(E.cons_d r).store (by rw[hl];exact(Uh.mp hi).1),h⟩⟩
def Q6(X:Cx)(ifs:List Expr)(t:W Bool):Prop :=
 ∀(gV:List (Addr×Obj))(s:Shared)(σ:St)(H Pr:Hp)(Z:Ev)(so:Bool->Ev->Prop),P4 X gV σ H s->aC X.K Pr H σ Z->t Z so ->
  wpAny (model X.prog X.w) X.A (forIn ifs true λc r=>if r=true then do let ok <- isTrue c X.env (eval c X.env);pure (ForInStep.yield ok)else pure (ForInStep.yield r)) (EB X gV σ Pr so) X.xe s
def g9:W Bool:=λZ so=>so true Z
theorem fB{X:Cx}:Q6 X [] g9:=λgV s σ H Pr Z so I E h=>wpAny_tests_nil ⟨H,Z,I,E,h⟩
theorem xR{X:Cx}{c:Expr}{t:W Bool}(h:PB X c t):Q6 X [c] t:=λgV s σ H Pr Z so I E ht=>wpAny_tests_one (h gV s σ H Pr Z so I E ht)
def hJ(g:Tg)(ti:W Bool)(te:W L):List D->Ev->List D->(List D->Ev->Prop)->Prop
 |[],Z,acc,k=>k acc Z
 |x::xs,Z,acc,k=>g x Z λZ1=>ti Z1 λb Z2=>if b=true then te Z2 λr Z3=>QN r λy=>hJ g ti te xs Z3 (acc++[y]) k else hJ g ti te xs Z2 acc k
def jN(n:Nat)(fi:List Nat)(src:W (List D))(g:Tg)(ti:W Bool)(te:W L):W L:=λZ so=>src Z λxs Z1=>xs.length<=sizeLine /\
 hJ g ti te xs (List.replicate n .un++cB fi Z1) [] λys ρb=>∀a,so (.own a ys) (g8 fi (ρb.drop n) (bG fi Z1))
section
variable{X:Cx}
theorem vT{elt tg iter:Expr}{ifs:List Expr}{scope sc:Scope}{pos:Pos}{N Nt Nf:List Str}{fi:List Nat}{src:W (List D)}{g:Tg}{ti:W Bool}{te:W L}
  (hsc:X.env.scope=sc) (hXN:X.N=N) (hc:X.calm=true) (hi:QZ X tg iter src)
  (hkind:scope.kind=.function) (hnames:∀x∈scope.names,x.2=.local->scope.names.lookup x.1=some .local) (hcell:∀y∈scope.names,y.2≠.cell)
  (hfr:∀x∈scope.names,x.2=.free->sc.names.lookup x.1=some .cell∨sc.names.lookup x.1=some .free)
  (hnd:fi.Nodup) (hNf:Nf.map some=fi.map (λj=>N[j]?)) (hNk:∀x∈Nf,scope.names.lookup x=some .free) (hfl:∀j∈fi,j<N.length)
  (hg:∀cl s₀ H₀ fp,Q5 (jt X scope cl (Nt++Nf) s₀ H₀ fp) tg Nt.length g) (hti:∀cl s₀ H₀ fp,Q6 (jt X scope cl (Nt++Nf) s₀ H₀ fp) ifs ti) (hte:∀cl s₀ H₀ fp,PL (jt X scope cl (Nt++Nf) s₀ H₀ fp) elt te)
  {gV:List (Addr×Obj)} {s:Shared} {σ:St} {H Pr:Hp} {Z:Ev} {so:L->Ev->Prop} {use:Option (Value->Sem Unit)} {Q:Value->Shared->Prop} (I:P4 X gV σ H s) (E:aC X.K Pr H σ Z) (h:jN Nt.length fi src g ti te Z so)
  (hRR:∀D C s7 H6 acc Z'' m,P4 X gV σ H6 s7->s7.heap.Ns C m->H6 C=none->C≠X.env.locals->X.s₀.heap.objs.size<=C->(∀x c,X.env.cells.lookup x=some c->c≠C)->(∀p∈X.pn++gV,p.1≠C)->aC X.K Pr H6 (some (.ref D)::σ) (.own D acc::Z'')->so (.own D acc) Z'' ->
   compPost (model X.prog X.w) X.A X.xe use Q (.ref D) C (.ok .next) s7)
  (hs:∀x,foldedSetIterable iter X.env x=pure x):wpAny (model X.prog X.w) X.A (comprehension (.ListComp elt [⟨tg,iter,ifs,0⟩] scope pos) scope X.env (firstIterPos [⟨tg,iter,ifs,0⟩] pos) (newList []) false (eval iter X.env) use) Q X.xe s:=by
 have hcells:∀x∈scope.names,x.2=.free->∃c,X.env.cells.lookup x.1=some c:=λx hx hk=>I.ok.has x.1 (by
  show X.env.scope.names.lookup x.1=_∨X.env.scope.names.lookup x.1=_
  rw[hsc];exact hfr x hx hk)
 have hsub:=y3 (cells:=X.env.cells) scope.names [] (λx c e=>by simp at e);refine wpAny_comprehension_free (use:=use) rfl hs (ng hcells) hkind hnames (P8 (hi gV s σ H Pr Z _ I E h) λv s1 h1=>P8 h1 λitv s2 h2=>?_);obtain⟨it,fp,tn,J,H2,xs,Z2,e,I2,T,st2,f2,E2,G,kz,w0⟩:=h2;subst e;refine VQ (T:="list") ?_;generalize hD:s2.heap.objs.size=D;have fD:H2 D=none:=by rw[<- hD];exact I2.fresh
 have I3:P4 X gV σ (PR H2 D (.lst [])) {s2 with heap:=s2.heap.push {cls:=.type "list",dict:=none,data:=.seq ([]:List Value).toArray} }:=by have:=P4.lnew (ys:=[]) (its:=[]) (t':=s2.toks) I2 .nil (VC _);rw[hD]at this;exact this
 have E3:=E2.cons_own (p:=D) (vs:=[]) (xs:=[]) fD .nil;have sz3:(s2.heap.push {cls:=.type "list",dict:=none,data:=.seq ([]:List Value).toArray}).objs.size=D+1:=by rw[Heap.size_push,hD]
 generalize hs3:({s2 with heap:=s2.heap.push {cls:=.type "list",dict:=none,data:=.seq ([]:List Value).toArray} }:Shared)=s3 at I3;have hs3h:s3.heap=s2.heap.push {cls:=.type "list",dict:=none,data:=.seq ([]:List Value).toArray}:=by rw[<- hs3]
 have fpD:∀b∈fp,b≠D:=λb hb=>by obtain⟨o,e,_⟩:=T.obj 0 _ st2 b hb;rw[<- hD];exact UI (Up e)
 have old3:∀b o,s2.heap.get? b=some o->s3.heap.get? b=some o:=λb o e=>by rw[hs3h];exact Ug _ e
 refine wpAny_newFunctionEnv (around:=some X.env) hcell (by intro y hy;simp at hy) (λh4 hns4 hsb4=>?_) hkind
 have hns4':h4.Ns s3.heap.objs.size (λ_=>none):=by
  have:(λx=>(([]:List (Str×Value)).reverse.lookup x))=λ_=>(none:Option Value):=by funext x;rfl
  rw[this]at hns4;exact hns4
 have old4:∀b o,s3.heap.get? b=some o->h4.get? b=some o:=λb o e=>by rw[hsb4.2 b (UI (Up e))];exact Ug _ e
 have hσl:σ.length=N.length:=by rw[<- hXN];exact I.len
 have hρ2:σ.length=Z2.length:=E2.len;have hjσ:∀j∈fi,j<σ.length:=λj hj=>by rw[hσl];exact hfl j hj
 have hjρ:∀j∈fi,j<Z2.length:=λj hj=>by rw[<- hρ2];exact hjσ j hj
 have hfpl:∀b∈fp,b<s3.heap.objs.size:=λb hb=>by obtain⟨o,e,_⟩:=T.obj 0 _ st2 b hb;exact Up (old3 b o e)
 have hlNf:Nf.length=fi.length:=by have:=Vy List.length hNf;simpa using this
 have Bok:(jt X scope (vQ X.env.cells scope.names []) (Nt++Nf) s3 (PR H2 D (.lst [])) fp).Ok:=by
  refine⟨I3.ok.mod,hkind,I.ok.glob,I.ok.blt,Ul _,λx y c e1 e2=>I.ok.inj x y c (hsub x c e1) (hsub y c e2),λx hx=>?_,λx c hf _=>(UL hf).elim,I.ok.hd,I.ok.frames,.inl rfl,λb hb=>⟨UI (hfpl b hb),λx c e=>(f2 b hb).2.2.2.2.1 x c (hsub x c e)⟩,I3.bs,Uv I.ok.bsz I3.sz,λb o e hb=>?_,λb hb hm=>?_,I3.stack,I3.stkFree,I3.tbs⟩
  .
   have hm:(x,NameKind.free)∈scope.names:=by
    rcases hx with hx|hx
    . exact iL (env:=X.env) hcell (.inl rfl) hx
    . exact iL (env:=X.env) hcell (.inr rfl) hx
   exact uv scope.names [] x (.inr ⟨hm,hcells _ hm rfl⟩)
  .
   rcases(f2 b hb).2.2.2.1 with z|z
   . exact I.ok.noex b o e z
   . exact absurd (Uj (Up (I.ok.bs b o e).1) z) (Wb _)
  .
   rcases Uo.mp (I3.stkSub b hm)with z|z
   . exact(f2 b hb).2.1 z
   . exact(f2 b hb).2.2.1 z
 have I4:P4 (jt X scope (vQ X.env.cells scope.names []) (Nt++Nf) s3 (PR H2 D (.lst [])) fp) [] (List.replicate Nt.length none++cb fi σ) (PR H2 D (.lst [])) {s3 with heap:=h4,toks:=s3.toks+([]:List (Str×Value)).length}:=by
  refine⟨Bok,rfl,I3.bare,Un.kept old4,⟨_,hns4',λi x v e1 e2 e3=>?_⟩,λx c e=>?_,I3.fresh,λx c e=>(I3.freeC x c (hsub x c e)).imp id λz=>⟨rfl,z.2⟩,λp hp=>absurd (show p∈([]:List (Addr×Obj))from hp) v6,I3.hok.kept old4,?_⟩
  .
   have e1:(Nt++Nf)[i]?=some x:=e1
   have hi':Nt.length<=i:=by
    by_cases q:i<Nt.length
    . rw[UF (by simpa using q),List.getElem?_replicate]at e2;split at e2<;>cases e2
    . omega
   rw[UG hi']at e1;rw[UG (by simpa using hi')]at e2;simp only[VI]at e2;generalize i-Nt.length=k at e1 e2;have hk:k<fi.length:=by have:=(Uh.mp e1).1;omega
   have e4:(Nf.map some)[k]?=(fi.map λj=>N[j]?)[k]?:=by rw[hNf]
   rw[UJ,UJ,e1,Uu hk]at e4;have e5:N[fi[k]]?=some x:=by simpa using e4.symm
   have e6:σ[fi[k]]?=some (some v):=by unfold cb at e2;rw[UJ,Uu hk]at e2;have hjl:=hjσ fi[k] (Vm hk);rw[Uu hjl];simpa[Uu hjl]using e2
   have hxm:x∈Nf:=Vh e1;have hfree:=hNk x hxm;have hmem:(x,NameKind.free)∈scope.names:=Vv hfree;have hkx:=hfr _ hmem rfl;obtain⟨m,_,hl⟩:=I3.loc;obtain⟨u,ru,lk⟩:=hl fi[k] x v (by rw[hXN];exact e5) e6 (by rw[hsc];exact .inr hkx);refine⟨u,ru,.inr ⟨fA (env:=X.env) hfree,?_⟩⟩;rcases lk with⟨z,_⟩|⟨_,c,hc1,hc2⟩
   .
    have z:X.env.scope.names.lookup x=some .local:=z;rw[hsc]at z;rcases hkx with q|q
    . rw[z]at q;cases q
    . rw[z]at q;cases q
   .
    obtain⟨d,hd⟩:=uv (cells:=X.env.cells) scope.names [] x (.inr ⟨hmem,c,hc1⟩);have:d=c:=by have:=hsub x d hd;rw[hc1]at this;exact(UM this).symm
    subst this;obtain⟨o,ho,hdd⟩:=hc2;exact⟨d,hd,o,old4 _ o ho,hdd⟩
  . obtain⟨v,o,ho,hd⟩:=I3.cell x c (hsub x c e);exact⟨v,o,old4 c o ho,hd⟩
  . show(List.replicate Nt.length none++cb fi σ).length=(Nt++Nf).length;simp[cb,hlNf]
 have E4:aC X.K Pr (PR H2 D (.lst [])) (some (.ref D)::(σ++(List.replicate Nt.length none++cb fi σ))) (.own D []::(bG fi Z2++(List.replicate Nt.length .un++cB fi Z2))):=by
  have a1:aC X.K Pr (PR H2 D (.lst [])) (σ++[some (.ref D)]) (Z2++[.own D []]):=E3.rearr (by simp[hρ2]) [] (by
   rw[U5,Vt hρ2]
   exact(Vf (l₁:=[(some (V.ref D),L.own D [])]) (l₂:=σ.zip Z2)))
  have a2:=a1.takes fi hnd λj hj=>by have:=hjρ j hj;simp;omega
  rw[vR hjσ,AF hjρ,vS hjρ]at a2;have a3:=a2.uns Nt.length;have hcl:(cb fi σ).length=(cB fi Z2).length:=by simp[cb,cB]
  have hul:σ.length=(bG fi Z2).length:=by rw[fz];exact hρ2
  refine a3.rearr (by simp[hul,hcl]) [] ?_;have l1:(cb fi σ++(σ++[some (V.ref D)])++List.replicate Nt.length none).zip (cB fi Z2++(bG fi Z2++[L.own D []])++List.replicate Nt.length L.un)=((cb fi σ).zip (cB fi Z2)++(σ.zip (bG fi Z2)++[(some (V.ref D),L.own D [])]))++(List.replicate Nt.length none).zip (List.replicate Nt.length L.un):=by rw[Vt (by simp only[Ue,hcl,hul];rfl),Vt hcl,Vt hul];rfl
  have l2:(some (V.ref D)::(σ++(List.replicate Nt.length none++cb fi σ))).zip (L.own D []::(bG fi Z2++(List.replicate Nt.length L.un++cB fi Z2)))=(some (V.ref D),L.own D [])::(σ.zip (bG fi Z2)++((List.replicate Nt.length none).zip (List.replicate Nt.length L.un)++(cb fi σ).zip (cB fi Z2))):=by rw[VB,Vt hul,Vt v6]
  rw[U5,l1,l2];generalize (cb fi σ).zip (cB fi Z2)=z1;generalize σ.zip (bG fi Z2)=z2;generalize (List.replicate Nt.length none).zip (List.replicate Nt.length L.un)=z3;show(z1++(z2++[(some (V.ref D),L.own D [])])++z3).Perm ((some (V.ref D),L.own D [])::(z2++(z3++z1)));have p1:(z1++(z2++[(some (V.ref D),L.own D [])])++z3).Perm ((z2++[(some (V.ref D),L.own D [])])++z3++z1):=by rw[UT];exact Vf
  refine p1.trans ?_;rw[UT,UT];exact List.perm_middle
 clear E3
 let B:Cx:=jt X scope (vQ X.env.cells scope.names []) (Nt++Nf) s3 (PR H2 D (.lst [])) fp
 have hul:σ.length=(bG fi Z2).length:=by rw[fz];exact hρ2
 have stat:∀{H':Hp},(∀b∈fp,H' b=none)->∀b∈fp,Bm B [] H' b:=λhn b hb=>by
  refine⟨hn b hb,UI (hfpl b hb),λhm=>?_,.inl hb,λx c e=>(f2 b hb).2.2.2.2.1 x c (hsub x c e),λp hp=>absurd (show p∈([]:List (Addr×Obj))from hp) v6⟩;rcases Uo.mp (I3.stkSub b hm)with z|z
  . exact(f2 b hb).2.1 z
  . exact(f2 b hb).2.2.1 z
 have loop:∀s5:Shared,s5={s3 with heap:=h4,toks:=s3.toks+([]:List (Str×Value)).length}->codeAny (model X.prog X.w) X.A (.compLoop (.ListComp elt [⟨tg,iter,ifs,0⟩] scope pos) 0 (.ref it) (.ref D) B.env)
   (compPost (model X.prog X.w) X.A X.xe use Q (.ref D) s3.heap.objs.size) s5:=by
  rintro s5 rfl
  refine BW (λn s'=>∃i σ' H' Z' acc,n+i=xs.length/\P4 B [] σ' H' s'/\tn i s'.heap/\(∀b∈fp,H' b=none)/\σ'.drop Nt.length=cb fi σ/\aC X.K Pr H' (some (.ref D)::(σ++σ')) (.own D acc::(bG fi Z2++Z'))/\acc.length<=i /\
   hJ g ti te (xs.drop i) Z' acc λys ρb=>∀a,so (.own a ys) (g8 fi (ρb.drop Nt.length) (bG fi Z2))) ?_ xs.length
   ⟨0,_,_,_,[],xL,I4,T.keep 0 _ _ st2 λb hb o e=>old4 b o (old3 b o e),λb hb=>by rw[ay (fpD b hb)];exact(f2 b hb).1,v6,E4,Ul _,by simpa using w0⟩
  rintro n s6 ⟨i,σ6,H6,Z6,acc,hn,I6,st6,fr6,dr6,E6,hal,w6⟩
  have pr:su H2 H6:=λb o p e=>by
   have ne:b≠D:=λz=>by rw[z,fD]at e;cases e
   have e':B.H₀ b=some o:=by show PR H2 D (.lst []) b=some o;rw[ay ne];exact e
   cases o with
   |tup ys=>exact I6.base.tups b ys e'
   |frz ob u=>exact I6.base.frzs b ob u e'
   |tbl t=>exact I6.base.tbls b t e'
   |_=>exact p.elim
  obtain⟨go,stop⟩:=G H6 pr;have hτ:(some (V.ref D)::σ).length=(L.own D acc::bG fi Z2).length:=by simp[hul]
  by_cases hlt:i<xs.length
  .
   obtain⟨hgo,hy⟩:=go i xs[i] (Uu hlt);rw[VH hlt]at w6;refine P8 (T.item B rfl rfl rfl hc i [] s6 σ6 H6 (λ_ _=>False) I6 (stat fr6) st6 hgo) λr s7 ⟨u,hr,h7⟩=>?_;subst hr;refine P8 h7 λ_ s8 ⟨x,H8,I8,r8,y8,st8,fr8⟩=>?_;obtain⟨gr,rx⟩:=hy x H8 y8;have I8':=I8.pinned (stat fr8) (T.obj _ _ st8);have E8:=E6.grown gr;have E8a:aC X.K (bD H8 Z6) H8 σ6 Z6:=(aC.drop (τ:=some (V.ref D)::σ) (lam:=L.own D acc::bG fi Z2) E8 hτ).wide;obtain⟨gg,hgg,hgs⟩:=hg (vQ X.env.cells scope.names []) s3 (PR H2 D (.lst [])) fp;refine P8 (hgg _ s8 σ6 H8 x u _ I8' r8 (hgs x σ6 H8 _ Z6 xs[i] _ I8.len E8a rx w6)) λ_ s9 ⟨σ9,H9,I9,e9,dr9,Z9,E9,q9⟩=>?_;subst e9;have F9:aC X.K Pr H9 (some (V.ref D)::(σ++σ9)) (L.own D acc::(bG fi Z2++Z9)):=aC.step (τ:=some (V.ref D)::σ) (lam:=L.own D acc::bG fi Z2) (w:=[]) (μ:=[]) E8 hτ E9 rfl;have F9a:aC X.K (bD H9 Z9) H9 σ9 Z9:=(aC.drop (τ:=some (V.ref D)::σ) (lam:=L.own D acc::bG fi Z2) F9 hτ).wide;refine P8 (hti _ _ _ _ _ s9 σ9 H9 _ Z9 _ I9 F9a q9) λok sA ⟨HA,ρA,IA,EA,qA⟩=>?_;have FA:aC X.K Pr HA (some (V.ref D)::(σ++σ9)) (L.own D acc::(bG fi Z2++ρA)):=aC.step (τ:=some (V.ref D)::σ) (lam:=L.own D acc::bG fi Z2) (w:=[]) (μ:=[]) F9 hτ EA rfl
   have again:∀{sZ:Shared}{HZ:Hp}{ρZ:Ev}{acc':List L2.D},P4 B ([]++vz fp s8.heap) σ9 HZ sZ->aC X.K Pr HZ (some (.ref D)::(σ++σ9)) (.own D acc'::(bG fi Z2++ρZ))->acc'.length<=i+1 ->
     (hJ g ti te (xs.drop (i+1)) ρZ acc' λys ρb=>∀a,so (.own a ys) (g8 fi (ρb.drop Nt.length) (bG fi Z2)))->∃m,m<n/\∃i σ' H' Z' acc,m+i=xs.length/\P4 B [] σ' H' sZ/\tn i sZ.heap/\(∀b∈fp,H' b=none)/\σ'.drop Nt.length=cb fi σ /\
     aC X.K Pr H' (some (.ref D)::(σ++σ')) (.own D acc::(bG fi Z2++Z'))/\acc.length<=i/\hJ g ti te (xs.drop i) Z' acc λys ρb=>∀a,so (.own a ys) (g8 fi (ρb.drop Nt.length) (bG fi Z2)):=λ{sZ HZ ρZ acc'} IZ EZ hz qZ=>by
    refine⟨n-1,xL,i+1,σ9,HZ,ρZ,acc',xL,IZ.unpinned,T.keep _ _ _ st8 λb hb o e=>(IZ.pin (b,o) (UD _ (UD _ (kO hb e)))).1,λb hb=>?_,dr9.trans dr6,EZ,hz,qZ⟩;obtain⟨o,e,d⟩:=T.obj _ _ st8 b hb;exact(IZ.pin (b,o) (UD _ (UD _ (kO hb e)))).2.1
   cases ok with
   | false =>
    rw[if_neg UL]at qA ⊢;exact again IA FA xL qA
   | true =>
    rw[if_pos rfl]at qA ⊢;have FAa:aC X.K (bD HA ρA) HA σ9 ρA:=(aC.drop (τ:=some (V.ref D)::σ) (lam:=L.own D acc::bG fi Z2) FA hτ).wide;refine P8 (hte _ _ _ _ _ sA σ9 HA _ ρA _ IA FAa qA) λux sB qB=>?_;obtain⟨vy,HB,y,ρB,IB,rB,EB,qB⟩:=EL.frz (X:=B) (so:=λy Z3=>hJ g ti te (xs.drop (i+1)) Z3 (acc++[y]) λys ρb=>∀a,so (.own a ys) (g8 fi (ρb.drop Nt.length) (bG fi Z2))) qB;have FB:aC X.K Pr HB (some vy::(some (V.ref D)::(σ++σ9))) (.d y::(L.own D acc::(bG fi Z2++ρB))):=aC.step (τ:=some (V.ref D)::σ) (lam:=L.own D acc::bG fi Z2) (w:=[some vy]) (μ:=[.d y]) FA hτ EB rfl;obtain⟨_,e1,p1⟩:=FB.head_d;cases e1;have Q7:=FB.tail.sl
    cases Q7 with
    | cons q0 _ =>
     obtain⟨_,vs,hDB,rvs⟩:=q0;refine P8 (qK (X:=B) _ sB σ9 HB (.ref D) [vy] (.ref D) [ux] (λz H'=>H'=PR HB D (.lst (vs++[vy]))) IB rfl (.cons rB .nil) ⟨D,vs,vy,rfl,rfl,hDB,by rw[rvs.length];omega,rfl⟩) λ_ sC ⟨z,HC,IC,_,eC⟩=>?_;subst eC;exact again IC (FB.tail.write (rvs.append (.cons p1 .nil))) (by simp;omega) qB
  .
   have e:i=xs.length:=by omega
   subst e;refine P8 (T.done B rfl rfl rfl hc xs.length [] s6 σ6 H6 (λ_ _=>False) I6 (stat fr6) st6 stop) λr s7 ⟨hr,I7⟩=>?_;subst hr;rw[List.drop_length]at w6;obtain⟨m,hm,_⟩:=id I7.loc;have I8:P4 X gV σ H6 s7:=I3.call' (ch:=fp) I7.os I7.base I7.hok I7.bare λb hb=>⟨(f2 b hb).2.2.2.1,(f2 b hb).2.1,(f2 b hb).2.2.2.2.1,(f2 b hb).2.2.2.2.2⟩;have f4:=I3.fpOk (H':=H6) (b:=s3.heap.objs.size) (Ul _) I7.free
   .
    have hlen6:σ6.length=Z6.length:=(aC.drop (τ:=some (V.ref D)::σ) (lam:=L.own D acc::bG fi Z2) E6 hτ).len
    have a1:aC X.K Pr H6 (cb fi σ++(σ++[some (V.ref D)])) (Z6.drop Nt.length++(bG fi Z2++[L.own D acc])):=by
     have hcd:(cb fi σ).length=(Z6.drop Nt.length).length:=by rw[<- dr6,Uq,Uq,hlen6]
     refine E6.rearr (by simp[hcd,hul,hlen6]) ((σ6.take Nt.length).zip (Z6.take Nt.length)) ?_;have l0:σ6.zip Z6=(σ6.take Nt.length).zip (Z6.take Nt.length)++(cb fi σ).zip (Z6.drop Nt.length):=by rw[<- dr6,<- Vt (by simp[hlen6]),List.take_append_drop,List.take_append_drop]
     have l1:(some (V.ref D)::(σ++σ6)).zip (L.own D acc::(bG fi Z2++Z6))=(some (V.ref D),L.own D acc)::(σ.zip (bG fi Z2)++σ6.zip Z6):=by rw[VB,Vt hul]
     have l2:(cb fi σ++(σ++[some (V.ref D)])).zip (Z6.drop Nt.length++(bG fi Z2++[L.own D acc]))=(cb fi σ).zip (Z6.drop Nt.length)++(σ.zip (bG fi Z2)++[(some (V.ref D),L.own D acc)]):=by rw[Vt hcd,Vt hul];rfl
     rw[l1,l2,l0];generalize (cb fi σ).zip (Z6.drop Nt.length)=z1;generalize σ.zip (bG fi Z2)=z2;generalize (σ6.take Nt.length).zip (Z6.take Nt.length)=z3;have p1:((some (V.ref D),L.own D acc)::(z2++(z3++z1))).Perm ((z2++[(some (V.ref D),L.own D acc)])++(z3++z1)):=by rw[UT];exact List.perm_middle.symm
     refine p1.trans ?_;have p2:((z2++[(some (V.ref D),L.own D acc)])++(z3++z1)).Perm ((z3++z1)++(z2++[(some (V.ref D),L.own D acc)])):=Vf;refine p2.trans ?_;rw[UT];exact Vf
    have a2:=aC.backs (σ:=σ++[some (V.ref D)]) (cs:=Z6.drop Nt.length) (Z:=bG fi Z2++[L.own D acc]) fi hnd (by rw[Uq,<- hlen6,<- Uq,dr6];simp[cb]) (λj hj=>by
     rw[UF (by rw[fz];exact hjρ j hj)];exact y2 fi Z2 j hj (hjρ j hj)) (λj hj=>by have:=hjσ j hj;simp;omega) (by rw[vR hjσ];exact a1)
    rw[sX λj hj=>by rw[fz];exact hjρ j hj]at a2;have hpl:σ.length=(g8 fi (Z6.drop Nt.length) (bG fi Z2)).length:=by have:=a2.len;simpa using this
    refine hRR D s3.heap.objs.size s7 H6 acc (g8 fi (Z6.drop Nt.length) (bG fi Z2)) m I8 hm f4.1 f4.2.1 I3.sz f4.2.2.2.2.1 f4.2.2.2.2.2 (a2.rearr (by simp[hpl]) [] ?_) (w6 D);rw[U5,Vt hpl,VB];exact Vf (l₂:=[(some (V.ref D),L.own D acc)])
 exact codeAny_compStart_list (loop _ rfl) (T.self _ 0 _ _ _ (T.keep 0 _ _ st2 λb hb o e=>old4 b o (old3 b o e)) (loop _ rfl))
theorem fC{elt tg iter:Expr}{ifs:List Expr}{scope sc:Scope}{pos:Pos}{N Nt Nf:List Str}{fi:List Nat}{src:W (List D)}{g:Tg}{ti:W Bool}{te:W L}
  (hsc:X.env.scope=sc) (hXN:X.N=N) (hc:X.calm=true) (hi:QZ X tg iter src)
  (hkind:scope.kind=.function) (hnames:∀x∈scope.names,x.2=.local->scope.names.lookup x.1=some .local) (hcell:∀y∈scope.names,y.2≠.cell)
  (hfr:∀x∈scope.names,x.2=.free->sc.names.lookup x.1=some .cell∨sc.names.lookup x.1=some .free)
  (hnd:fi.Nodup) (hNf:Nf.map some=fi.map (λj=>N[j]?)) (hNk:∀x∈Nf,scope.names.lookup x=some .free) (hfl:∀j∈fi,j<N.length)
  (hg:∀cl s₀ H₀ fp,Q5 (jt X scope cl (Nt++Nf) s₀ H₀ fp) tg Nt.length g) (hti:∀cl s₀ H₀ fp,Q6 (jt X scope cl (Nt++Nf) s₀ H₀ fp) ifs ti) (hte:∀cl s₀ H₀ fp,PL (jt X scope cl (Nt++Nf) s₀ H₀ fp) elt te)
  (hs:∀x,foldedSetIterable iter X.env x=pure x:=by intro _;rfl):PL X (.ListComp elt [⟨tg,iter,ifs,0⟩] scope pos) (jN Nt.length fi src g ti te):=by
 intro gV s σ H Pr Z so I E h;rw[eval_ListComp];refine vT (use:=none) hsc hXN hc hi hkind hnames hcell hfr hnd hNf hNk hfl hg hti hte I E h (λD C s7 H6 acc Z'' m I7 hm h1 h2 h3 h4 h5 E7 p=>?_) hs;exact⟨m,hm,λh' hsb=>⟨.ref D,H6,_,Z'',I7.turned (t':=s7.toks) (λb o hb e=>(hsb.2 b hb).trans e) h1 (Vn (Vn h2)) (.inr h3) h4 h5,rfl,E7,p⟩⟩
theorem xS{elt tg iter:Expr}{ifs:List Expr}{scope sc:Scope}{pos spos py:Pos}{y:Str}{j:Nat}{N Nt Nf:List Str}{fi:List Nat}{src:W (List D)}{g:Tg}{ti:W Bool}{te:W L}
  (hN:X.N.Nodup) (hj:X.N[j]?=some y) (hy:P2 X.env.scope y)
  (hsc:X.env.scope=sc) (hXN:X.N=N) (hc:X.calm=true) (hi:QZ X tg iter src)
  (hkind:scope.kind=.function) (hnames:∀x∈scope.names,x.2=.local->scope.names.lookup x.1=some .local) (hcell:∀y∈scope.names,y.2≠.cell)
  (hfr:∀x∈scope.names,x.2=.free->sc.names.lookup x.1=some .cell∨sc.names.lookup x.1=some .free)
  (hnd:fi.Nodup) (hNf:Nf.map some=fi.map (λj=>N[j]?)) (hNk:∀x∈Nf,scope.names.lookup x=some .free) (hfl:∀j∈fi,j<N.length)
  (hg:∀cl s₀ H₀ fp,Q5 (jt X scope cl (Nt++Nf) s₀ H₀ fp) tg Nt.length g) (hti:∀cl s₀ H₀ fp,Q6 (jt X scope cl (Nt++Nf) s₀ H₀ fp) ifs ti) (hte:∀cl s₀ H₀ fp,PL (jt X scope cl (Nt++Nf) s₀ H₀ fp) elt te)
  (hsw:swapsWith (.ListComp elt [⟨tg,iter,ifs,0⟩] scope pos) (some (.Name y py)) spos.line X.env=pure true:=by rfl) (hf:X.fn y=true∨X.env.scope.names.lookup y=some .local:=by first|exact .inl rfl|exact .inr rfl|assumption)
  (hs:∀x,foldedSetIterable iter X.env x=pure x:=by intro _;rfl):PM X (.Assign [.Name y py] (.ListComp elt [⟨tg,iter,ifs,0⟩] scope pos) spos) (bP j (jN Nt.length fi src g ti te)):=by
 intro gV s σ H Pr Z so I E h;rw[exec_Assign_Name_used _ _ _ _ hsw];refine kS (We (kS ?_))
 show wpAny _ X.A (do let _ <- comprehension (.ListComp elt [⟨tg,iter,ifs,0⟩] scope pos) scope X.env (firstIterPos [⟨tg,iter,ifs,0⟩] pos) (newList []) false (eval iter X.env) (some (assign (.Name y py) X.env))) _ _ s
 refine kS (P8 (vT (use:=some (assign (.Name y py) X.env)) (Q:=λ_ s'=>SM X gV Pr so .next s') (so:=λr Z1=>so .nx (Z1.set j r)) hsc hXN hc hi hkind hnames hcell hfr hnd hNf hNk hfl hg hti hte I E h (λD C s7 H6 acc Z'' m I7 hm h1 h2 h3 h4 h5 E7 p=>?_) hs) λ_ s' hq=>Um (Um hq))
 show wpAny _ X.A (assign (.Name y py) X.env (.ref D)) _ _ _;refine wpAny_assign_Name (vx (v:=.ref D) I7 hN hj hy rfl (λs8 I8 ⟨a,sb,ha⟩=>?_) hf)
 have hCa:C≠a:=by
  rcases ha with z|z
  . rw[z];exact h2
  . exact λq=>h4 y a z q.symm
 refine⟨m,hm.sameBut sb hCa,λh' hsb=>⟨_,H6,_,I8.turned (t':=s8.toks) (λb o hb e=>(hsb.2 b hb).trans e) h1 h2 (.inr h3) h4 h5,E7.store (by rw[I7.len];exact(Uh.mp hj).1),p⟩⟩
end
section
variable{X:Cx}{e a b:Expr}{pos:Pos}{ta tb te:W L}{x y:Str}
def Nq(i j:Nat)(ta tb:W L):W Fl:=λZ so=>ta Z λr Z1=>QN r λv=>tb Z1 λr2 Z2=>QN r2 λw=>so .nx ((Z2.set i (.d v)).set j (.d w))
theorem Lk{i j:Nat}{px py pt:Pos} {kt k2 pt2} (hc:X.calm=true) (hN:X.N.Nodup) (hi:X.N[i]?=some x) (hj:X.N[j]?=some y) (hij:i≠j)
  (hx:X.env.scope.names.lookup x=some .local) (hy:X.env.scope.names.lookup y=some .local) (ha:PL X a ta) (hb:PL X b tb)
  (hw:swappedStores [.Tuple [.Name x px,.Name y py] kt pt] (.Tuple [a,b] k2 pt2) X.env=pure (some [x,y]))
  (hs:swapsWithSole [.Tuple [.Name x px,.Name y py] kt pt] (.Tuple [a,b] k2 pt2) pos.line X.env=pure false:=by rfl)
  (h1:starEach [a,b] X.env=(false,eval a X.env)::starEach [b] X.env:=by rfl) (h2:starEach [b] X.env=[(false,eval b X.env)]:=by rfl) :
  PM X (.Assign [.Tuple [.Name x px,.Name y py] kt pt] (.Tuple [a,b] k2 pt2) pos) (Nq i j ta tb):=by
 refine PM.of (KD hc hN hi hj hij hx hy (bE (aA ha).pe (bE (aA hb).pe eX h2) h1) hw hs) λσ H Pr Z so kz E h=>?_
 refine⟨Pr,Z,λr Z1=>match r with
  |.d v=>tb Z1 λr2 Z2=>QN r2 λw=>so .nx ((Z2.set i (.d v)).set j (.d w))
  |_=>False,E,h,λv H1 r Z1 E1 pp=>?_⟩
 cases r with
 | d dv =>
  refine⟨bD H1 Z1,Z1,λr Z2=>match r with
   |.d w=>so .nx ((Z2.set i (.d dv)).set j (.d w))
   |_=>False,E1.tail.wide,pp,λw H2 r2 Z2 E2 pp=>?_⟩
  cases r2 with
  | d dw =>
   have E3:aC X.K Pr H2 (some w::some v::σ) (.d dw::.d dv::Z2):=aC.step (τ:=[some v]) (lam:=[.d dv]) (w:=[some w]) (μ:=[.d dw]) E1 rfl E2 rfl;have il:i<σ.length:=by rw[kz];exact(Uh.mp hi).1
   have jl:j<σ.length:=by rw[kz];exact(Uh.mp hj).1
   obtain⟨_,e1,r1⟩:=E3.head_d;cases e1;have E4:aC X.K Pr H2 (σ.set i (some v)) (Z2.set i (.d dv)):=E3.tail.store il;exact⟨v,w,rfl,_,(E4.cons_d r1).store (by simpa using jl),pp⟩
  |_=>exact pp.elim
 |_=>exact pp.elim
def EM(is:List Nat)(te:W L):W Fl:=λZ so=>te Z λr Z1=>QN r λv=>m7 is v Z1 λZ2=>so .nx Z2
theorem BX{tg:Expr}{is:List Nat}(hg:QX X tg (m7 is))(he:PL X e te)(hs:swapsWithSole [tg] e pos.line X.env=pure false:=by rfl)(hw:swappedStores [tg] e X.env=pure none:=by rfl)
  (h1:(assignEach [tg] X.env).map (·.2)=[assign tg X.env]:=by rfl):PM X (.Assign [tg] e pos) (EM is te):=by
 intro gV s σ H Pr Z so I E h;obtain⟨gg,hg,hgg⟩:=hg;refine wpAny_Assign_stores (P8 (he gV s σ H Pr Z _ I E h) λv s1 q=>?_) hs hw;obtain⟨w,H1,d,Z1,I1,r1,E1,q1⟩:=EL.frz (so:=λd Z1=>m7 is d Z1 λZ2=>so .nx Z2) q;rw[h1];obtain⟨_,e1,p1⟩:=E1.head_d;cases e1;exact P8 (hg gV s1 σ H1 w v _ I1 r1 (hgg w σ H1 Pr Z1 d _ I1.len E1.tail p1 q1)) λ_ s2 ⟨σ',H',I',e',_,Z',E',q⟩=>by subst e';exact⟨σ',_,Z',I',E',q⟩
noncomputable def oS:D->Bool
 |.non=>true | .bl _=>true | .int _=>true | .str _=>true
 |_=>false
noncomputable def Q8:D->D->Bool
 |.non,.non=>true
 |.bl a,.bl b=>a == b
 |.bl a,.int b=>(if a then 1 else 0) == b
 |.int a,.bl b=>a == (if b then 1 else 0)
 |.int a,.int b=>a == b
 |.str a,.str b=>a == b
 |_,_=>false
theorem kT{K:W.Frag}{H:Hp}{v:V}{d:D}(r:QH K H v d)(h:oS d=true):sq v=true:=by cases r<;>first|rfl|(exact absurd h (by simp[oS]))
theorem Ll{K:W.Frag}{H:Hp}{v w:V}{d f:D}(r:QH K H v d)(q:QH K H w f)(h:oS d=true)(h':oS f=true):Qx v w=Q8 d f:=by cases r<;>cases q<;>first|rfl|(exact absurd h (by simp[oS]))|(exact absurd h' (by simp[oS]))
noncomputable def QE(x:D)(ys:List D):Bool:=ys.any λy=>Q8 y x
theorem BY{K:W.Frag}{H:Hp}{v:V}{x:D}(r:QH K H v x)(h:oS x=true):∀{vs:List V}{ys:List D},bC K H vs ys->ys.all oS=true->Qz v vs=QE x ys/\vs.all sq=true
 |_,_,.nil,_=>⟨rfl,rfl⟩
 | _,_,.cons r0 t,ha=>by rw[List.all_cons,UE]at ha;obtain⟨i1,i2⟩:=BY r h t ha.2;unfold Qz QE at i1 ⊢;rw[VL,VL,List.all_cons,i1,Ll r0 r ha.1 h,kT r0 ha.1,i2];exact⟨rfl,rfl⟩
def EN(neg:Bool):QP:=λx y k=>oS x=true/\iK y λys=>ys.all oS=true/\k (.d (.bl (if neg then !QE x ys else QE x ys)))
theorem Ln:QQ X (compareOp .In) (EN false):=QQ.of BC λσ H Pr Z x y dx dy so E px py ⟨hx,h⟩=>by
 cases py with
 | lst hz rs =>
  obtain⟨ha,h⟩:=h;obtain⟨i1,i2⟩:=BY px hx rs ha;exact⟨_,_,rfl,.inl hz.l,kT px hx,i2,_,E.cons_d (.bl _),by rw[i1];exact h⟩
 | tup hz rs =>
  obtain⟨ha,h⟩:=h;obtain⟨i1,i2⟩:=BY px hx rs ha;exact⟨_,_,rfl,.inr hz,kT px hx,i2,_,E.cons_d (.bl _),by rw[i1];exact h⟩
 |_=>exact h.elim
def Q9(X:Cx)(lo:Option Expr)(t:Option (W L)):Prop:=match lo,t with
 |none,none=>True
 |some e,some t=>PL X e t
 |_,_=>False
theorem vU{K:W.Frag}{H:Hp}{vs:List V}{xs:List D}(r:bC K H vs xs)(l u:Option Int):bC K H (GD vs l u) (m9 xs l u):=by unfold GD m9;rw[r.length];exact(r.drop _).take _
noncomputable def Ra(K:W.Frag)(t:Option (W L)):TO:=λσ H Q=>∃Pr Z so,aC K Pr H σ Z/\xQ t Z so/\∀i H' Z',aC K Pr H' σ Z'->so i Z'->Q i H'
theorem Lo{lo:Option Expr}{t:Option (W L)}(h:Q9 X lo t):PO X lo (Ra X.K t):=by
 cases lo with
 | none =>
  cases t with
  | none =>
   intro gV s σ H Q I ⟨Pr,Z,so,E,hw,q⟩;exact Ht gV s σ H Q I (q none H Z E hw)
  |some t=>exact h.elim
 | some e =>
  cases t with
  |none=>exact h.elim
  | some t =>
   intro gV s σ H Q I ⟨Pr,Z,so,E,hw,q⟩;refine Hu (PL.pe (show PL X e t from h)) gV s σ H Q I ⟨Pr,Z,_,E,hw,λv H' r Z' E' pp=>?_⟩;obtain⟨i,rfl,pp⟩:=cU pp;obtain⟨_,e1,p1⟩:=E'.head_d;cases e1;obtain rfl:=QH.inv_int p1;exact⟨i,rfl,q (some i) H' Z' E'.tail pp⟩
end
def Lp{α:Type}(o:Option L)(t u:W α)(Z:Ev)(so:α->Ev->Prop):Prop:=match o with
 |some (.own _ _)=>t Z so
 |_=>u Z so
noncomputable def ju{α:Type}(i:Nat)(t u:W α):W α:=λZ so=>Lp Z[i]? t u Z so
theorem EO{α:Type}(a:Addr)(xs:List D)(t u:W α)(Z:Ev)(so:α->Ev->Prop):Lp (some (.own a xs)) t u Z so=t Z so:=rfl
theorem Lq{α:Type}(x:D)(t u:W α)(Z:Ev)(so:α->Ev->Prop):Lp (some (.d x)) t u Z so=u Z so:=rfl
theorem HX{α:Type}(a:Option Addr)(ls:List L)(t u:W α)(Z:Ev)(so:α->Ev->Prop):Lp (some (.bx a ls)) t u Z so=u Z so:=rfl
theorem nh{X:Cx}{e:Expr}{i:Nat}{t u:W L}(h:PL X e t)(h':PL X e u):PL X e (ju i t u):=λgV s σ H Pr Z so I E q=>by
 unfold ju Lp at q;split at q
 . exact h gV s σ H Pr Z so I E q
 . exact h' gV s σ H Pr Z so I E q
theorem HY{K:W.Frag}{c:Str}{C:Addr}{T:String}(h:jS K c C=true)(hm:W.kitMeta T=true):W.kitOne K (.ref C) (.type T)=some ((["ValueError","Exception","BaseException","object"]:List String).contains T):=by obtain⟨L,cd,S⟩:=d4 h;unfold W.kitOne W.kitCls;rw[if_neg (show ¬((Value.ref C == Value.type T)=true)from λz=>by cases z)];dsimp only;rw[if_pos hm];show W.mroIn K C (.type T)=_;rw[S.mroIn,qM]
theorem sY{T:String}(h0:∀K d,(∀c ns xs,d≠.exc c ns xs)->W.kitOne K (Q3 d) (.type T)=some (mR T d))(hm:W.kitMeta T=true):∀K d t,Q4 K d t->W.kitOne K t (.type T)=some (mR T d):=by
 intro K d t h
 cases d with
 | exc c ns xs =>
  obtain⟨C,e,h⟩:=h;rw[e];exact HY h hm
 |_=>cases h;exact h0 K _ (λ_ _ _ z=>nomatch z)
theorem Ib:∀ K d t,Q4 K d t->W.kitOne K t (.type "int")=some (mR "int" d):=sY (λK d hd=>by cases d <;> first | rfl | exact absurd rfl (hd _ _ _)) y_
theorem y4:∀ K d t,Q4 K d t->W.kitOne K t (.type "bool")=some (mR "bool" d):=sY (λK d hd=>by cases d <;> first | rfl | exact absurd rfl (hd _ _ _)) y_
theorem BZ:∀ K d t,Q4 K d t->W.kitOne K t (.type "str")=some (mR "str" d):=sY (λK d hd=>by cases d <;> first | rfl | exact absurd rfl (hd _ _ _)) y_
theorem uy:∀ K d t,Q4 K d t->W.kitOne K t (.type "list")=some (mR "list" d):=sY (λK d hd=>by cases d <;> first | rfl | exact absurd rfl (hd _ _ _)) y_
theorem qW:∀ K d t,Q4 K d t->W.kitOne K t (.type "tuple")=some (mR "tuple" d):=sY (λK d hd=>by cases d <;> first | rfl | exact absurd rfl (hd _ _ _)) y_
theorem sy:∀ K d t,Q4 K d t->W.kitOne K t (.type "ValueError")=some (mR "ValueError" d):=sY (λK d hd=>by cases d <;> first | rfl | exact absurd rfl (hd _ _ _)) y_
def sD(K:W.Frag)(mg:Str->Option Value)(x:Str)(d:D):Prop:=∃v u,mg x=some u/\bS v u/\∀H,QH K H v d
theorem Ic{X:Cx}{x:Str}{d:D}{pos:Pos}(g:sD X.K X.mg x d)(hg:Gl X x) (hdb:aab x:=by decide):PL X (.Name x pos) (wC d):=by obtain⟨v,u,h1,h2,h3⟩:=g;exact HI hg h1 h2 h3 hdb
theorem y6{K:W.Frag}{mg:Str->Option Value}{x:Str}{s:Str}{t:Tok}(h1:mg x=some (.str s t)):sD K mg x (.str s):=⟨.str s,_,h1,⟨t,rfl⟩,λH=>.str s⟩
theorem nj{K:W.Frag}{mg:Str->Option Value}{x:Str}{s:Int}{t:Tok}(h1:mg x=some (.int s t)):sD K mg x (.int s):=⟨.int s,_,h1,⟨t,rfl⟩,λH=>.int s⟩
theorem vV{K:W.Frag}{H:Hp}:∀ns:List Int,bC K H (ns.map V.int) (ns.map D.int)
 |[]=>.nil
 |n::ns=>.cons (.int n) (vV ns)
theorem B0{K:W.Frag}{H:Hp}{a:Addr}{ns:List Int}{fs:FS}{n:Nat}(hl:ns.length<=n)(hO:MZ H)(hS:Qa K H a (ns.map V.int))(h:fs [.d (.lst (ns.map .int))] (λr _=>r=.d (.bl true))):spF K 1 fs [.ref a] H (λv _=>v=.bl true) λ_ _ _=>False:=by
 have hz:QG K H a (ns.map V.int):=by
  rcases hS with(h|⟨o,h⟩)|h
  .
   rcases hO a with z|⟨o,xs,z⟩|⟨q,z⟩
   . rw[z]at h;cases h
   . rw[z]at h;cases h
   . rw[z]at h;cases h
  . exact .inl ⟨o,h⟩
  . exact .inr h
 refine⟨rfl,λ_=>none,[.d (.lst (ns.map .int))],_,⟨(λb o e=>nomatch e),(show([]:List Addr).Nodup from Wg),(λa h=>absurd (show a∈([]:List Addr)from h) v6),.cons ⟨.ref a,rfl,.lst hz (vV ns)⟩ .nil⟩,h,λv H' r ls' E p=>?_⟩;subst p;obtain⟨_,e,r⟩:=E.head_d;cases e;obtain rfl:=QH.inv_bl r;rfl
section
variable{X:Cx}
def uz:QP:=λx y k=>match y with
 |.non=>k (.d (.bl (match x with | .non=>true|_=>false)))
 |_=>False
theorem oT:QQ X (compareOp .Is) uz:=Lf.imp λx y k h=>by
 unfold uz at h;split at h
 . exact⟨rfl,h⟩
 . exact h.elim
end
end L2
namespace L2
open PySem
theorem y7(a b:Int):Int.gcd b (a.fmod b)=Int.gcd a b:=by rw[Int.fmod_def,Int.gcd_sub_mul_left_right,Int.gcd_comm]
theorem lC(a:Int){b:Int}(h:b≠0):(a.fmod b).natAbs<b.natAbs:=by
 rw[Int.fmod_eq_emod];have h1:=V7 a h;have h2:a % b<(b.natAbs:Int):=Int.emod_lt a h;split
 . omega
 . rename_i q;have:a % b≠0:=λe=>q (.inr (Int.dvd_of_emod_eq_zero e));omega
noncomputable def Rb(q:Rat):D:=.tup [.int q.num,.int (q.den:Int)]
theorem xT{t b:Int}(h:b≠0):0<Int.gcd t b:=Int.gcd_pos_of_ne_zero_right _ h
noncomputable def dD(t b:Int):Int:=if b<0 then -(Int.gcd t b:Int)else(Int.gcd t b:Int)
theorem ER{t b:Int}(h:b≠0):dD t b≠0:=by have:=xT (t:=t) h;unfold dD;split<;>omega
theorem B1(t b:Int):(dD t b).natAbs=Int.gcd t b:=by unfold dD;split<;>omega
theorem ES{t b:Int}(h:b≠0):(dD t b).natAbs<=b.natAbs:=by rw[B1];exact Nat.le_of_dvd xL (by have:=Int.gcd_dvd_right t b;exact Int.natAbs_dvd_natAbs.mpr this |> λq=>by simpa using q)
theorem qX{a g:Int}(hg:g≠0)(h:g∣a):a.fdiv (-g)=-(a / g):=by obtain⟨k,rfl⟩:=h;rw[Int.mul_ediv_cancel_left _ hg,show g*k=(-g)*(-k) by rw[Int.neg_mul_neg],Int.mul_fdiv_cancel_left _ xL]
theorem B4{t b:Int}(h:b≠0):t.fdiv (dD t b)=(Rat.divInt t b).num:=by
 have hg:=xT (t:=t) h;have hd:(Int.gcd t b:Int)∣t:=Int.gcd_dvd_left t b;rw[Rat.num_divInt,Int.gcd_comm b t];unfold dD;split
 . rename_i hb;rw[qX xL hd,Int.sign_eq_neg_one_of_neg hb,Int.neg_one_mul,Int.neg_ediv_of_dvd hd]
 . rename_i hb;rw[Int.sign_eq_one_of_pos xL,Int.one_mul,Int.fdiv_eq_ediv_of_nonneg _ xL]
theorem Ie{t b:Int}(h:b≠0):b.fdiv (dD t b)=((Rat.divInt t b).den:Int):=by
 have hg:=xT (t:=t) h;have hd:(Int.gcd t b:Int)∣b:=Int.gcd_dvd_right t b;rw[Rat.den_divInt,if_neg h,Int.gcd_comm b t,Int.natCast_ediv];unfold dD;split
 .
  rename_i hb;rw[qX xL hd,<- Int.neg_ediv_of_dvd hd]
  congr 1
  omega
 .
  rename_i hb;rw[Int.fdiv_eq_ediv_of_nonneg _ xL]
  congr 1
  omega
theorem GL{t b:Int}(h:b≠0):(Rat.divInt t b).den<=b.natAbs:=by rw[Rat.den_divInt,if_neg h];exact Nat.div_le_self _ _
theorem GM{t b:Int}(h:b≠0):(Rat.divInt t b).num.natAbs<=t.natAbs:=by rw[<- B4 h];exact PySem.natAbs_fdiv_le _ _
theorem den_pos(q:Rat):0<q.den:=Nat.pos_of_ne_zero q.den_nz
theorem Lr(p q:Rat):Rat.divInt (p.num*(q.den:Int)+q.num*(p.den:Int)) ((p.den:Int)*(q.den:Int))=p+q:=by have hp:=den_pos p;have hq:=den_pos q;have:=Rat.divInt_add_divInt p.num q.num (d₁:=(p.den:Int)) (d₂:=(q.den:Int)) xL xL;rw[Rat.num_divInt_den,Rat.num_divInt_den]at this;exact this.symm
def RB(n:Nat)(q:Rat):Prop:=q.num.natAbs<2^n/\q.den<2^n
theorem RB.mono{m n:Nat}{q:Rat}(h:RB m q)(hl:m<=n):RB n q:=⟨Uj h.1 (U9 x_ hl),Uj h.2 (U9 x_ hl)⟩
theorem oU{a b m n:Nat}(h1:a<2^m)(h2:b<2^n):a*b<2^(m+n):=by rw[Nat.pow_add];exact Nat.mul_lt_mul'' h1 h2
theorem RB.add{m n:Nat}{p q:Rat}(hp:RB m p)(hq:RB n q):RB (m+n+1) (p+q):=by
 have dp:=den_pos p;have dq:=den_pos q;have hne:((p.den:Int)*(q.den:Int))≠0:=Int.mul_ne_zero xL xL;rw[<- Lr p q];have a1:=oU hp.1 hq.2;have a2:=oU hq.1 hp.2;have a3:=oU hp.2 hq.2;have e:(2:Nat)^(m+n+1)=2^(m+n)+2^(m+n):=by rw[Nat.pow_succ];omega
 rw[Nat.add_comm n m]at a2;constructor
 . refine Vi (GM hne) ?_;refine Vi (Int.natAbs_add_le _ _) ?_;rw[Int.natAbs_mul,Int.natAbs_mul,U6,U6,e];omega
 . refine Vi (GL hne) ?_;rw[Int.natAbs_mul,U6,U6,e];omega
@[simp] theorem jZ(i j:Int):Q1 (.int i) (.int j)=decide (i=j):=by simp[Q1,Q0,PyData.eqv];by_cases h:i=j<;>simp[h]
@[simp] theorem uA(i j:Str):Q1 (.str i) (.str j)=decide (i=j):=by simp[Q1,Q0,PyData.eqv];by_cases h:i=j<;>simp[h]
@[simp] theorem Ls(i j:Bool):Q1 (.bl i) (.bl j)=decide (i=j):=by simp[Q1,Q0,PyData.eqv];cases i<;>cases j<;>rfl
@[simp] theorem AG(i:Int):cq (.int i):=rfl
@[simp] theorem B5(i:Bool):cq (.bl i):=rfl
@[simp] theorem AH:cq .non:=rfl
mutual
noncomputable def Rc:Nat->D->Bool
 |_,.non=>true
 |_,.bl _=>true
 |_,.int _=>true
 |_,.str x=>PyData.strOk x
 |0,.tup _=>false
 |0,.lst _=>false
 |n+1,.tup xs=>lh n xs
 |n+1,.lst xs=>lh n xs
 |_,.dct _=>false
 |_,.exc _ _ _=>false
 |_,.fn _ _=>false
 |_,.dk _ _=>false
 |_,.gf _=>false
noncomputable def lh:Nat->List D->Bool
 |_,[]=>true
 |n,x::xs=>Rc n x && lh n xs
end
mutual
theorem uB:∀(n:Nat)(d:D),Rc n d=true->(Q0 d).canLay0=true/\(Q0 d).depth<=n
 |_,.non,_=>⟨rfl,VC _⟩
 |_,.bl _,_=>⟨rfl,VC _⟩
 |_,.int _,_=>⟨rfl,VC _⟩
 |_,.str x,h=>⟨by simpa[Rc,Q0,PyData.canLay0]using h,VC _⟩
 |0,.tup _,h=>by simp[Rc]at h
 |0,.lst _,h=>by simp[Rc]at h
 | n+1,.tup xs,h=>by
  obtain⟨h1,h2⟩:=uC n xs (by simpa[Rc]using h)
  exact⟨h1,Nat.succ_le_succ h2⟩
 | n+1,.lst xs,h=>by
  obtain⟨h1,h2⟩:=uC n xs (by simpa[Rc]using h)
  exact⟨h1,Nat.succ_le_succ h2⟩
 |_,.dct _,h=>by simp[Rc]at h
 |_,.exc _ _ _,h=>by simp[Rc]at h
 |_,.fn _ _,h=>by simp[Rc]at h
 |_,.dk _ _,h=>by simp[Rc]at h
 |_,.gf _,h=>by simp[Rc]at h
theorem uC:∀(n:Nat)(ds:List D),lh n ds=true->PyData.canLayAll0 (gj ds)=true/\PyData.depthAll (gj ds)<=n
 |_,[],_=>⟨rfl,VC _⟩
 | n,d::ds,h=>by
  have h':Rc n d=true/\lh n ds=true:=by simpa[lh]using h
  obtain⟨a1,a2⟩:=uB n d h'.1
  obtain⟨b1,b2⟩:=uC n ds h'.2
  exact⟨by simp[gj,PyData.canLayAll0,a1,b1],by simp only[gj,PyData.depthAll];omega⟩
end
theorem bq{n:Nat}{d:D}(h:Rc n d=true)(hn:n<=64):cq d:=by obtain⟨h1,h2⟩:=uB n d h;unfold cq SeqAt.shaped;rw[h1,Uw xL];rfl
theorem xU(xs ys:List D):Q1 (.tup xs) (.tup ys)=PyData.eqvAll (gj xs) (gj ys):=by simp[Q1,Q0,PyData.eqv]
theorem Ig(xs ys:List D):Q1 (.lst xs) (.lst ys)=PyData.eqvAll (gj xs) (gj ys):=by simp[Q1,Q0,PyData.eqv]
theorem hU(x y:D)(xs ys:List D):PyData.eqvAll (gj (x::xs)) (gj (y::ys))=(Q1 x y && PyData.eqvAll (gj xs) (gj ys)):=by simp[gj,PyData.eqvAll,Q1]
theorem uD:PyData.eqvAll (gj []) (gj [])=true:=by simp[gj,PyData.eqvAll]
theorem y9{n:Nat}{d:D}(h:Rc n d=true):Q1 d d=true:=SeqAt.eqv_refl _ (uB n d h).1
theorem ET(q:Rat):cq (Rb q):=bq (n:=1) (by simp[Rb,Rc,lh]) x_
theorem Lu(p q:Rat):Q1 (Rb p) (Rb q)=decide (p=q):=by
 unfold Rb;rw[xU,hU,hU,uD,jZ,jZ,Bool.and_true];by_cases h:p=q
 . subst h;simp
 .
  rw[Uy h];by_cases h1:p.num=q.num
  . have:¬((p.den:Int)=(q.den:Int)):=λe=>h (Rat.ext h1 xL);simp[this]
  . simp[h1]
end L2
namespace L2
open PySem PySem.Spec PyProof.Rows
section
variable{X:Cx}{a b c:Expr}{pos p:Pos}{ta tb tc:W L}
def jv(o o':QP)(ta tb tc:W L):W L:=λZ so=>ta Z λr Z1=>m8 r λi=>tb Z1 λr Z2=>m8 r λj=>o (.int i) (.int j) λz=>vL z λk=>if k=true then tc Z2 λr Z3=>m8 r λl=>o' (.int j) (.int l) λz=>so z Z3 else so (.d (.bl false)) Z2
def Kn(X:Cx)(op:CmpOp)(o:QP):Prop:=∃f:Int->Int->Bool,Qi X (compareOp op) (Ql λi j=>.bl (f i j))/\∀i j k,o (.int i) (.int j) k->k (.d (.bl (f i j)))
theorem Ih:Kn X .Lt yW:=⟨_,KM,λ_ _ _ h=>h⟩
theorem oV:Kn X .LtE vq:=⟨_,KN,λ_ _ _ h=>h⟩
theorem zb{op op':CmpOp}{o o':QP}{f f':Int->Int->Bool}(h1:∀i j k,o (.int i) (.int j) k->k (.d (.bl (f i j))))(h2:∀i j k,o' (.int i) (.int j) k->k (.d (.bl (f' i j))))
  (σ:St) (H Pr:Hp) (Z:Ev) (so:L->Ev->Prop) (Q:VK) (hQ:∀v H' r Z',aC X.K Pr H' (some v::σ) (r::Z')->so r Z'->Q v H') (E:aC X.K Pr H σ Z) (h:jv o o' ta tb tc Z so) :
  Bs (Ql λi j=>.bl (f i j)) (Ql λi j=>.bl (f' i j)) (tL X.K ta) (tL X.K tb) (tL X.K tc) σ H Q:=by
 refine⟨Pr,Z,_,E,h,λv H1 r Z1 E1 p=>?_⟩;obtain⟨i,rfl,p⟩:=cU p;obtain⟨_,e1,r1⟩:=E1.head_d;cases e1;obtain rfl:=QH.inv_int r1;refine⟨Pr,Z1,_,E1.tail,p,λv H2 r Z2 E2 p=>?_⟩;obtain⟨j,rfl,p⟩:=cU p;obtain⟨_,e1,r1⟩:=E2.head_d;cases e1;obtain rfl:=QH.inv_int r1;refine⟨i,j,rfl,rfl,f i j,rfl,?_⟩;have q:=h1 i j _ p
 cases hk:f i j with
 | false =>
  rw[hk]at q;exact hQ _ _ _ Z2 (E2.tail.cons_d (.bl false)) q
 | true =>
  rw[hk]at q;refine⟨Pr,Z2,_,E2.tail,q,λv H3 r Z3 E3 p=>?_⟩;obtain⟨l,rfl,p⟩:=cU p;obtain⟨_,e1,r1⟩:=E3.head_d;cases e1;obtain rfl:=QH.inv_int r1;exact⟨j,l,rfl,rfl,hQ _ _ _ Z3 (E3.tail.cons_d (.bl _)) (h2 j l _ p)⟩
theorem zd{op op':CmpOp}{o o':QP}(ho:Kn X op o)(ho':Kn X op' o')(ha:PL X a ta)(hb:PL X b tb)(hc:PL X c tc)(hm:lastMarks [op,op'] [b,c]=false:=by with_unfolding_all rfl) :
  PL X (.Compare a [op,op'] [b,c] pos) (jv o o' ta tb tc):=by
 obtain⟨f,r1,h1⟩:=ho;obtain⟨f',r2,h2⟩:=ho';exact PL.of (Eg r1 r2 ha.pe hb.pe hc.pe hm) λσ H Pr Z so E h=>zb (op:=op) (op':=op') h1 h2 σ H Pr Z so _ (λv H' r Z' E' p=>⟨r,Z',E',p⟩) E h
theorem kU{op op':CmpOp}{o o':QP}(ho:Kn X op o)(ho':Kn X op' o')(ha:PL X a ta)(hb:PL X b tb)(hc:PL X c tc)(hm:lastMarks [op,op'] [b,c]=false:=by with_unfolding_all rfl) :
  PB X (.Compare a [op,op'] [b,c] pos) (aR (jv o o' ta tb tc)):=by
 obtain⟨f,r1,h1⟩:=ho;obtain⟨f',r2,h2⟩:=ho';intro gV s σ H Pr Z so I E h;refine P8 (Eh r1 r2 ha.pe hb.pe hc.pe hm gV s σ H (λb H'=>∃Z',aC X.K Pr H' σ Z'/\so b Z') I ?_) λb s1 ⟨H1,I1,Z1,E1,p1⟩=>⟨H1,Z1,I1,E1,p1⟩;refine zb (op:=op) (op':=op') h1 h2 σ H Pr Z (λr Z1=>vL r λb=>so b Z1) _ (λv H' r Z' E' p=>?_) E h;obtain⟨b,rfl,p⟩:=qO p;obtain⟨_,e1,r1⟩:=E'.head_d;cases e1;obtain rfl:=QH.inv_bl r1;exact⟨b,rfl,Z',E'.tail,p⟩
end
end L2
namespace L2
open PySem PySem.Spec PyProof.Rows PySem.Builtin.Str
section
variable{X:Cx}{a:Expr}{pos p2:Pos}{ta:W L}{x:Str}
theorem Lv:Qr X (λx lo hi H Q=>∃z,x=.str z/\z.length<=sizeLine/\Q (.str (Txt.slice z lo hi)) H):=by
 intro gV s σ H x v vl vu lo hi sl Q I rx hs pl pu h;obtain⟨z,rfl,hz,q⟩:=h;obtain⟨t,rfl⟩:=rx;refine⟨"str",_,F.slot_str_getitem.lookup,typeIs_str _ _ _,?_⟩
 obtain⟨l',rfl,rfl⟩:∃l':Option (Int×Tok),vl=partValue l'/\lo=l'.map (·.1):=by
  cases pl
  . exact⟨none,rfl,rfl⟩
  . exact⟨some (_,_),rfl,rfl⟩
 obtain⟨u',rfl,rfl⟩:∃l':Option (Int×Tok),vu=partValue l'/\hi=l'.map (·.1):=by
  cases pu
  . exact⟨none,rfl,rfl⟩
  . exact⟨some (_,_),rfl,rfl⟩
 exact wpAny_getItem_str_slice (l:=l') (u:=u') (st:=none) hs rfl (post_val_or_str ⟨Uv (Txt.slice_le z _ _) hz,λt' k=>⟨.str _,H,I.tok k,⟨t',rfl⟩,q⟩⟩)
def gH(ta:W L)(lo hi:Option (W L)):W L:=λZ so=>ta Z λr Z1=>QN r λd=>xQ lo Z1 λl Z2=>xQ hi Z2 λu Z3=>match d with
 |.lst xs=>∀a,so (.own a (m9 xs l u)) Z3
 |.str z=>z.length<=sizeLine/\so (.d (.str (Txt.slice z l u))) Z3
 |.tup xs=>¬(HT.sIx xs.length 0 l=0/\HT.sIx xs.length xs.length u=xs.length)/\so (.d (.tup (m9 xs l u))) Z3
 |_=>False
theorem aL{lo hi:Option Expr}{tl th:Option (W L)}(ha:PL X a ta)(hl:Q9 X lo tl)(hh:Q9 X hi th):PL X (.Subscript a (.Slice lo hi none p2) pos) (gH ta tl th):=by
 refine PL.of (Ek (Qr.or Hv (Qr.or Lv KS)) (aA ha).pe (Lo hl) (Lo hh)) λσ H Pr Z so E h=>?_
 refine⟨Pr,Z,λr Z1=>match r with
  | .d d=>xQ tl Z1 λl Z2=>xQ th Z2 λu Z3=>match d with
   |.lst xs=>∀a,so (.own a (m9 xs l u)) Z3
   |.str z=>z.length<=sizeLine/\so (.d (.str (Txt.slice z l u))) Z3
   |.tup xs=>¬(HT.sIx xs.length 0 l=0/\HT.sIx xs.length xs.length u=xs.length)/\so (.d (.tup (m9 xs l u))) Z3
   |_=>False
  |_=>False,E,h,λv H1 r Z1 E1 pp=>?_⟩
 cases r with
 | d d =>
  obtain⟨_,e1,p1⟩:=E1.head_d;cases e1;refine⟨bD H1 Z1,Z1,_,E1.tail.wide,pp,λl H2 Z2 E2 pp=>?_⟩;have F2:aC X.K Pr H2 (some v::σ) (.d d::Z2):=aC.step (τ:=[some v]) (lam:=[.d d]) (w:=[]) (μ:=[]) E1 rfl E2 rfl;refine⟨bD H2 Z2,Z2,_,F2.tail.wide,pp,λu H3 Z3 E3 pp=>?_⟩;have F3:aC X.K Pr H3 (some v::σ) (.d d::Z3):=aC.step (τ:=[some v]) (lam:=[.d d]) (w:=[]) (μ:=[]) F2 rfl E3 rfl;obtain⟨_,e1,p1⟩:=F3.head_d;cases e1
  cases p1 with
  |lst hz rs=>exact .inl ⟨_,_,rfl,hz.l,λq hq=>⟨_,_,F3.tail.cons_own hq (vU rs l u),pp q⟩⟩
  |str z=>exact .inr (.inl ⟨z,rfl,pp.1,_,_,F3.tail.cons_d (.str _),pp.2⟩)
  |tup hz rs=>exact .inr (.inr ⟨_,_,rfl,hz,by rw[rs.length];exact pp.1,λq hq=>⟨_,_,F3.tail.cons_tup hq (vU rs l u),pp.2⟩⟩)
  |_=>exact pp.elim
 |_=>exact pp.elim
def Nr(K:W.Frag):V->List V->Hp->VK->Prop:=λx vs H Q=>∃z a ys zs,x=.str z/\vs=[.ref a]/\(Qa K H a ys∨Qb K H a ys)/\ys=zs.map V.str/\(zs.map (·.length)).sum+zs.length*z.length<=16777216/\Q (.str (Txt.join z zs)) H
theorem qY:∀{zs:List Str}{us:List Value},bT (zs.map V.str) us->StrsAre us zs
 |[],_,.nil=>.nil
 | z::zs,_,.cons r t=>by obtain⟨t',rfl⟩:=r;exact .cons z t' (qY t)
theorem Ii:Qw X "str.join" (Nr X.K):=by
 intro gV s σ H x vs v us Q I rx rv h;obtain⟨z,a,ys,zs,rfl,rfl,hq,rfl,hz,q⟩:=h;obtain⟨t,rfl⟩:=rx;obtain⟨u,rfl,ru⟩:=rv.one;cases ru;rcases hq with hq|hq
 . obtain⟨its,r,pl,_⟩:=I.list hq;exact join_list pl.isList (by simpa using qY r) hz λt' k=>⟨.str _,H,I.tok k,⟨t',rfl⟩,q⟩
 . obtain⟨its,r,pl,_⟩:=I.tuple hq;exact join_tuple pl (by simpa using qY r) hz λt' k=>⟨.str _,H,I.tok k,⟨t',rfl⟩,q⟩
end
section
variable{X:Cx}{e a b c:Expr}{es:List Expr}{pos p apos cpos:Pos}{te:W L}{x y:Str}
def jO(z:Str)(te:W L):W L:=λZ so=>te Z λr Z1=>QN r λd=>iK d λxs=>∃zs,xs=zs.map D.str/\(zs.map (·.length)).sum+zs.length*z.length<=16777216/\so (.d (.str (Txt.join z zs))) Z1
theorem q8{K:W.Frag}{H:Hp}:∀{zs:List Str}{vs:List V},bC K H vs (zs.map D.str)->vs=zs.map V.str
 |[],_,.nil=>rfl
 | z::zs,_,.cons r t=>by obtain rfl:=QH.inv_str r;rw[q8 t];rfl
theorem eD{z:Str}{j:Nat}{pz:Pos}(he:PL X e te)(hs1:starEach [e] X.env=[(false,eval e X.env)]:=by rfl) (hbase:attributeBase (.Constant (.str z) j pz) "join" X.env (eval (.Constant (.str z) j pz) X.env)=eval (.Constant (.str z) j pz) X.env:=by rfl)
  (hfew:((backTo cpos (starEach [e] X.env)).all (λx=>!x.1) && (backToKw cpos (keywordEach [] X.env)).all (λx=>x.1.isSome)
   && decide (([e]).length+([]:List Keyword).length+(if([]:List Keyword).isEmpty then 0 else 1)<30))=true:=by rfl)
  (hline:(apos.endLine == cpos.line)=true:=by rfl) (hplain:(backTo cpos (starEach ([]:List Expr) X.env)).any (·.1)=false:=by rfl) :
  PL X (.Call (.Attribute (.Constant (.str z) j pz) "join" apos) [e] [] cpos) (jO z te):=by
 refine PL.of (BD PySem.F.plainAttrs_str PySem.F.slot_str_join PySem.F.type_str_join Ii sT (bE (aA he).pe eX hs1) (hbase:=hbase) (hfew:=hfew) (hline:=hline) (hs:=hs1) (hplain:=hplain)) λσ H Pr Z so E h=>?_
 refine⟨rfl,Pr,Z,λr Z1=>match r with
  |.d d=>iK d λxs=>∃zs,xs=zs.map D.str/\(zs.map (·.length)).sum+zs.length*z.length<=16777216/\so (.d (.str (Txt.join z zs))) Z1
  |_=>False,E,h,λv H' r Z' E' pp=>?_⟩
 cases r with
 | d d =>
  obtain⟨_,e1,p1⟩:=E'.head_d;cases e1
  cases p1 with
  | lst hz rs =>
   obtain⟨zs,rfl,hl,pp⟩:=pp;exact⟨z,_,_,zs,rfl,rfl,.inl hz.l,q8 rs,hl,_,_,E'.tail.cons_d (.str _),pp⟩
  | tup hz rs =>
   obtain⟨zs,rfl,hl,pp⟩:=pp;exact⟨z,_,_,zs,rfl,rfl,.inr hz,q8 rs,hl,_,_,E'.tail.cons_d (.str _),pp⟩
  |_=>exact pp.elim
 |_=>exact pp.elim
theorem P4.turnedL{gV:List (Addr×Obj)}{σ:St}{H:Hp}{s:Shared}{h':Heap}{t':Nat}{fp:List Addr}(I:P4 X gV σ H s)(k:∀b o,b∉fp->s.heap.get? b=some o->h'.get? b=some o)(hf:∀b∈fp,Bm X gV H b):P4 X gV σ H {s with heap:=h',toks:=t' }:=by
 have nit:∀b u,H b=some u->b∉fp:=λb u e z=>by rw[(hf b z).1]at e;cases e
 refine I.step (g':=s.gens) (d':=s.drawn) (ch:=fp) (λb hb=>?_) (λb o _ _ hc e _=>k b o hc e) (λb o _ _ hc e _=>⟨o.slots,k b o hc e⟩) (λ_ _ _ _ n=>n)
  (λb o hc e=>⟨o,k b o hc e⟩) (λ_ _ e=>e) (λ_ _ _ e=>e) (λ_ _ e=>e) (λm hm=>?_) (λb u e=>?_) I.bare
 . obtain⟨f0,f1,f2,f3,f4,f5⟩:=hf b hb;exact⟨f3,f1,f4,f5⟩
 . obtain⟨o,es,ep,ho,r⟩:=hm;exact⟨o,es,ep,k _ o (λz=>(hf _ z).2.1 rfl) ho,r⟩
 .
  refine(I.hok b u e).stay (λc v hc q=>k c v ?_ q) (λ_ q=>q) (λ_ _ q=>q) λ_ _ _ _ q=>q;rcases hc with z|z
  . rw[z];exact nit b u e
  . exact nit c _ z
noncomputable def Re(K:W.Frag)(a:Addr):It :=
 ⟨λi H=>∃xs x,Qa K H a xs/\xs[i]?=some x,λi H v H'=>∃p x,v=.ref p/\H p=none/\H'=PR H p (.tup [.int i,x])/\∀xs,Qa K H a xs->xs[i]?=some x,λi H=>∃xs,Qa K H a xs/\xs.length<=i⟩
theorem B6{P:Program}{w:World}{K:W.Frag}{k:Nat}(q it a:Addr)(hne:q≠it):GC P w K (.Tuple es k pos) (Re K a) [q,it] q (λi h=>(∃old,IsEnum h q it i old)/\h.IsListIter it a i) where
 mem:=by simp
 obj:=λi h st b hb=>by
  obtain⟨⟨old,he⟩,o,e,c,d⟩:=st;rcases Uo.mp hb with rfl|hb
  .
   exact⟨_,he,λv z=>by
    have z':Data.fields _=Data.cell v:=z
    cases z'⟩
  .
   have e':b=it:=by simpa using hb
   subst e';exact⟨o,e,λv z=>by rw[d]at z;cases z⟩
 keep:=λi h h' st kk=>⟨let ⟨old,he⟩:=st.1;⟨old,kk q v6 _ he⟩,st.2.at λo e=>kk it v6 o e⟩
 item:=by
  intro X hP hw hK hc i gV s σ H E I hf st hg;subst hP hw hK;obtain⟨xs,x,hq,hx⟩:=hg;obtain⟨its,rv,p,hz⟩:=I.list hq;obtain⟨u,hu,ru⟩:=rv.get hx;obtain⟨⟨old,he⟩,hit⟩:=st;have hai:a≠it:=λz=>by subst z;obtain⟨o,e,c,d⟩:=hit;obtain⟨o',e',c',_⟩:=p.isList;rw[e]at e';cases e';rw[c]at c';exact absurd c' v6
  have hqa:q≠a:=λz=>by subst z;obtain⟨o',e',c',_⟩:=p.isList;rw[he]at e';cases e';exact absurd c' v6
  have D:=Draws.list (prog:=X.prog) (w:=X.w) (A:=X.A.in1) (I.ok.hd hc) it a hai its.toArray;have hlt:i<its.toArray.size:=by rw[UB];exact(Uh.mp hu).1
  refine wpAny_pyNext_enum_itemD D he ⟨hit,p.isList⟩ hlt hne (by simp[hne,hqa]) λx' h' tk hPx hout hst' htup hsz hk=>?_
  have hx':x'=u:=by
   have:its.toArray[i]?=some u:=by simpa using hu
   rw[this]at hPx;exact(UM hPx).symm
  subst hx';refine⟨.ref s.heap.objs.size,rfl,wpAny_letOwnedTupleGo_enum (s:={s with heap:=h',toks:=tk+1}) hout λh'' he'' hs''=>?_⟩;have qlt:q<s.heap.objs.size:=Up he;have ilt:it<s.heap.objs.size:=by obtain⟨o,e,_⟩:=hit;exact Up e
  have I1:P4 X gV σ (PR H s.heap.objs.size (.tup [.int i,x])) {s with heap:=s.heap.push {cls:=.type "tuple",data:=.seq #[.int i tk,x'] },toks:=tk} :=
   I.laid (λb ob q=>Ug _ q) (Ul _) ⟨by show 2<=sizeLine;decide,[.int i tk,x'],.cons ⟨tk,rfl⟩ (.cons ru .nil),⟨_,UH _ rfl,rfl,_,rfl⟩⟩
  have hf1:∀b∈[q,it],Bm X gV (PR H s.heap.objs.size (.tup [.int i,x])) b:=λb hb=>by
   refine⟨?_,(hf b hb).2⟩;rw[ay ?_]
   . exact(hf b hb).1
   .
    rcases Uo.mp hb with rfl|hb
    . exact UI qlt
    . rw[Ux.mp hb];exact UI ilt
  have I2:=I1.turnedL (h':=h'') (t':=tk+1) (fp:=[q,it]) (λb o hb e=>by
   have hbq:b≠q:=λz=>hb (by simp[z]);have hbi:b≠it:=λz=>hb (by simp[z]);refine(hs''.2 b hbq).trans ?_;rcases Heap.get?_push_cases e with⟨rfl,rfl⟩|e
   . exact htup
   .
    exact hk b o hbq hbi e) hf1
  refine⟨.ref s.heap.objs.size,_,I2,rfl,⟨_,x,rfl,I.fresh,rfl,λys hy=>by rw[I.list_inj hy hq];exact hx⟩,⟨⟨_,by simpa using he''⟩,hst'.1.extBut hs''.extBut (Vn hne)⟩,λb hb=>(hf1 b hb).1⟩
 done:=by
  intro X hP hw hK hc i gV s σ H E I hf st hg;subst hP hw hK;obtain⟨xs,hq,hx⟩:=hg;obtain⟨its,rv,p,hz⟩:=I.list hq;obtain⟨⟨old,he⟩,hit⟩:=st;have hai:a≠it:=λz=>by subst z;obtain⟨o,e,c,d⟩:=hit;obtain⟨o',e',c',_⟩:=p.isList;rw[e]at e';cases e';rw[c]at c';exact absurd c' v6
  have hl:=rv.length;have hT:s.TypeIs (.ref q) "enumerate":=⟨_,he,rfl⟩;unfold pyNext
  refine kS (wpAny_attempt (wpAny_callSpecial?_slot (name:=Str.ofString "__next__") hT F.slot_enumerate_next
   (wpAny_call_entry F.slot_enumerate_next hT F.entry_enumerate_next ?_ (F.args_enumerate_next_1 _))))
  show wpAny _ _ (field (.ref q) 2 >>= _) _ _ _;refine kS (VX he rfl (x:=.ref it) rfl ?_);refine kS (wpAny_nextOf_list_end (I.ok.hd hc) hit p.isList (by simp;omega) λh' x he' hx'=>?_);obtain⟨o,ho,hcc⟩:=hx';refine kS (wpAny_isInstance (T:="StopIteration") (b:=true) ⟨o,ho,hcc⟩ isSubtype_stop ?_);refine Um ⟨rfl,?_⟩;exact I.turnedL (t':=s.toks) (fp:=[q,it]) (λb o hb e=>he' b o (λz=>hb (by simp[z])) e) hf
 self:=λ_ _ _ _ _ st h=>let ⟨_,he⟩:=st.1;wpAny_pyIter_enum he h
noncomputable def sE(xs:List D):List D:=xs.zipIdx.map λp=>.tup [.int (p.2:Int),p.1]
theorem AI{K:W.Frag}{H:Hp}{a:Addr}{vs:List V}{xs:List D}(h:QG K H a vs)(r:bC K H vs xs):xM K H (Re K a) (sE xs):=λH' p=>by
 have h':=(h.pres p).l;have kz:(sE xs).length=vs.length:=by rw[r.length];simp[sE]
 refine⟨λi x e=>?_,⟨vs,h',by rw[kz];exact Ul _⟩⟩;have hi:i<vs.length:=by rw[<- kz];exact(Uh.mp e).1
 have hi2:i<xs.length:=by rw[<- r.length];exact hi
 have ex:x=.tup [.int (i:Int),xs[i]]:=by
  have:(sE xs)[i]?=some (.tup [.int (i:Int),xs[i]]):=by simp[sE,hi2]
  rw[this]at e;exact(UM e).symm
 obtain⟨v,ev,rv⟩:=r.get (i:=i) (Uu hi2);refine⟨⟨vs,v,h',ev⟩,λw H2 ⟨q,y,e1,e2,e3,e4⟩=>?_⟩;have e5:=e4 vs h';rw[ev]at e5;cases e5;subst e1 e3 ex;refine⟨.inr ⟨_,_,e2,rfl⟩,.tup (.inl (.inl (aT ..))) (.cons (.int _) (.cons ((rv.pres p).new e2) .nil))⟩
def EU(t:W L):W (List D):=λZ so=>t Z λr Z1=>QN r λd=>match d with
 |.lst xs=>so (sE xs) Z1
 |_=>False
theorem ze{k:Nat}{t:W L} (hg:Gl X "enumerate") (hm:X.mg "enumerate"=none) (ha:PL X a t) (hs:starEach [a] X.env=[(false,eval a X.env)]:=by rfl):QZ X (.Tuple es k apos) (.Call (.Name "enumerate" p) [a] [] pos) (EU t):=by
 intro gV s σ H Pr Z so I E h
 refine Call_ (mV I hg hm boot_enumerate (VV (P8 (ae (aA ha) ag hs pos gV s σ H Pr Z (λls Z1=>match ls with
  |[.d (.lst xs)]=>so (sE xs) Z1
  |_=>False) I E ?_) λus s1 h_=>h_.on λvs H1 ls Z1 I1 r1 hl hb E1 _ q1=>?_) hs rfl))
 .
  show t Z _
  have e:(λr Z1=>QN r λd=>match d with | .lst xs=>so (sE xs) Z1|_=>False)=(λr Z1=>QN r λx=>aQ Z1 λxs Z2=>match L.d x::xs with | [.d (.lst xs)]=>so (sE xs) Z2|_=>False):=by
   funext r Z1
   cases r with
   |un=>rfl
   |d d=>cases d<;>rfl
   |own=>rfl
   | bx b ls =>
    show dC (bK (.bx b ls)) _=dC (bK (.bx b ls)) _
    cases bK (.bx b ls)with
    |none=>rfl
    |some d=>cases d<;>rfl
   |dic b ls=>rfl
  rw[<- e];exact h
 .
  (try dsimp only at q1)
  split at q1
  .
   rename_i xs
   cases vs with
   |nil=>exact absurd hl v6
   | cons v vs =>
    have:vs=[]:=by
     have:vs.length=0:=by simpa using hl
     exact VD.mp this
    subst this;obtain⟨_,e1,p1⟩:=aC.head_d (σ:=σ) (Z:=Z1) E1;cases e1;obtain⟨_,_,rfl,hz,rs⟩:=QH.inv_lst p1;obtain⟨u,rfl,ru⟩:=r1.one;cases ru;obtain⟨its,rv,pl,hz'⟩:=I1.list hz.l;refine call_enumerate_list pl.isList λh' hE hI hsz hk=>?_;refine wpAny_pyIter_enum (s:={s1 with heap:=h' }) hE ?_;have E2:aC X.K Pr H1 σ Z1:=aC.tail (σ:=σ) (Z:=Z1) E1;refine⟨s1.heap.objs.size+1,[s1.heap.objs.size+1,s1.heap.objs.size],_,_,H1,_,Z1,rfl,I1.kept (t':=s1.toks) hk,B6 _ _ _ (Nat.succ_ne_self _),⟨⟨_,hE⟩,hI⟩,λb hb=>?_,E2,AI hz rs,q1⟩
    have hb':s1.heap.objs.size<=b:=by
     rcases Uo.mp hb with rfl|hb
     . exact Nat.le_succ _
     . rw[Ux.mp hb];exact Ul _
    exact I1.fpOk hb' (I1.hok.fresh hb')
  . exact q1.elim
end
end L2
namespace L2
open PySem PySem.Spec PyProof.Rows
mutual
noncomputable def Rf:D->Bool
 |.lst _=>false
 |.dct _=>false
 |.exc _ _ _=>false
 |.fn _ _=>false
 |.dk _ _=>false
 |.gf _=>false
 |.tup xs=>qo xs
 |_=>true
noncomputable def qo:List D->Bool
 |[]=>true
 |x::xs=>Rf x && qo xs
end
mutual
noncomputable def lD:L->Bool
 |.un=>true
 |.d x=>Rf x
 |.own _ xs=>qo xs
 |.bx _ ls=>rg ls
 |.dic _ kvs=>kvs.all λp=>Rf p.2
noncomputable def rg:List L->Bool
 |[]=>true
 |l::ls=>lD l && rg ls
end
theorem xV:lD .un=true:=by simp[lD]
theorem Lw(x:D):lD (.d x)=Rf x:=by simp[lD]
theorem EV(a:Addr)(xs:List D):lD (.own a xs)=qo xs:=by simp[lD]
theorem Ij(a:Option Addr)(ls:List L):lD (.bx a ls)=rg ls:=by simp[lD]
theorem EW(a:Addr)(kvs:List (PQ×D)):lD (.dic a kvs)=kvs.all λp=>Rf p.2:=by simp[lD]
theorem B7:rg []=true:=by simp[rg]
theorem AJ(l:L)(ls:List L):rg (l::ls)=(lD l && rg ls):=by simp[rg]
section
variable{X:Cx}{gV:List (Addr×Obj)}{σ:St}{H:Hp}{s:Shared}
theorem P4.thaw{a:Addr}{o:Obj}{xs:List V}(I:P4 X gV σ H s)(h:H a=some (.frz o (.lst xs)))(h0:∀o u,X.H₀ a≠some (.frz o u)):P4 X gV σ (PR H a (.lst xs)) s:=by
 have ne:∀b,H b=none->b≠a:=λb n e=>by subst e;rw[h]at n;cases n
 have nt:∀b xs,H b=some (.tup xs)->b≠a:=λb xs n e=>by subst e;rw[h]at n;cases n
 have no:∀b z,H b=some (.own z)->b≠a:=λb z n e=>by subst e;rw[h]at n;cases n
 have nf:∀b o,H b=some (.frz o (.own b))->b≠a:=λb o n e=>by subst e;rw[h]at n;cases n
 have nw:=(I.hok a _ h).2;refine⟨I.ok,I.os,I.bare,⟨I.base.keep,I.base.slot,λb ob e n hx=>?_,I.base.there,λb xs e=>?_,λb ob z e=>?_,λb ps e=>?_⟩,I.loc,I.cell,?_,λx c e=>?_,λp hp=>?_,λb z e=>?_,I.len⟩
 . have q:=I.base.free b ob e n hx;rw[ay (ne b q)];exact q
 . have q:=I.base.tups b xs e;rw[ay (nt b xs q)];exact q
 . have q:=I.base.frzs b ob z e;rw[ay (λy=>by subst y;exact h0 _ _ e)];exact q
 . have q:=I.base.tbls b ps e;rw[ay (λz=>by subst z;rw[h]at q;cases q)];exact q
 . rw[ay (ne _ I.free)];exact I.free
 .
  rcases I.freeC x c e with z|⟨hf,o,z⟩
  . exact .inl (by rw[ay (ne _ z)];exact z)
  . exact .inr ⟨hf,o,by rw[ay (nf _ _ z)];exact z⟩
 . obtain⟨e,n,r⟩:=I.pin p hp;exact⟨e,by rw[ay (ne _ n)];exact n,r⟩
 .
  by_cases hb:b=a
  . subst hb;rw[aT]at e;cases e;exact nw.stay (λc v _ q=>q) (λc q=>by rw[ay (no c _ q)];exact q) (λc xs q=>by rw[ay (nt c xs q)];exact q) λc ob _ _ q=>by rw[ay (nf c ob q)];exact q
  . rw[ay hb]at e;exact(I.hok b z e).stay (λc v _ q=>q) (λc q=>by rw[ay (no c _ q)];exact q) (λc xs q=>by rw[ay (nt c xs q)];exact q) λc ob _ _ q=>by rw[ay (nf c ob q)];exact q
end
def lE(H' H2:Hp)(S:List Addr):Prop:=(∀b,b∉S->H2 b=H' b)/\(∀a∈S,∃o vs,H' a=some (.frz o (.lst vs))/\H2 a=some (.lst vs))
theorem B8{X:Cx}{gV:List (Addr×Obj)}{σ:St}{s:Shared}:∀(S:List Addr){H:Hp},S.Nodup->P4 X gV σ H s->(∀a∈S,∃o vs,H a=some (.frz o (.lst vs)))->(∀a∈S,∀o u,X.H₀ a≠some (.frz o u))->∃H2,P4 X gV σ H2 s/\lE H H2 S
 |[],H,_,I,_,_=>⟨H,I,λ_ _=>rfl,λ_ h=>by simp at h⟩
 | a::S,H,nd,I,h,h0=>by
  obtain⟨na,nd⟩:=UN.mp nd;obtain⟨o,vs,ea⟩:=h a Ui;have I1:=I.thaw ea (h0 a Ui)
  obtain⟨H2,I2,T1,T2⟩:=B8 S nd I1 (λb hb=>by
   obtain⟨o,us,e⟩:=h b (Ud _ hb)
   exact⟨o,us,by rw[ay (λz:b=a=>na (by rw[<- z];exact hb))];exact e⟩) λb hb=>h0 b (Ud _ hb)
  refine⟨H2,I2,λb hb=>?_,λb hb=>?_⟩
  . rw[T1 b (λz=>hb (Ud _ z)),ay (λz:b=a=>hb (by rw[z];exact Ui))]
  .
   rcases Uo.mp hb with rfl|hb
   . exact⟨o,vs,ea,by rw[T1 b na,aT]⟩
   . obtain⟨o',us,e1,e2⟩:=T2 b hb;rw[ay (λz:b=a=>na (by rw[<- z];exact hb))]at e1;exact⟨o',us,e1,e2⟩
section
variable{K:W.Frag}{H' H2:Hp}{S:List Addr}
mutual
theorem QH.lite{K:W.Frag}{H H':Hp}(k:∀b xs,H b=some (.tup xs)->H' b=some (.tup xs))(k2:∀b o xs,H b=some (.frz o (.tup xs))->H' b=some (.frz o (.tup xs))):∀{v:V}{d:D},Rf d=true->QH K H v d->QH K H' v d
 |_,_,_,.non=>.non
 |_,_,_,.bl b=>.bl b
 |_,_,_,.int i=>.int i
 |_,_,_,.str x=>.str x
 | _,_,h,.tup hs r=>.tup (by
   rcases hs with(e|⟨o,e⟩)|e
   .
    exact .inl (.inl (k _ _ e))
   .
    exact .inl (.inr ⟨o,k2 _ _ _ e⟩)
   .
    exact .inr e) (bC.lite k k2 (by simpa[Rf]using h) r)
 |_,_,h,.lst _ _=>nomatch h
 |_,_,h,.dct _=>nomatch h
 |_,_,h,.exc _ _ _ _ _ _ _ _=>nomatch h
 |_,_,h,.fn _ _ _ _ _ _ _ _ _=>nomatch h
 |_,_,h,.dk _ _=>nomatch h
 |_,_,h,.gf _ _ _=>nomatch h
theorem bC.lite{K:W.Frag}{H H':Hp}(k:∀b xs,H b=some (.tup xs)->H' b=some (.tup xs))(k2:∀b o xs,H b=some (.frz o (.tup xs))->H' b=some (.frz o (.tup xs))):∀{vs:List V}{ds:List D},qo ds=true->bC K H vs ds->bC K H' vs ds
 |_,_,_,.nil=>.nil
 | _,_,h,.cons r t=>by
  simp only[qo,UE]at h
  exact .cons (QH.lite k k2 h.1 r) (bC.lite k k2 h.2 t)
end
theorem QH.thaw(T:lE H' H2 S){v:V}{d:D}(h:Rf d=true)(r:QH K H' v d):QH K H2 v d :=
 r.lite (λb xs e=>by rw[T.1 _ λz=>by obtain⟨o,vs,e1,_⟩:=T.2 _ z;rw[e1]at e;cases e];exact e) (λb u xs e=>by rw[T.1 _ λz=>by obtain⟨o,vs,e1,_⟩:=T.2 _ z;rw[e1]at e;cases e];exact e) h
theorem bC.thaw(T:lE H' H2 S){vs:List V}{ds:List D}(h:qo ds=true)(r:bC K H' vs ds):bC K H2 vs ds :=
 r.lite (λb xs e=>by rw[T.1 _ λz=>by obtain⟨o,vs,e1,_⟩:=T.2 _ z;rw[e1]at e;cases e];exact e) (λb u xs e=>by rw[T.1 _ λz=>by obtain⟨o,vs,e1,_⟩:=T.2 _ z;rw[e1]at e;cases e];exact e) h
theorem lE.lst(T:lE H' H2 S){a:Addr}{vs:List V}(h:H' a=some (.lst vs)):a∉S/\H2 a=some (.lst vs):=by
 have n:a∉S:=λz=>by obtain⟨o,us,e,_⟩:=T.2 a z;rw[h]at e;cases e
 exact⟨n,(T.1 a n).trans h⟩
theorem lE.tup(T:lE H' H2 S){a:Addr}{vs:List V}(h:Qb K H' a vs):Qb K H2 a vs:=by
 rcases h with(e|⟨u,e⟩)|e
 . exact .inl (.inl (by rw[T.1 _ λz=>by obtain⟨o,vs,e1,_⟩:=T.2 _ z;rw[e1]at e;cases e];exact e))
 . exact .inl (.inr ⟨u,by rw[T.1 _ λz=>by obtain⟨o,vs,e1,_⟩:=T.2 _ z;rw[e1]at e;cases e];exact e⟩)
 . exact .inr e
mutual
theorem a9.thaw(T:lE H' H2 S):∀{s:Option V}(l:L),lD l=true->a9 K H' s l->a9 K H2 s l
 |_,.un,_,_=>by unfold a9;exact True.intro
 | _,.d x,h,q=>by
  unfold a9 at q ⊢
  obtain⟨v,e,r⟩:=q
  exact⟨v,e,r.thaw T (by simpa[lD]using h)⟩
 | _,.own a xs,h,q=>by
  unfold a9 at q ⊢
  obtain⟨e,vs,ha,r⟩:=q
  exact⟨e,vs,(T.lst ha).2,r.thaw T (by simpa[lD]using h)⟩
 | _,.bx none ls,h,q=>by
  unfold a9 at q ⊢
  obtain⟨a,vs,e,ha,r⟩:=q
  exact⟨a,vs,e,T.tup ha,bY.thaw T ls (by simpa[lD]using h) r⟩
 | _,.bx (some a) ls,h,q=>by
  unfold a9 at q ⊢
  obtain⟨e,vs,ha,r⟩:=q
  exact⟨e,vs,(T.lst ha).2,bY.thaw T ls (by simpa[lD]using h) r⟩
 | _,.dic a kvs,h,q=>by
  unfold a9 at q ⊢
  obtain⟨e,vs,ha,r⟩:=q
  have h':∀p∈kvs,Rf p.2=true:=by simpa[lD]using h
  refine⟨e,vs,?_,Paired.impMem r λp hp q z=>⟨z.1,z.2.thaw T (h' p hp)⟩⟩
  rw[T.1 a λz=>by obtain⟨o,us,e1,_⟩:=T.2 _ z;rw[e1]at ha;cases ha]
  exact ha
theorem bY.thaw(T:lE H' H2 S):∀{vs:List V}(ls:List L),rg ls=true->bY K H' vs ls->bY K H2 vs ls
 |_,[],_,q=>by unfold bY at q ⊢;exact q
 | _,l::ls,h,q=>by
  unfold bY at q ⊢
  simp only[rg,UE]at h
  obtain⟨v,us,e,h1,h2⟩:=q
  exact⟨v,us,e,a9.thaw T l h.1 h1,bY.thaw T ls h.2 h2⟩
end
end
noncomputable def nk:L->Bool
 |.d _=>true
 |l=>lD l
theorem EX:nk .un=true:=by simp[nk,lD]
theorem Ik(x:D):nk (.d x)=true:=rfl
theorem B9(a:Addr)(xs:List D):nk (.own a xs)=qo xs:=by simp[nk,lD]
theorem Ca(a:Addr)(kvs:List (PQ×D)):nk (.dic a kvs)=kvs.all λp=>Rf p.2:=by simp[nk,lD]
theorem EY(a:Option Addr)(ls:List L):nk (.bx a ls)=rg ls:=by simp[nk,lD]
noncomputable def dE(i:Nat)(Z:Ev):Bool:=(Z.set i .un).all nk
theorem td{K:W.Frag}{H0 H' H2:Hp}{S:List Addr}(T:lE H' H2 S)(p:su H0 H2):∀{σ:St}{Z Z0:Ev},Z.length=Z0.length ->
  (∀(j:Nat)(l:L),Z[j]?=some l->lD l=true∨∃x,l=.d x/\Z0[j]?=some (.d x))->Paired (a9 K H0) σ Z0->Paired (a9 K H') σ Z->Paired (a9 K H2) σ Z
 |[],[],_,_,_,_,_=>.nil
 | s::σ,l::Z,l0::Z0,hl,h,.cons q0 t0,.cons q t=>by
  refine .cons ?_ (td T p (by simpa using hl) (λj l e=>h (j+1) l e) t0 t);rcases h 0 l rfl with hh|⟨x,rfl,e⟩
  . exact q.thaw T l hh
  .
   have e:l0=.d x:=by simpa using e
   subst e;exact q0.pres p (.d x) λa ha=>by simp[bh]at ha
 |[],_::_,_,_,_,_,t=>nomatch t
 |_::_,[],_,_,_,_,t=>nomatch t
mutual
theorem a9.lsts{K:W.Frag}{H:Hp}:∀{s:Option V}(l:L){x:D},a9 K H s l->bK l=some x->∀a∈bh l,∃vs,H a=some (.lst vs)
 |_,.un,_,_,_,a,ha=>by simp[bh]at ha
 |_,.d x,_,_,_,a,ha=>by simp[bh]at ha
 |_,.dic _ _,_,_,h,_,_=>by simp[bK]at h
 | _,.own b xs,_,h,_,a,ha=>by
  simp only[a9]at h
  have e:a=b:=by simpa[bh]using ha
  subst e
  obtain⟨_,vs,q,_⟩:=h
  exact⟨_,q⟩
 | _,.bx none ls,_,h,hx,a,ha=>by
  simp only[a9]at h
  simp only[bK,Option.map_eq_some_iff]at hx
  obtain⟨xs,hx,_⟩:=hx
  obtain⟨b,vs,e,_,r⟩:=h
  exact bY.lsts ls r hx a (by simpa[bh]using ha)
 | _,.bx (some b) ls,_,h,hx,a,ha=>by
  simp only[a9]at h
  simp only[bK,Option.map_eq_some_iff]at hx
  obtain⟨xs,hx,_⟩:=hx
  obtain⟨e,vs,q,r⟩:=h
  rcases(by simpa[bh]using ha:a=b∨a∈d3 ls)with z|z
  .
   subst z;exact⟨_,q⟩
  .
   exact bY.lsts ls r hx a z
theorem bY.lsts{K:W.Frag}{H:Hp}:∀{vs:List V}(ls:List L){xs:List D},bY K H vs ls->cm ls=some xs->∀a∈d3 ls,∃vs,H a=some (.lst vs)
 |_,[],_,_,_,a,ha=>by simp[d3]at ha
 | _,l::ls,_,h,hx,a,ha=>by
  simp only[bY]at h
  obtain⟨v,us,e,h1,h2⟩:=h
  simp only[cm]at hx
  split at hx
  .
   rename_i x1 xs1 e1 e2
   rcases(by simpa[d3]using ha:a∈bh l∨a∈d3 ls)with z|z
   .
    exact a9.lsts l h1 e1 a z
   .
    exact bY.lsts ls h2 e2 a z
  .
   cases hx
end
theorem Cb{X:Cx}{gV:List (Addr×Obj)}{σ0:St}{s s1:Shared}{Pr H H1 H':Hp}{σ τ:St}{Z lam:Ev}{i:Nat}{k:L}{x:D}{v:Option V}(I:P4 X gV σ0 H s)(E:aC X.K Pr H σ Z)(hi:Z[i]?=some k)(hSa:∀a∈bh k,∃vs,H a=some (.lst vs))(F:pV H H1 (bh k))(hfl:dE i Z=true)
  (I':P4 X gV σ0 H' s1) (E1:aC X.K Pr H1 σ (Z.set i (.d x))) (E':aC X.K (bD H1 (Z.set i (.d x))) H' (τ++σ) (lam++Z.set i (.d x))) (kz:τ.length=lam.length) (hr:lam.all lD=true):∃H2,P4 X gV σ0 H2 s1/\aC X.K Pr H2 (τ++σ) (lam++Z):=by
 have hil:i<Z.length:=(Uh.mp hi).1;have prm:=g7 hi (l:=.d x) rfl;have hnd:(bh k++owns (Z.set i (.d x))).Nodup:=prm.nodup_iff.mp E.nd;obtain⟨nd1,nd2,nd3⟩:=UQ.mp hnd;have hna:∀a∈bh k,a∉owns (Z.set i (.d x)):=λa ha z=>nd3 a ha a z rfl;have hb:∀b u,H1 b=some u->b∉owns (Z.set i (.d x))->H' b=some u:=λb u e hno=>by refine E'.sub b u ?_;unfold bD;rw[if_neg hno];exact e
 have hS:∀a∈bh k,∃o vs,H' a=some (.frz o (.lst vs)):=λa ha=>by obtain⟨vs,e⟩:=hSa a ha;obtain⟨o,eo⟩:=F.2.2 a ha vs e;exact⟨o,vs,hb a _ eo (hna a ha)⟩
 obtain⟨H2,I2,T⟩:=B8 (bh k) nd1 I' hS λa ha o u e=>by have z:=I.base.frzs a o u e;obtain⟨vs,q⟩:=hSa a ha;rw[q]at z;cases z
 have back:∀a∈bh k,H2 a=H a:=λa ha=>by obtain⟨vs,e⟩:=hSa a ha;obtain⟨o,eo⟩:=F.2.2 a ha vs e;obtain⟨o',vs',e1,e2⟩:=T.2 a ha;rw[hb a _ eo (hna a ha)]at e1;cases e1;rw[e2,e]
 have P:su H H2:=λb u hp e=>by
  have hno:b∉owns Z:=λz=>by obtain⟨ws,hz,mu⟩:=E.at_own z;rw[hz]at e;cases e;exact mu.no hp
  have hnk:b∉bh k:=λz=>hno (prm.mem_iff.mpr (Uz _ z));rw[T.1 b hnk];exact hb b u (F.1 b u hp e) λz=>hno (prm.mem_iff.mpr (UD _ z))
 obtain⟨sl1,sl2⟩:=Paired.unapp kz E'.sl;have ndE:=E'.nd;rw[aH]at ndE;obtain⟨ne1,ne2,ne3⟩:=UQ.mp ndE
 have lamS:∀a∈owns lam,a∉bh k/\Pr a=none/\a∉owns (Z.set i (.d x)):=λa ha=>by
  obtain⟨vs,e,mu⟩:=E'.at_own (a:=a) (by rw[aH];exact Uz _ ha);have h1:a∉bh k:=λz=>by obtain⟨o,us,e1,_⟩:=T.2 _ z;rw[e1]at e;cases e;exact mu
  have h3:a∉owns (Z.set i (.d x)):=λz=>ne3 a ha a z rfl;refine⟨h1,?_,h3⟩;have hoff:=E'.off a (by rw[aH];exact Uz _ ha);unfold bD at hoff;rw[if_neg h3]at hoff
  cases ep:Pr a with
  |none=>rfl
  |some w=>rw[E1.sub a w ep]at hoff;cases hoff
 have slt:Paired (a9 X.K H2) σ (Z.set i .un):=by
  have q:Paired (a9 X.K H') σ (Z.set i .un):=by have:=(Paired.set_r (b:=L.un) i sl2 λ_ _=>by unfold a9;exact True.intro);rwa [VA]at this
  refine td T P (Z0:=Z) v6 (λj l e=>?_) E.sl q;by_cases hj:j=i
  . subst hj;rw[Vc hil]at e;cases e;exact .inl xV
  .
   have h1:=US.mp hfl l (Vh (i:=j) e);rw[Vo (Vn hj)]at e
   cases l with
   |un=>exact .inl xV
   |d y=>exact .inr ⟨y,rfl,e⟩
   |own b ys=>exact .inl h1
   |bx b ls=>exact .inl h1
   |dic b ls=>exact .inl h1
 have slr:Paired (a9 X.K H2) τ lam:=Paired.impMem sl1 λl hl s q=>q.thaw T l (US.mp hr l hl);refine⟨H2,I2,λb u e=>?_,?_,λb hbm=>?_,Paired.app slr ?_⟩
 .
  have hno:b∉owns Z:=λz=>by have:=E.off b z;rw[e]at this;cases this
  have hnk:b∉bh k:=λz=>hno (prm.mem_iff.mpr (Uz _ z));rw[T.1 b hnk];refine hb b u ?_ λz=>hno (prm.mem_iff.mpr (UD _ z));rw[F.2.1 b hnk];exact E.sub b u e
 .
  rw[aH,UQ];refine⟨ne1,E.nd,λc hc d hd z=>?_⟩;subst z;obtain⟨h1,h2,h3⟩:=lamS c hc;rcases Ur.mp (prm.mem_iff.mp hd)with z|z
  . exact h1 z
  . exact h3 z
 .
  rw[aH]at hbm;rcases Ur.mp hbm with z|z
  . exact(lamS b z).2.1
  . exact E.off b z
 .
  obtain⟨sv,hs,q⟩:=E.slot hi;have:=Paired.set_r (b:=k) i slt λs es=>by rw[hs]at es;cases es;exact q.pres P k back
  rw[VA]at this
  have e2:Z.set i k=Z:=by
   refine List.ext_getElem? λj=>?_;by_cases hj:j=i
   . subst hj;rw[Vc hil,hi]
   . rw[Vo (Vn hj)]
  rwa [e2]at this
def Rg(o:Option L)(i:Nat)(t:W L)(Z:Ev)(so:L->Ev->Prop):Prop:=match o with
 |some (.own _ xs)=>dE i Z=true/\t (Z.set i (.d (.lst xs))) λr Z'=>lD r=true/\Z'=Z.set i (.d (.lst xs))/\so r Z
 |some (.bx b ls)=>dE i Z=true/\Be b ls λx=>t (Z.set i (.d x)) λr Z'=>lD r=true/\Z'=Z.set i (.d x)/\so r Z
 |_=>t Z so
def AK(i:Nat)(t:W L):W L:=λZ so=>Rg Z[i]? i t Z so
theorem Il(a:Addr)(xs:List D)(i:Nat)(t:W L)(Z:Ev)(so:L->Ev->Prop):Rg (some (.own a xs)) i t Z so=(dE i Z=true/\t (Z.set i (.d (.lst xs))) λr Z'=>lD r=true/\Z'=Z.set i (.d (.lst xs))/\so r Z):=rfl
theorem Lx(b:Option Addr)(ls:List L)(i:Nat)(t:W L)(Z:Ev)(so:L->Ev->Prop):Rg (some (.bx b ls)) i t Z so=(dE i Z=true/\Be b ls λx=>t (Z.set i (.d x)) λr Z'=>lD r=true/\Z'=Z.set i (.d x)/\so r Z):=rfl
theorem Nu(x:D)(i:Nat)(t:W L)(Z:Ev)(so:L->Ev->Prop):Rg (some (.d x)) i t Z so=t Z so:=rfl
theorem Im{X:Cx}{gV:List (Addr×Obj)}{s:Shared}{σ:St}{H Pr:Hp}{Z:Ev}{i:Nat}{k:L}{x:D}(I:P4 X gV σ H s)(E:aC X.K Pr H σ Z)(hi:Z[i]?=some k)(hx:bK k=some x):∃H1,P4 X gV σ H1 s/\aC X.K Pr H1 σ (Z.set i (.d x))/\pV H H1 (bh k)/\∀a∈bh k,∃vs,H a=some (.lst vs):=by obtain⟨sv,hs,sl⟩:=E.slot hi;obtain⟨H1,I1,E1,F⟩:=K3 k I (E.outL hi hs) hx;have hil:i<Z.length:=(Uh.mp hi).1;have E2:=E1.back (i:=i) (by rw[Vc hil]) hs;rw[VA]at E2;exact⟨H1,I1,E2,F,sl.lsts k hx⟩
theorem xW{X:Cx}{e:Expr}(i:Nat){t:W L}(h:PL X e t):PL X e (AK i t):=by
 intro gV s σ H Pr Z so I E hw;have go:∀(k:L)(x:D),Z[i]?=some k->bK k=some x->dE i Z=true->(t (Z.set i (.d x)) λr Z'=>lD r=true/\Z'=Z.set i (.d x)/\so r Z)->wpAny (model X.prog X.w) X.A (eval e X.env) (EL X gV σ Pr so) X.xe s:=by intro k x hi hx hfl hw;obtain⟨H1,I1,E1,F,Sa⟩:=Im I E hi hx;refine P8 (h gV s σ _ _ _ _ I1 E1.wide hw) λu s1 ⟨v,H',r,Z',I',rv,E',hr,eρ,hp⟩=>?_;subst eρ;obtain⟨H2,I2,E2⟩:=Cb (τ:=[some v]) (lam:=[r]) (v:=some v) I E hi Sa F hfl I' E1 E' rfl (by simpa using hr);exact⟨v,H2,r,Z,I2,rv,E2,hp⟩
 unfold AK Rg at hw;split at hw
 . rename_i a xs hi;exact go _ _ hi rfl hw.1 hw.2
 . rename_i b ls hi;obtain⟨x,hx,hw'⟩:=xJ hw.2;exact go _ _ hi hx hw.1 hw'
 . exact h gV s σ H Pr Z so I E hw
def Rh(o:Option L)(i:Nat)(t:W Bool)(Z:Ev)(so:Bool->Ev->Prop):Prop:=match o with
 |some (.own _ xs)=>dE i Z=true/\t (Z.set i (.d (.lst xs))) λr Z'=>Z'=Z.set i (.d (.lst xs))/\so r Z
 |some (.bx b ls)=>dE i Z=true/\Be b ls λx=>t (Z.set i (.d x)) λr Z'=>Z'=Z.set i (.d x)/\so r Z
 |_=>t Z so
theorem Io(a:Addr)(xs:List D)(i:Nat)(t:W Bool)(Z:Ev)(so:Bool->Ev->Prop):Rh (some (.own a xs)) i t Z so=(dE i Z=true/\t (Z.set i (.d (.lst xs))) λr Z'=>Z'=Z.set i (.d (.lst xs))/\so r Z):=rfl
theorem Ly(b:Option Addr)(ls:List L)(i:Nat)(t:W Bool)(Z:Ev)(so:Bool->Ev->Prop):Rh (some (.bx b ls)) i t Z so=(dE i Z=true/\Be b ls λx=>t (Z.set i (.d x)) λr Z'=>Z'=Z.set i (.d x)/\so r Z):=rfl
theorem Nv(x:D)(i:Nat)(t:W Bool)(Z:Ev)(so:Bool->Ev->Prop):Rh (some (.d x)) i t Z so=t Z so:=rfl
variable{X:Cx}
def Lz(neg:Bool):QP:=λx y k=>cq x/\(Q0 x).depth<=62/\iK y λys=>(∀z∈ys,cq z)/\k (.d (.bl (if neg then !AC x ys else AC x ys)))
open Classical in
noncomputable def eS(h:Heap)(dx:PyData)(u:Value):Bool:=decide (∃d as,Reads h u d as/\d.canLay0=true/\PyData.eqv d dx=true)
open Classical in
theorem Nw{h:Heap}{dx d:PyData}{u:Value}{as:List Addr}(r:Reads h u d as)(hc:d.canLay0=true):eS h dx u=PyData.eqv d dx:=by
 unfold eS;cases e:PyData.eqv d dx
 . refine Uy ?_;rintro⟨d',as',r',hc',e'⟩;have:=SeqAt.Reads.unique _ _ _ _ _ hc r r';subst this;rw[e]at e';cases e'
 . exact Uw ⟨d,as,r,hc,e⟩
theorem xX{A:Around}{s:Shared}{v:Value}{dx:D}{as:List Addr}(rx:Reads s.heap v (Q0 dx) as)(hx:cq dx)(hd:(Q0 dx).depth<=62)(hu:A.units+64<cLine):∀{ds:List D}{us:List Value}{bs:List Addr},ReadsAll s.heap us (gj ds) bs->(∀z∈ds,cq z)->(∀u∈us,SeqAt.EqAt A.in1 s u v (eS s.heap (Q0 dx) u))/\us.any (eS s.heap (Q0 dx))=AC dx ds
 |[],_,_,r,_=>by cases r;exact⟨λu hm=>by simp at hm,rfl⟩
 | d::ds,_,_,r,hs=>by
  cases r with
  | cons r0 rs =>
   obtain⟨i1,i2⟩:=xX (A:=A) rx hx hd hu rs λz hz=>hs z (Ud _ hz);have h0:=hs d Ui;have e0:=Nw (dx:=Q0 dx) r0 (Vd h0);refine⟨λu hu'=>?_,?_⟩
   .
    rcases Uo.mp hu' with rfl|hu'
    . rw[e0];refine SeqAt.eqAt_reads _ _ _ _ _ _ _ _ r0 rx (Vd h0) (Vd hx) ?_;have:min (Q0 d).depth (Q0 dx).depth<=(Q0 dx).depth:=Nat.min_le_right _ _;simp only[Around.in1_units];omega
    . exact i1 u hu'
   . rw[VL,e0,i2];rfl
theorem oW:∀{ds:List D},(∀z∈ds,cq z)->PyData.canLayAll0 (gj ds)=true
 |[],_=>rfl
 | d::ds,h=>by show((Q0 d).canLay0 && PyData.canLayAll0 (gj ds))=true;rw[Vd (h d Ui),oW λz hz=>h z (Ud _ hz)];rfl
theorem LA(hu:X.A.units+64<cLine):QQ X (compareOp .In) (Lz false):=by
 intro gV s σ H Pr Z x y v u dx dy so I rx ry E px py ⟨h1,h2,h⟩;obtain⟨as,ra⟩:=kQ I dx x v rx px (Vd h1)
 cases py with
 | lst hz rs =>
  obtain⟨hs,ho⟩:=h;cases ry;obtain⟨its,r,pl,hz'⟩:=I.list hz.l;obtain⟨bs,rb⟩:=fv I _ _ _ r rs (oW hs);obtain⟨i1,i2⟩:=xX (A:=X.A) ra h1 h2 hu rb hs;refine SeqAt.in_listAt (eS s.heap (Q0 dx)) pl.isList (λw hw=>i1 w (by simpa using hw)) ⟨.bl _,H,_,I,rfl,E.cons_d (.bl _),?_⟩;rw[show its.toArray.any (eS s.heap (Q0 dx))=its.any (eS s.heap (Q0 dx)) by simp,i2];exact ho
 | tup hz rs =>
  obtain⟨hs,ho⟩:=h;cases ry;obtain⟨its,r,pl,hz'⟩:=I.tuple hz;obtain⟨bs,rb⟩:=fv I _ _ _ r rs (oW hs);obtain⟨i1,i2⟩:=xX (A:=X.A) ra h1 h2 hu rb hs;refine SeqAt.in_tupleAt (eS s.heap (Q0 dx)) pl (λw hw=>i1 w (by simpa using hw)) ⟨.bl _,H,_,I,rfl,E.cons_d (.bl _),?_⟩;rw[show its.toArray.any (eS s.heap (Q0 dx))=its.any (eS s.heap (Q0 dx)) by simp,i2];exact ho
 |_=>exact h.elim
variable{X:Cx}
variable{X:Cx}
section
variable{X:Cx}{e a b c:Expr}{es:List Expr}{pos p p2:Pos}{ta:W L}{x y:Str}
def hW:List (QP×W L)->D->W L
 |[],_=>λ_ _=>False
 |[(o,t)],dx=>λZ so=>t Z λy Z1=>QN y λdy=>o dx dy λr=>vL r λk=>so (.d (.bl k)) Z1
 |(o,t)::q::r,dx=>λZ so=>t Z λy Z1=>QN y λdy=>o dx dy λz=>vL z λk=>if k=true then hW (q::r) dy Z1 so else so (.d (.bl false)) Z1
def l8(ta:W L)(ls:List (QP×W L)):W L:=λZ so=>ta Z λx Z1=>QN x λdx=>hW ls dx Z1 so
inductive l9 (X:Cx):List CmpOp->List Expr->List (QP×W L)->Prop where
 |one {op:CmpOp} {e:Expr} {o:QP} {t:W L} (ho:QQ X (compareOp op) o) (h:PL X e t):l9 X [op] [e] [(o,t)]
 |cons {op:CmpOp} {e:Expr} {o:QP} {t:W L} {ops:List CmpOp} {es:List Expr} {ls:List (QP×W L)} (ho:QQ X (compareOp op) o) (h:PL X e t) (r:l9 X ops es ls):l9 X (op::ops) (e::es) ((o,t)::ls)
theorem j2{op:CmpOp}{o:QP}{gV:List (Addr×Obj)}{s:Shared}{σ:St}{H Pr:Hp}{Z:Ev}{v:V}{u:Value}{dx:D}{R:Bool->D->Ev->Prop}{t:W L}{Q:Value->Value->Shared->Prop}(ho:QQ X (compareOp op) o)(h:PL X e t)
  (I:P4 X gV σ H s) (rv:bS v u) (E:aC X.K Pr H (some v::σ) (.d dx::Z)) (ht:t Z λy Z1=>QN y λdy=>o dx dy λr=>vL r λk=>R k dy Z1)
  (hQ:∀u2 s3 w2 dy H3 Z1 k,P4 X gV σ H3 s3->bS w2 u2->aC X.K Pr H3 (some w2::σ) (.d dy::Z1)->R k dy Z1->Q u2 (.bool k) s3) :
  wpAny (model X.prog X.w) X.A (eval e X.env) (λb s₁=>wpAny (model X.prog X.w) X.A (compareOp op u b) (λc s₂=>Q b c s₂) X.xe s₁) X.xe s:=by
 refine P8 (h gV s σ H _ Z _ I E.tail.wide ht) λu2 s2 q=>?_;obtain⟨y,H2,dy,Z2,I2,r2,E2,q2⟩:=EL.frz (so:=λdy Z1=>o dx dy λr=>vL r λk=>R k dy Z1) q;have E3:aC X.K Pr H2 (some y::some v::σ) (.d dy::.d dx::Z2):=aC.step (τ:=[some v]) (lam:=[.d dx]) (w:=[some y]) (μ:=[.d dy]) E rfl E2 rfl;obtain⟨_,e1,p1⟩:=E3.head_d;obtain⟨_,e2,p2⟩:=E3.tail.head_d;cases e1;cases e2;have E4:aC X.K Pr H2 σ Z2:=E3.tail.tail;have E5:aC X.K Pr H2 (some y::σ) (.d dy::Z2):=E4.cons_d p1;have E5w:=E5;refine P8 (ho gV s2 σ H2 (bD H2 Z2) Z2 v y u u2 dx dy _ I2 rv r2 E4.wide p2 p1 q2) λw s3 ⟨z,H3,r,I3,rz,E6,pp⟩=>?_;obtain⟨k,rfl,pp⟩:=qO pp;obtain⟨_,e3,p3⟩:=E6.head_d;cases e3;obtain rfl:=QH.inv_bl p3;cases rz;have P3:su H2 H3:=uj E4 E6.sub;have E7:aC X.K Pr H3 σ Z2:=E4.narrow E6.tail;exact hQ u2 s3 y dy H3 Z2 k I3 r2 (E7.cons_d (p1.pres P3)) pp
theorem Fb{ops:List CmpOp}{es:List Expr}{ls:List (QP×W L)}(h:l9 X ops es ls):∀(gV:List (Addr×Obj))(s:Shared)(σ:St)(H Pr:Hp)(Z:Ev)(so:L->Ev->Prop)(v:V)(u:Value)(dx:D)(pos:Pos),P4 X gV σ H s->bS v u->aC X.K Pr H (some v::σ) (.d dx::Z)->hW ls dx Z so ->
  wpAny (model X.prog X.w) X.A (compareChain pos u ops (evalEach es X.env)) (EL X gV σ Pr so) X.xe s:=by
 induction h with
 | one ho h =>
  intro gV s σ H Pr Z so v u dx pos I rv E hl;refine chain_last ?_;exact j2 (R:=λk _ Z1=>so (.d (.bl k)) Z1) (Q:=λ_ c s=>EL X gV σ Pr so c s) ho h I rv E hl λu2 s3 w2 dy H3 Z1 k I3 r3 E3 q=>⟨.bl k,H3,_,Z1,I3,rfl,E3.tail.cons_d (.bl k),q⟩
 | @cons op e o t ops es ls ho h r ih =>
  intro gV s σ H Pr Z so v u dx pos I rv E hl
  cases r with
  | one ho2 h2 =>
   refine chain_link (j2 (R:=λk dy Z1=>if k=true then hW [_] dy Z1 so else so (.d (.bl false)) Z1) (Q:=λb c s=>wpAny (model X.prog X.w) X.A (truthy c) (λt s₃=>if t then _ else EL X gV σ Pr so c s₃) X.xe s) ho h I rv E hl λu2 s3 w2 dy H3 Z1 k I3 r3 E3 q=>?_)
   refine UO ?_
   cases k with
   |false=>exact ite_ff ⟨.bl false,H3,_,Z1,I3,rfl,E3.tail.cons_d (.bl false),q⟩
   |true=>exact ite_tt (ih gV s3 σ H3 Pr Z1 so w2 u2 dy pos I3 r3 E3 q)
  | cons ho2 h2 r2 =>
   cases r2 with
   | one ho3 h3 =>
    refine chain_link (j2 (R:=λk dy Z1=>if k=true then hW (_::_::_) dy Z1 so else so (.d (.bl false)) Z1) (Q:=λb c s=>wpAny (model X.prog X.w) X.A (truthy c) (λt s₃=>if t then _ else EL X gV σ Pr so c s₃) X.xe s) ho h I rv E hl λu2 s3 w2 dy H3 Z1 k I3 r3 E3 q=>?_)
    refine UO ?_
    cases k with
    |false=>exact ite_ff ⟨.bl false,H3,_,Z1,I3,rfl,E3.tail.cons_d (.bl false),q⟩
    |true=>exact ite_tt (ih gV s3 σ H3 Pr Z1 so w2 u2 dy pos I3 r3 E3 q)
   | cons ho3 h3 r3 =>
    refine chain_link (j2 (R:=λk dy Z1=>if k=true then hW (_::_::_) dy Z1 so else so (.d (.bl false)) Z1) (Q:=λb c s=>wpAny (model X.prog X.w) X.A (truthy c) (λt s₃=>if t then _ else EL X gV σ Pr so c s₃) X.xe s) ho h I rv E hl λu2 s3 w2 dy H3 Z1 k I3 r3 E3 q=>?_)
    refine UO ?_
    cases k with
    |false=>exact ite_ff ⟨.bl false,H3,_,Z1,I3,rfl,E3.tail.cons_d (.bl false),q⟩
    |true=>exact ite_tt (ih gV s3 σ H3 Pr Z1 so w2 u2 dy pos I3 r3 E3 q)
theorem Fc{ops:List CmpOp}{es:List Expr}{ls:List (QP×W L)}(h:l9 X ops es ls):∀(gV:List (Addr×Obj))(s:Shared)(σ:St)(H Pr:Hp)(Z:Ev)(so:Bool->Ev->Prop)(v:V)(u:Value)(dx:D)(pos:Pos),P4 X gV σ H s->bS v u->aC X.K Pr H (some v::σ) (.d dx::Z)->(hW ls dx Z λr Z1=>vL r λk=>so k Z1) ->
  wpAny (model X.prog X.w) X.A (testChain pos u ops (evalEach es X.env)) (EB X gV σ Pr so) X.xe s:=by
 induction h with
 | one ho h =>
  intro gV s σ H Pr Z so v u dx pos I rv E hl;refine test_last ?_;exact j2 (R:=λk _ Z1=>so k Z1) (Q:=λ_ c s=>wpAny (model X.prog X.w) X.A (truthy c) (EB X gV σ Pr so) X.xe s) ho h I rv E hl λu2 s3 w2 dy H3 Z1 k I3 r3 E3 q=>UO ⟨H3,Z1,I3,E3.tail,q⟩
 | @cons op e o t ops es ls ho h r ih =>
  intro gV s σ H Pr Z so v u dx pos I rv E hl
  cases r with
  | one ho2 h2 =>
   refine test_link (j2 (R:=λk dy Z1=>if k=true then hW [_] dy Z1 (λr Z1=>vL r λk=>so k Z1)else so false Z1) (Q:=λb c s=>wpAny (model X.prog X.w) X.A (truthy c) (λt s₃=>if t then _ else EB X gV σ Pr so false s₃) X.xe s) ho h I rv E hl λu2 s3 w2 dy H3 Z1 k I3 r3 E3 q=>?_)
   refine UO ?_
   cases k with
   |false=>exact ite_ff ⟨H3,Z1,I3,E3.tail,q⟩
   |true=>exact ite_tt (ih gV s3 σ H3 Pr Z1 so w2 u2 dy pos I3 r3 E3 q)
  | cons ho2 h2 r2 =>
   cases r2 with
   | one ho3 h3 =>
    refine test_link (j2 (R:=λk dy Z1=>if k=true then hW (_::_::_) dy Z1 (λr Z1=>vL r λk=>so k Z1)else so false Z1) (Q:=λb c s=>wpAny (model X.prog X.w) X.A (truthy c) (λt s₃=>if t then _ else EB X gV σ Pr so false s₃) X.xe s) ho h I rv E hl λu2 s3 w2 dy H3 Z1 k I3 r3 E3 q=>?_)
    refine UO ?_
    cases k with
    |false=>exact ite_ff ⟨H3,Z1,I3,E3.tail,q⟩
    |true=>exact ite_tt (ih gV s3 σ H3 Pr Z1 so w2 u2 dy pos I3 r3 E3 q)
   | cons ho3 h3 r3 =>
    refine test_link (j2 (R:=λk dy Z1=>if k=true then hW (_::_::_) dy Z1 (λr Z1=>vL r λk=>so k Z1)else so false Z1) (Q:=λb c s=>wpAny (model X.prog X.w) X.A (truthy c) (λt s₃=>if t then _ else EB X gV σ Pr so false s₃) X.xe s) ho h I rv E hl λu2 s3 w2 dy H3 Z1 k I3 r3 E3 q=>?_)
    refine UO ?_
    cases k with
    |false=>exact ite_ff ⟨H3,Z1,I3,E3.tail,q⟩
    |true=>exact ite_tt (ih gV s3 σ H3 Pr Z1 so w2 u2 dy pos I3 r3 E3 q)
theorem vW{op op':CmpOp}{ops:List CmpOp}{r1 r2:Expr}{rs:List Expr}{ls:List (QP×W L)}(ha:PL X a ta)(h:l9 X (op::op'::ops) (r1::r2::rs) ls)(hm:lastMarks (op::op'::ops) (r1::r2::rs)=false:=by with_unfolding_all rfl):PL X (.Compare a (op::op'::ops) (r1::r2::rs) pos) (l8 ta ls):=by intro gV s σ H Pr Z so I E ht;refine Compare_chain (P8 (ha gV s σ H Pr Z _ I E ht) λu s1 q=>?_) hm;obtain⟨v,H1,dx,Z1,I1,rv,E1,q1⟩:=EL.frz (so:=λdx Z1=>hW ls dx Z1 so) q;exact Fb h gV s1 σ H1 Pr Z1 so v u dx pos I1 rv E1 q1
theorem vX{op op':CmpOp}{ops:List CmpOp}{r1 r2:Expr}{rs:List Expr}{ls:List (QP×W L)}(ha:PL X a ta)(h:l9 X (op::op'::ops) (r1::r2::rs) ls)(hm:lastMarks (op::op'::ops) (r1::r2::rs)=false:=by with_unfolding_all rfl):PB X (.Compare a (op::op'::ops) (r1::r2::rs) pos) (aR (l8 ta ls)):=by intro gV s σ H Pr Z so I E ht;refine isTrue_chain (P8 (ha gV s σ H Pr Z _ I E ht) λu s1 q=>?_) hm;obtain⟨v,H1,dx,Z1,I1,rv,E1,q1⟩:=EL.frz (so:=λdx Z1=>hW ls dx Z1 λr Z1=>vL r λk=>so k Z1) q;exact Fc h gV s1 σ H1 Pr Z1 so v u dx pos I1 rv E1 q1
noncomputable def iM(x y:Str):Bool:=!decide (y.cps.toList<x.cps.toList)
theorem Cc:Qi X (compareOp .LtE) (λx y H Q=>∃i j,x=.str i/\y=.str j/\Q (.bl (iM i j)) H):=by intro gV s σ H x y v u Q I rx ry ⟨i,j,ex,ey,q⟩;subst ex ey;obtain⟨t,rfl⟩:=rx;obtain⟨t',rfl⟩:=ry;refine PySem.P.le_str ⟨.bl _,H,I,rfl,?_⟩;have e:(iM i j)=(!(decide (j.cps.toList<i.cps.toList))):=rfl;rw[e]at q;exact q
def sF:QP:=λx y k=>match x,y with
 |.int i,.int j=>k (.d (.bl (decide (i<=j))))
 |.str i,.str j=>k (.d (.bl (iM i j)))
 |_,_=>False
theorem pY:QQ X (compareOp .LtE) sF:=(QQ.or Ld (QQ.of (op:=λx y k=>∃i j,x=.str i/\y=.str j/\k (.d (.bl (iM i j)))) Cc λσ H Pr Z x y dx dy so E px py ⟨i,j,e1,e2,h⟩=>by
 subst e1 e2;obtain rfl:=QH.inv_str px;obtain rfl:=QH.inv_str py
 exact⟨i,j,rfl,rfl,_,E.cons_d (.bl _),h⟩)).imp λx y k h=>by
 cases x<;>cases y<;>first|exact h.elim|exact .inl h|exact .inr ⟨_,_,rfl,rfl,h⟩
theorem xY{prog:Program}{w:World}{A:Around}{ks:List Bool}{us:List Value}(h:us=ks.map Value.bool):TruthOf prog w A (λi v=>us.toArray[i]?=some v) (λi=>ks.getD i true):=λi v s Q E hv hQ=>by
 subst h;rw[List.getElem?_toArray,UJ]at hv
 cases q:ks[i]? with
 |none=>rw[q]at hv;cases hv
 | some k =>
  rw[q]at hv;cases hv;refine UO ?_;have:ks.getD i true=k:=by rw[List.getD_eq_getElem?_getD,q];rfl
  have hQ':Q (ks.getD i true) s:=hQ;rw[this]at hQ';exact hQ'
theorem Cd(ks:List Bool):(List.range ks.length).all (λi=>ks.getD i true)=ks.all id:=by
 apply Wk.mpr;simp only[US,Wh,id];constructor
 . intro h x hx;obtain⟨i,hi,e⟩:=List.getElem_of_mem hx;have:=h i hi;rw[List.getD_eq_getElem?_getD,Uu hi]at this;simpa[e]using this
 . intro h i hi;rw[List.getD_eq_getElem?_getD,Uu hi];exact h _ (Vm hi)
theorem tw:∀{ks:List Bool}{us:List Value},bT (ks.map V.bl) us->us=ks.map Value.bool
 |[],_,.nil=>rfl
 | k::ks,_,.cons r t=>by have e:=tw t;subst e;cases r;rfl
theorem vY(hc:X.calm=true):iH X (.builtin "all") (λxs H Q=>∃(p:Addr)(ks:List Bool),xs=[.ref p]/\Qa X.K H p (ks.map V.bl)/\Q (.bl (ks.all id)) H):=by
 intro gV s σ H xs us Q I r ⟨p,ks,e,hq,q⟩;subst e;obtain⟨u,rfl,r1⟩:=ub r;cases r1;obtain⟨its,rv,pl,hz⟩:=I.list hq;have e:=tw rv;refine call_all_walk (wpAny_pyIter_list pl.isList ?_);have hne:p≠s.heap.objs.size:=λz=>by obtain⟨o,n,eo,_⟩:=pl;have:=Up eo;rw[z]at this;exact absurd this (Wb _)
 refine⟨s.heap.objs.size,_,_,_,_,_,(λi=>ks.getD i true),rfl,Walks.list (A:=X.A.in1) (I.ok.hd hc) _ p hne its.toArray,⟨⟨_,UH _ rfl,rfl,rfl⟩,pl.isList.at λo eo=>Ug _ eo⟩,xY e,λh' tk hk=>?_⟩;have hl:its.toArray.size=ks.length:=by rw[e];simp
 rw[hl,Cd];refine⟨.bl _,H,I.kept (h':=h') (t':=tk) λb o eb=>hk b o (λhm=>?_) (Ug _ eb),rfl,q⟩;have e2:b=s.heap.objs.size:=by simpa using hm
 have:=Up eb;rw[e2]at this;exact absurd this (Wb _)
theorem nq{K:W.Frag}{H:Hp}:∀{vs:List V}{ks:List Bool},bC K H vs (ks.map D.bl)->vs=ks.map V.bl
 |[],[],_=>rfl
 | _::_,k::ks,.cons r t=>by obtain rfl:=QH.inv_bl r;rw[nq t];rfl
 |[],_::_,r=>nomatch r
 |_::_,[],r=>nomatch r
def Ip:Q2:=λds k=>∃ks:List Bool,ds=[.lst (ks.map D.bl)]/\k (.d (.bl (ks.all id)))
theorem GN(hc:X.calm=true):gm X (.builtin "all") Ip:=gm.of (vY hc) λσ H Pr Z vs ds so E ps ⟨ks,e,h⟩=>by subst e;obtain⟨v,rfl,r⟩:=qU ps;obtain⟨_,_,rfl,hz,rs⟩:=QH.inv_lst r;have e:=nq rs;subst e;exact⟨_,ks,rfl,hz.l,_,E.cons_d (.bl _),h⟩
end
end L2
set_option exponentiation.threshold 2000
namespace L2
open PySem PySem.Spec PyProof.Rows
section
variable{X:Cx}{e a b:Expr}{pos p:Pos}{ta tb:W L}{x y:Str}
mutual
noncomputable def jw:D->Bool
 |.int i=>decide (i.natAbs<2^1900)
 |.tup xs=>ma xs
 |.lst xs=>ma xs
 |_=>true
noncomputable def ma:List D->Bool
 |[]=>true
 |x::xs=>jw x && ma xs
end
theorem Iq:(2:Nat)^1900<10^600:=by decide +kernel
theorem Ce{i:Int}(h:i.natAbs<2^1900):(PyData.shown (.int i)).length<=601:=by have e:=PySem.int_text_length_le10 (k:=600) x_ (Nat.lt_trans h Iq);show(Str.ofString (toString i)).length<=601;rw[PySem.ofString_length];exact e
mutual
theorem qD:∀d:D,jw d=true->(Q0 d).intsShort 601=true/\(Q0 d).showable=true
 |.non,_=>⟨rfl,rfl⟩
 |.bl _,_=>⟨rfl,rfl⟩
 |.str _,_=>⟨rfl,rfl⟩
 |.dct _,_=>⟨rfl,rfl⟩
 |.exc _ _ _,_=>⟨rfl,rfl⟩
 |.fn _ _,_=>⟨rfl,rfl⟩
 |.dk _ _,_=>⟨rfl,rfl⟩
 |.gf _,_=>⟨rfl,rfl⟩
 | .int i,h=>by
  have h':i.natAbs<2^1900:=by simpa only[jw,U4]using h
  refine⟨by simp only[Q0,PyData.intsShort,U4];exact Ce h',?_⟩
  simp only[Q0,PyData.showable,U4]
  by_cases h0:i.natAbs=0
  .
   rw[h0];decide
  .
   exact(Nat.log2_lt h0).mpr (Uj h' (U9 x_ x_))
 | .tup xs,h=>by
  obtain⟨h1,h2⟩:=rh xs (by simpa only[jw]using h)
  exact⟨by simpa only[Q0,PyData.intsShort]using h1,by simpa only[Q0,PyData.showable]using h2⟩
 | .lst xs,h=>by
  obtain⟨h1,h2⟩:=rh xs (by simpa only[jw]using h)
  exact⟨by simpa only[Q0,PyData.intsShort]using h1,by simpa only[Q0,PyData.showable]using h2⟩
theorem rh:∀ds:List D,ma ds=true->PyData.intsShortAll 601 (gj ds)=true/\PyData.showableAll (gj ds)=true
 |[],_=>⟨rfl,rfl⟩
 | d::ds,h=>by
  simp only[ma,UE]at h
  obtain⟨h1,h2⟩:=qD d h.1
  obtain⟨h3,h4⟩:=rh ds h.2
  exact⟨by simp only[gj,PyData.intsShortAll,h1,h3,Bool.and_self],by simp only[gj,PyData.showableAll,h2,h4,Bool.and_self]⟩
end
structure zg (d:D):Prop where
 ok:Rc 40 d=true
 sh:jw d=true
 wt:(Q0 d).weight<=20000
theorem zg.len{d:D}(h:zg d):(Q0 d).shown.length<=sizeLine:=by
 have h1:=PyData.shown_le 601 x_ (Q0 d) (PyData.leavesShort_of_canLay0 601 _ (uB 40 d h.ok).1 (qD d h.sh).1);have h2:=h.wt;have e:sizeLine=16777216:=by decide
 rw[e];omega
def M1(ta tb:W L):W L:=λZ so=>ta Z λr Z1=>match r with
 |.own _ xs=>tb Z1 λr2 Z2=>m8 r2 λj=>(0<=j/\j<=100000)/\xs.length*j.toNat<=sizeLine/\∀p,so (.own p (List.replicate j.toNat xs).flatten) Z2
 |_=>False
theorem bC.rep{K:W.Frag}{H:Hp}{vs:List V}{ds:List D}(r:bC K H vs ds):∀k:Nat,bC K H (List.replicate k vs).flatten (List.replicate k ds).flatten
 |0=>.nil
 | k+1=>by rw[U1,U1,VP,VP];exact r.append (bC.rep r k)
theorem GO(ha:PL X a ta)(hb:PL X b tb):PL X (.BinOp a .Mult b pos) (M1 ta tb):=by
 intro gV s σ H Pr Z so I E h;refine wpAny_BinOp (P8 (ha gV s σ H Pr Z _ I E h) λu s1 ⟨v,H1,r,Z1,I1,r1,E1,q1⟩=>?_)
 (try dsimp only at q1)
 split at q1
 rotate_left
 . exact q1.elim
 rename_i l xs;refine P8 (hb gV s1 σ H1 _ Z1 _ I1 E1.tail.wide q1) λu2 s2 ⟨y,H2,r2,Z2,I2,ry,E2,q2⟩=>?_;obtain⟨j,rfl,⟨h1,h2⟩,hz,q2⟩:=cU q2;have E3:aC X.K Pr H2 (some y::some v::σ) (.d (.int j)::.own l xs::Z2):=aC.step (τ:=[some v]) (lam:=[.own l xs]) (w:=[some y]) (μ:=[.d (.int j)]) E1 rfl E2 rfl;obtain⟨_,e1,p1⟩:=E3.head_d;cases e1;obtain rfl:=QH.inv_int p1;obtain⟨hs,vs,hl,rs⟩:=E3.ownAt (i:=1) rfl;have ev:v=.ref l:=by simpa using hs
 subst ev;have E4:aC X.K Pr H2 σ Z2:=E3.tail.tail;refine P8 (K0 gV s2 σ H2 _ _ u u2 (λz H'=>∃p,H2 p=none/\z=.ref p/\H'=PR H2 p (.lst (List.replicate j.toNat vs).flatten)) I2 r1 ry ⟨l,j,vs,rfl,rfl,hl,xL,xL,by rw[rs.length];exact hz,λp hp=>⟨p,hp,rfl,rfl⟩⟩) λw s3 ⟨z,H3,I3,rz,p,hp,e1,e2⟩=>?_;subst e1 e2;exact⟨.ref p,_,_,Z2,I3,rz,E4.cons_own hp (rs.rep _),q2 p⟩
def Fd:QP:=λx y k=>match x,y with
 |.str a,.str b=>k (.d (.bl (decide (a=b))))
 |_,_=>False
theorem LC:QQ X (compareOp .Eq) Fd:=QQ.of Ni λσ H Pr Z x y dx dy so E px py h=>by
 unfold Fd at h;split at h
 .
  obtain rfl:=QH.inv_str px;obtain rfl:=QH.inv_str py;rename_i a b;refine⟨rfl,_,E.cons_d (.bl _),?_⟩;have e:decide (V.str a=V.str b)=decide (a=b):=by simp
  rw[e];exact h
 . exact h.elim
def Ri(f:Fl)(o:Option L)(j:Nat)(Z1:Ev)(so:Fl->Ev->Prop):Prop:=match f with
 | .nx=>(match o with
  |some (.own _ xs)=>so .nx (Z1.set j (.d (.lst xs)))
  |_=>so .nx Z1)
 |f=>so f Z1
theorem Ir(a:Addr)(xs:List D)(j:Nat)(Z1:Ev)(so:Fl->Ev->Prop):Ri .nx (some (.own a xs)) j Z1 so=so .nx (Z1.set j (.d (.lst xs))):=rfl
theorem Nx(x:D)(j:Nat)(Z1:Ev)(so:Fl->Ev->Prop):Ri .nx (some (.d x)) j Z1 so=so .nx Z1:=rfl
end
theorem aC.closeT{K:W.Frag}{Pr H:Hp}{σ:St}{Z:Ev}{a:Addr}{vs:List V}{ls:List L}(hl:vs.length=ls.length)(h:Qb K H a vs)(E:aC K Pr H (vs.map some++σ) (ls++Z)):aC K Pr H (some (.ref a)::σ) (.bx none ls::Z):=by
 obtain⟨s1,s2⟩:=Paired.unapp (by simp[hl]) E.sl;have ow:owns (.bx none ls::Z)=owns (ls++Z):=by rw[aK,aH];simp only[bh,Option.toList,Vj,cT]
 refine⟨E.sub,by rw[ow];exact E.nd,λb hb=>E.off b (by rw[<- ow];exact hb),.cons ?_ s2⟩;unfold a9;exact⟨a,vs,rfl,h,bU.mpr s1⟩
theorem aC.closeO{K:W.Frag}{Pr H:Hp}{σ:St}{Z:Ev}{a:Addr}{vs:List V}{ls:List L}(hl:vs.length=ls.length)(h:H a=some (.lst vs))(hn:a∉owns (ls++Z))(hp:Pr a=none)(E:aC K Pr H (vs.map some++σ) (ls++Z)):aC K Pr H (some (.ref a)::σ) (.bx (some a) ls::Z):=by
 obtain⟨s1,s2⟩:=Paired.unapp (by simp[hl]) E.sl;have ow:owns (.bx (some a) ls::Z)=a::owns (ls++Z):=by rw[aK,aH];simp only[bh,Option.toList,Wf,Vj,cT]
 refine⟨E.sub,by rw[ow];exact UN.mpr ⟨hn,E.nd⟩,λb hb=>?_,.cons ?_ s2⟩
 .
  rw[ow]at hb;rcases Uo.mp hb with z|z
  . rw[z];exact hp
  . exact E.off b z
 . unfold a9;exact⟨rfl,vs,h,bU.mpr s1⟩
section
variable{X:Cx}{e a b:Expr}{es:List Expr}{pos p p2 apos cpos:Pos}{tb te:W L}{x y:Str}
def Iu(t:W (List L)):W L:=λZ so=>t Z λls Z1=>ls.length<=sizeLine/\so (.bx none ls) Z1
theorem Iv {x1} {bs:List (Option Nat)} {t:W (List L)} (h:QJ X es bs t):PL X (.Tuple es x1 pos) (Iu t):=by intro gV s σ H Pr Z so I E hq;refine wpAny_Tuple_spliced (P8 (h pos gV s σ H Pr Z _ I E hq) λus s1 ⟨vs,H1,ls,Z1,I1,r,hl,hb,E1,hv,z,q⟩=>?_);refine⟨by rw[<- r.length,hl];exact z,?_⟩;have hf:H1 s1.heap.objs.size=none:=I1.hok.fresh (Ul _);have E2:aC X.K Pr (PR H1 s1.heap.objs.size (.tup vs)) (vs.map some++σ) (ls++Z1):=E1.new hf;refine⟨.ref s1.heap.objs.size,PR H1 s1.heap.objs.size (.tup vs),_,Z1,I1.laid (t':=s1.toks) (λb u e=>Ug _ e) (Ul _) ?_,rfl,E2.closeT hl (Qb.of aT),q⟩;exact⟨by rw[hl];exact z,us,r,⟨_,UH _ rfl,rfl,_,rfl⟩⟩
theorem aC.updIn{K:W.Frag}{Pr H:Hp}{σ:St}{Z:Ev}{i j:Nat}{q:Option Addr}{ls:List L}{l:Addr}{xs ys:List D}{vs:List V}(E:aC K Pr H σ Z)(hi:Z[i]?=some (.bx q ls))(hj:ls[j]?=some (.own l xs))(r:bC K H vs ys) :
  aC K Pr (PR H l (.lst vs)) σ (Z.set i (.bx q (ls.set j (.own l ys)))):=by
 obtain⟨sv,hs,_⟩:=E.slot hi;have hil:i<Z.length:=(Uh.mp hi).1;have hjl:j<ls.length:=(Uh.mp hj).1;have E1:=E.outL hi hs;have fin:∀{H':Hp},aC K Pr H' (sv::σ) (.bx q (ls.set j (.own l ys))::Z.set i .un)->aC K Pr H' σ (Z.set i (.bx q (ls.set j (.own l ys)))):=λE'=>by have:=E'.back (i:=i) (by simp[hil]) hs;rwa [VA]at this
 cases q with
 | none =>
  obtain⟨a,us,rfl,ha,hl,E2⟩:=E1.openT;have E3:=E2.updOwn (i:=j) (l:=l) (xs:=xs) (ys:=ys) (vs:=vs) (by rw[UF hjl];exact hj) r;rw[VN _ _ hjl]at E3;obtain⟨ws,hlw,mu⟩:=E2.at_own (a:=l) (xG (xs:=xs) (Vh (i:=j) (by rw[UF hjl];exact hj)));refine fin (E3.closeT (by simpa using hl) (ha.pres λb u pu eb=>?_));rw[ay];exact eb;rintro rfl;rw[hlw]at eb;cases eb;exact mu.no pu
 | some a =>
  obtain⟨us,rfl,ha,hl,hn,hp,E2⟩:=E1.openO;have hlm:l∈owns (ls++Z.set i .un):=xG (xs:=xs) (Vh (i:=j) (by rw[UF hjl];exact hj));have E3:=E2.updOwn (i:=j) (l:=l) (xs:=xs) (ys:=ys) (vs:=vs) (by rw[UF hjl];exact hj) r;have ow:=pU (Z:=ls++Z.set i .un) (i:=j) (a:=l) (xs:=xs) (ys:=ys) (by rw[UF hjl];exact hj);rw[VN _ _ hjl]at E3 ow;have hla:l≠a:=λz=>hn (by rw[<- z];exact hlm);refine fin (E3.closeO (by simpa using hl) ?_ (by rw[ow];exact hn) hp);rw[ay (Vn hla)];exact ha
theorem aC.inAt{K:W.Frag}{Pr H:Hp}{σ:St}{Z:Ev}{i j:Nat}{q:Option Addr}{ls:List L}{l:Addr}{xs:List D}(E:aC K Pr H σ Z)(hi:Z[i]?=some (.bx q ls))(hj:ls[j]?=some (.own l xs)) :
  ∃a us,σ[i]?=some (some (.ref a))/\(Qa K H a us∨Qb K H a us)/\us.length=ls.length/\us[j]?=some (.ref l)/\∃vs,H l=some (.lst vs)/\bC K H vs xs:=by
 obtain⟨sv,hs,sl⟩:=E.slot hi
 have key:∀(us:List V),bY K H us ls->us[j]?=some (.ref l)/\∃vs,H l=some (.lst vs)/\bC K H vs xs:=λus h=>by
  obtain⟨s',e,z⟩:=Paired.get2 (bU.mp h) hj;unfold a9 at z;obtain⟨rfl,vs,hl,rs⟩:=z;rw[UJ]at e
  cases eu:us[j]? with
  |none=>rw[eu]at e;cases e
  |some u=>rw[eu]at e;cases e;exact⟨rfl,vs,hl,rs⟩
 cases q with
 | none =>
  unfold a9 at sl;obtain⟨a,us,rfl,ha,h⟩:=sl;exact⟨a,us,hs,.inr ha,h.len,key us h⟩
 | some a =>
  unfold a9 at sl;obtain⟨rfl,us,ha,h⟩:=sl;exact⟨a,us,hs,.inl (Qa.of ha),h.len,key us h⟩
def Ko(i:Nat)(k:Int)(Z:Ev)(K:Option Addr->List L->Nat->Addr->List D->Prop):Prop:=match Z[i]? with
 |some (.bx q ls)=>∃j,Qt ls.length k=some j/\∃l xs,ls[j]?=some (.own l xs)/\K q ls j l xs
 |_=>False
theorem GP{i:Nat}{k:Int}{Z:Ev}{K:Option Addr->List L->Nat->Addr->List D->Prop}(h:Ko i k Z K):∃q ls j l xs,Z[i]?=some (.bx q ls)/\Qt ls.length k=some j/\ls[j]?=some (.own l xs)/\K q ls j l xs:=by
 unfold Ko at h;split at h
 . rename_i q ls hi;obtain⟨j,hj,l,xs,hl,hk⟩:=h;exact⟨q,ls,j,l,xs,hi,hj,hl,hk⟩
 . exact h.elim
theorem Iw:Qv X (λx y H Q=>∃p vs i w,x=.ref p/\y=.int i/\(Qa X.K H p vs∨Qb X.K H p vs)/\Qu vs i=some w/\Q w H):=by
 intro a b gV s σ H x y v u Q I rx ry h hp;obtain⟨p,vs,i,w,e1,e2,hq,hw,q⟩:=h;rcases hq with hq|hq
 . exact xA a b gV s σ H x y v u Q I rx ry ⟨p,vs,i,w,e1,e2,hq,hw,q⟩ hp
 . exact GE a b gV s σ H x y v u Q I rx ry ⟨p,vs,i,w,e1,e2,hq,hw,q⟩ hp
def M3(i:Nat)(Z:Ev):Prop:=match Z[i]? with
 |some (.bx _ _)=>True
 |_=>False
theorem Iy{i:Nat}{Z:Ev}(h:M3 i Z):∃q ls,Z[i]?=some (.bx q ls):=by
 unfold M3 at h;split at h
 . rename_i q ls e;exact⟨q,ls,e⟩
 . exact h.elim
def Cf(i:Nat)(tk te:W L):W L:=λZ so=>M3 i Z/\tk Z λr Z1=>m8 r λk=>Z1=Z/\(Ko i k Z λ_ _ _ _ _=>True)/\te Z λr Z2=>QN r λy=>Z2=Z/\Ko i k Z λq ls j l xs=>xs.length<sizeLine/\so (.d .non) (Z.set i (.bx q (ls.set j (.own l (xs++[y])))))
theorem Ny{α:Type}{us:List α}{n j:Nat}{k:Int}{w:α}(hn:us.length=n)(hj:Qt n k=some j)(hw:us[j]?=some w):Qu us k=some w:=by unfold Qu;rw[hn,hj];exact hw
theorem Fe(i:Nat)(hb:PL X b tb)(he:PL X e te)(hp:uc b)(hN:X.N[i]?=some x:=by rfl)(hv:P0 X.env.scope x:=by first | exact Or.inl rfl | exact Or.inr (Or.inl rfl) | exact Or.inr (Or.inr rfl)) (hd:aab x:=by decide)
  (hcd:aac x:=by decide) (hs1:starEach [e] X.env=[(false,eval e X.env)]:=by rfl) (hbase:attributeBase (.Subscript (.Name x p) b p2) "append" X.env (eval (.Subscript (.Name x p) b p2) X.env)=eval (.Subscript (.Name x p) b p2) X.env:=by rfl)
  (hfew:((backTo cpos (starEach [e] X.env)).all (λx=>!x.1) && (backToKw cpos (keywordEach [] X.env)).all (λx=>x.1.isSome)
   && decide (([e]).length+([]:List Keyword).length+(if([]:List Keyword).isEmpty then 0 else 1)<30))=true:=by rfl)
  (hline:(apos.endLine == cpos.line)=true:=by rfl) (hplain:(backTo cpos (starEach ([]:List Expr) X.env)).any (·.1)=false:=by rfl) :
  PL X (.Call (.Attribute (.Subscript (.Name x p) b p2) "append" apos) [e] [] cpos) (Cf i tb te):=by
 refine PL.of (BD PySem.F.plainAttrs_list PySem.F.slot_list_append PySem.F.type_list_append qK (KU Iw (dY hN hv hd hcd) hb.pe hp) (bE (aA he).pe eX hs1) (hbase:=hbase) (hfew:=hfew) (hline:=hline) (hs:=hs1) (hplain:=hplain)) λσ H Pr Z so E h=>?_;obtain⟨hbx,h⟩:=h;obtain⟨q,ls,hi⟩:=Iy hbx
 obtain⟨a,hσ⟩:∃a,σ[i]?=some (some (.ref a)):=by
  obtain⟨sv,hs,sl⟩:=E.slot hi
  cases q with
  |none=>unfold a9 at sl;obtain⟨a,_,rfl,_⟩:=sl;exact⟨a,hs⟩
  |some a=>unfold a9 at sl;obtain⟨rfl,_⟩:=sl;exact⟨a,hs⟩
 refine⟨.ref a,hσ,Pr,Z,_,E,h,λv H2 r Z1 E2 pp=>?_⟩;obtain⟨k,rfl,rfl,hin,pp⟩:=cU pp;obtain⟨_,e1,p1⟩:=E2.head_d;cases e1;obtain rfl:=QH.inv_int p1;obtain⟨q',ls',j,l,xs,hi',hj,hl,_⟩:=GP hin;rw[hi]at hi';cases hi';obtain⟨a',us,hσ',hsq,hul,huj,vs,hlv,rs⟩:=E2.tail.inAt hi hl;rw[hσ]at hσ';cases hσ'
 refine⟨a,us,k,.ref l,rfl,rfl,hsq,Ny hul hj huj,.inl ⟨rfl,vs,Qa.of hlv⟩,Pr,Z1,λr Z2=>match r with
  |.d y=>Z2=Z1/\Ko i k Z1 λq ls j l xs=>xs.length<sizeLine/\so (.d .non) (Z1.set i (.bx q (ls.set j (.own l (xs++[y])))))
  |_=>False,E2.tail,pp,λv H3 r Z2 E3 pq=>?_⟩
 cases r with
 | d y =>
  obtain⟨e2,pq⟩:=pq;subst e2;obtain⟨q',ls',j',l',xs',hi',hj',hl',kz,pq⟩:=GP pq;rw[hi]at hi';cases hi';rw[hj]at hj';cases hj';rw[hl]at hl';cases hl';obtain⟨_,_,_,_,_,_,vs3,hlv3,rs3⟩:=E3.tail.inAt hi hl;obtain⟨_,e3,p3⟩:=E3.head_d;cases e3;exact⟨l,vs3,v,rfl,rfl,hlv3,by rw[rs3.length];exact kz,_,_,(E3.tail.updIn hi hl (rs3.append (.cons p3 .nil))).cons_d .non,pq⟩
 |_=>exact pq.elim
end
section
variable{X:Cx}{gV:List (Addr×Obj)}{σ:St}{H Pr:Hp}{s:Shared}{Z:Ev}{pos:Pos}
theorem P4.past(I:P4 X gV σ H s):(s.heap.objs.size == sysModules)=false:=by have h:mainGlobals<s.heap.objs.size:=(I.mod.glob.keeps I.bk).lt;exact UP.mpr (Vn (UI (Nat.lt_trans x_ h)))
def Iz(n:Nat):W L:=λZ so=>so (.d (.dct n)) Z
theorem aC.cons_dct{a:Addr}{o:Obj}{kvs:List (PQ×V)}(E:aC X.K Pr H σ Z)(h:H a=none):aC X.K Pr (PR H a (.frz o (.dK kvs))) (some (.ref a)::σ) (.d (.dct kvs.length)::Z) :=
 (E.new h).cons_d (.dct aT)
theorem Ff:PL X (.Dict [] [] pos) (Iz 0):=by intro gV s σ H Pr Z so I E hq;have hf:H s.heap.objs.size=none:=I.hok.fresh (Ul _);have I1:=I.laid (a:=s.heap.objs.size) (o:=.dK []) (h':=s.heap.push {cls:=.type "dict",data:=.dict #[] }) (t':=s.toks) (λ_ _ q=>Ug _ q) (Ul _) ⟨VC _,I.past,[],.nil,Heap.DictOf.new s.heap⟩;obtain⟨o,I2⟩:=I1.freezeD aT;rw[He]at I2;exact wpAny_Dict_empty ⟨.ref s.heap.objs.size,_,.d (.dct 0),Z,I2,rfl,E.cons_dct (kvs:=[]) hf,hq⟩
noncomputable def Rj(x:Str):It:=⟨λi _=>i<x.cps.size,λi H v H'=>(∃c,x.cps[i]?=some c/\v=.str ⟨#[c]⟩)/\H'=H,λi _=>x.cps.size<=i⟩
theorem Fg{P:Program}{w:World}{K:W.Frag}{tg:Expr}(it:Addr)(x:Str)(t:Tok):GC P w K tg (Rj x) [it] it (λi h=>h.IsStrIter it "str_ascii_iterator" x t i) where
 mem:=by simp
 obj:=λi h st b hb=>by
  have e:b=it:=by simpa using hb
  subst e;obtain⟨o,e,c,d⟩:=st;exact⟨o,e,λv z=>by rw[d]at z;cases z⟩
 keep:=λi h h' st k=>by obtain⟨o,e,c,d⟩:=st;exact⟨o,k it v6 o e,c,d⟩
 item:=by intro X hP hw hK hc i gV s σ H E I hf st hg;subst hP hw hK;obtain⟨f0,f1,f2,f3,f4,f5⟩:=hf it v6;refine wpAny_pyNext_ascii_item st (Array.getElem?_eq_getElem hg) λh' st' sb=>?_;have I1:P4 X gV σ H {s with heap:=h',toks:=s.toks+1}:=I.turned (t':=s.toks+1) (λb o hb e=>(sb.2 b hb).trans e) f0 f1 f3 f4 f5;obtain⟨o,e,c,d⟩:=id st';exact⟨_,rfl,Ef (s:={s with heap:=h',toks:=s.toks+1}) e c d x_ ⟨.str ⟨#[x.cps[i]]⟩,H,I1,⟨_,rfl⟩,⟨⟨_,Array.getElem?_eq_getElem hg,rfl⟩,rfl⟩,st',λb hb=>(hf b hb).1⟩⟩
 done:=by intro X hP hw hK hc i gV s σ H E I hf st hg;subst hP hw hK;obtain⟨f0,f1,f2,f3,f4,f5⟩:=hf it v6;exact wpAny_pyNext_ascii_end (I.ok.hd hc) st (Array.getElem?_eq_none hg) λh' eb=>⟨rfl,I.turned (t':=s.toks) (λb o hb e=>eb b o hb e) f0 f1 f3 f4 f5⟩
 self:=λ_ _ _ _ _ st h=>wpAny_pyIter_striter_ascii st h
noncomputable def fE(x:Str):List D:=x.cps.toList.map λc=>.str ⟨#[c]⟩
theorem Cg{K:W.Frag}{H:Hp}(x:Str):xM K H (Rj x) (fE x):=λH' p=>by
 refine⟨λi y e=>?_,?_⟩
 .
  unfold fE at e;rw[UJ]at e
  cases hc:x.cps.toList[i]? with
  |none=>rw[hc]at e;cases e
  | some c =>
   rw[hc]at e;have ey:D.str ⟨#[c]⟩=y:=UM e;subst ey;have hi:i<x.cps.size:=by simpa using(Uh.mp hc).1
   refine⟨hi,λv H2 ⟨⟨c',e1,e2⟩,e3⟩=>?_⟩;have:x.cps[i]?=some c:=by simpa using hc
   rw[this]at e1;cases e1;subst e2 e3;exact⟨.inl rfl,.str _⟩
 . show x.cps.size<=(fE x).length;simp[fE]
def xZ(d:D)(k:List D->Prop):Prop:=match d with
 |.str x=>x.cps.all (· < 128)=true/\k (fE x)
 |_=>False
def x8(t:W L):W (List D):=λZ so=>t Z λr Z1=>QN r λx=>xZ x λxs=>so xs Z1
theorem rj{e tg:Expr}{t:W L}(h:PL X e t):QZ X tg e (x8 t):=by
 intro gV s σ H Pr Z so I E ht;refine P8 (h gV s σ H Pr Z _ I E ht) λu s1 q=>?_;obtain⟨v,H1,x,Z1,I1,r1,E1,q2⟩:=EL.frz (so:=λx Z1=>xZ x λxs=>so xs Z1) q;obtain⟨_,e1,p⟩:=E1.head_d;cases e1
 cases p with
 | str y =>
  obtain⟨t,rfl⟩:=r1;obtain⟨ha,q3⟩:y.cps.all (· < 128)=true/\so (fE y) Z1:=q2;refine wpAny_pyIter_ascii ha ?_;refine⟨s1.heap.objs.size,[s1.heap.objs.size],_,_,H1,_,Z1,rfl,I1.kept (t':=s1.toks) λb o e=>Ug _ e,Fg _ y t,⟨_,UH _ rfl,rfl,rfl⟩,λb hb=>?_,E1.tail,Cg y,q3⟩;have e:b=s1.heap.objs.size:=by simpa using hb
  subst e;exact I1.fpOk (Ul _) (I1.hok.fresh (Ul _))
 |_=>exact q2.elim
end
structure FX (K:W.Frag) (mg:Str->Option Value) (g:Str) (st:Stmt) (a:Addr) (fd:FuncData) (P:List Str):Prop where
 f:QF K g g st a fd
 b:mW K fd P []
 m:mg g=some (.ref a)
noncomputable abbrev Rk(g:Str)(st:Stmt)(md:Value)(c:Nat):FuncData:=W.fnOf g g (jR st) (cL st) (au st) .none .none .none md none (.ref c) .none
theorem FX.mk'{K:W.Frag}{mg:Str->Option Value}{h:Heap}(X:K.In h)(G:h.Ns mainGlobals mg){g:Str}{st:Stmt}{a:Addr}{c:Nat}{md:Value}{P:List Str}(e1:W.nsIn K mainGlobals g=some (some (.ref a)))
  (e2:K.lookup a=some ⟨.type "function",none,.func (Rk g st md c),#[]⟩) (e3:W.codeIn K (.ref c) g=true) (e4:W.keepIn K (.ref a)=true)
  (e5:∀(kV doc pm:Value)(an:Option Addr)(cdv ct:Value)(us:List Value),us.length=P.length->bindArgs (W.fnOf g g (jR st) (cL st) (au st) .none kV doc pm an cdv ct) ⟨us,[]⟩=pure (P.zip us)):FX K mg g st a (Rk g st md c) P :=
 ⟨pS e2 e3 e4,(pS e2 e3 e4).binds e5,Wc X G e1⟩
section
variable{X:Cx}{k k' n:Nat}{f:Addr}{fd:FuncData}{ps:List Str}{fs:FS}{g:Str}{st:Stmt}{e:Expr}{es:List Expr}{bs:List (Option Nat)}{t:W (List L)}{p pos:Pos}
theorem bM(F:FnOk X.prog X.w X.K X.mg X.base CX0 k f fd ps (spF X.K n fs))(T:FX X.K X.mg g st f fd ps)(hr:g6 k' X.A)(ha:QJ X (e::es) bs t)(hk:k<=k':=by decide)(hg:Gl X g:=by rfl)(hn:bs.length=n:=by rfl) (hdb:aab g:=by decide) (he:starEach (e::es) X.env=(false,eval e X.env)::starEach es X.env:=by rfl) (hpl:(backTo pos (starEach es X.env)).any (·.1)=false:=by rfl) :
  PL X (.Call (.Name g p) (e::es) [] pos) (bJ fs t):=HK F (hr.mono hk) hg T.m T.f.kp T.b Hy ha hn hdb he hpl
theorem bp(F:FnOk X.prog X.w X.K X.mg X.base CX0 k f fd ps (spF X.K n fs))(T:FX X.K X.mg g st f fd ps)(hr:g6 k' X.A)(j i:Nat)(ha:QJ X (e::es) bs t)(hk:k<=k':=by decide)(hg:Gl X g:=by rfl)(hj:bs[j]?=some (some i):=by rfl)(hn:bs.length=n:=by rfl) (hdb:aab g:=by decide) (he:starEach (e::es) X.env=(false,eval e X.env)::starEach es X.env:=by rfl) (hpl:(backTo pos (starEach es X.env)).any (·.1)=false:=by rfl) :
  PL X (.Call (.Name g p) (e::es) [] pos) (bg fs j i t):=ED F (hr.mono hk) hg T.m T.f.kp T.b Hy j i ha hj hn hdb he hpl
end
section
variable{X:Cx}
theorem Fh:Qi X (binaryOp .Add) (λx y H Q=>∃l b xs zs,x=.ref l/\y=.ref b/\Qb X.K H l xs/\Qb X.K H b zs/\xs≠[]/\zs≠[]/\xs.length+zs.length<=sizeLine/\∀p,H p=none->Q (.ref p) (PR H p (.tup (xs++zs)))):=by
 intro gV s σ H x y v u Q I rx ry h;obtain⟨l,b,xs,zs,rfl,rfl,hH,hB,n1,n2,hz,q⟩:=h;cases rx;cases ry;obtain⟨its,r,⟨o,e,c,n,f⟩,z⟩:=I.tuple hH;obtain⟨its2,r2,⟨o2,e2,c2,m,f2⟩,z2⟩:=I.tuple hB;obtain⟨cl,dd,dt,sl⟩:=o;obtain⟨cl2,dd2,dt2,sl2⟩:=o2;simp only at c f c2 f2;subst c f c2 f2;have hl:=r.length;have hl2:=r2.length;have k1:its≠[]:=λe=>n1 (VD.mp (by rw[hl,e];rfl));have k2:its2≠[]:=λe=>n2 (VD.mp (by rw[hl2,e];rfl));refine concat_meets ⟨_,e,rfl⟩ ⟨_,e2,rfl⟩ noFill_tuple_add seq_tuple_add PySem.F.slot_tuple_add PySem.F.entry_tuple_add (PySem.F.args_tuple_add_2 _ _) (tuple_addW2 l b its.toArray its2.toArray n m dd dd2 sl sl2 (by simpa using k1) (by simpa using k2) (by rw[UB,UB];omega)) ⟨e,e2,?_⟩;have ea:its.toArray++its2.toArray=(its++its2).toArray:=by simp
 rw[ea];exact⟨.ref _,PR H s.heap.objs.size (.tup (xs++zs)),I.laid (o:=.tup (xs++zs)) (λ_ _ q=>Ug _ q) (Ul _) ⟨by rw[Ue];omega,its++its2,r.append r2,⟨_,UH _ rfl,rfl,_,rfl⟩⟩,rfl,q _ I.fresh⟩
def zh:QP:=λx y k=>match x,y with
 |.tup xs,.tup ys=>xs≠[]/\ys≠[]/\xs.length+ys.length<=sizeLine/\k (.d (.tup (xs++ys)))
 |_,_=>False
theorem ID:QQ X (binaryOp .Add) zh:=(QQ.of Fh (op:=λx y k=>∃xs ys,x=.tup xs/\y=.tup ys/\xs≠[]/\ys≠[]/\xs.length+ys.length<=sizeLine/\k (.d (.tup (xs++ys)))) (λσ H Pr Z x y dx dy so E px py ⟨xs,ys,e1,e2,m1,m2,z,h⟩=>by
  subst e1 e2;obtain⟨_,_,rfl,h1,r1⟩:=QH.inv_tup px
  cases py with
  | tup h2 r2 =>
   refine⟨_,_,_,_,rfl,rfl,h1,h2,λe=>m1 ?_,λe=>m2 ?_,by rw[r1.length,r2.length];exact z,λp hp=>⟨_,E.cons_tup hp (r1.append r2),h⟩⟩
   . exact VD.mp (by rw[<- r1.length,e];rfl)
   .
    exact VD.mp (by rw[<- r2.length,e];rfl))).imp λx y k h=>by
 unfold zh at h;split at h
 . exact⟨_,_,rfl,rfl,h⟩
 . exact h.elim
end
mutual
noncomputable def zi:D->Nat
 |.tup xs=>x9 xs+1
 |.lst xs=>x9 xs+1
 |_=>0
noncomputable def x9:List D->Nat
 |[]=>0
 |x::xs=>max (zi x) (x9 xs)
end
theorem zj{n:Nat}:∀{xs:List D},(∀x∈xs,zi x<=n)->x9 xs<=n
 |[],_=>VC _
 | y::ys,h=>by simp only[x9];have:=h y Ui;have:=zj (xs:=ys) λx hx=>h x (Ud _ hx);omega
section
variable{X:Cx}{a:Expr}
theorem Ci{h:Heap}{a:Addr}{its:Array Value}(z:IsTup h a its):∃ dd n sl,h.get? a=some ⟨.type "tuple",dd,.seq its n,sl⟩:=by obtain⟨o,e,c,n,d⟩:=z;obtain⟨c',dd,dt,sl⟩:=o;cases c;cases d;exact⟨dd,n,sl,e⟩
theorem Cj{gV:List (Addr×Obj)}{σ:St}{H:Hp}{s:Shared}{x:V}{u:Value}{d:D}{b:Bool}{tp:Addr}{its:List Value}{Q:Value->Shared->Prop}{A:Around}{E:Value->Shared->Prop}(I:P4 X gV σ H s)(rx:bS x u)(r:QH X.K H x d)(ht:IsTup s.heap tp its.toArray)
  (e:∀ t,Q4 X.K d t->W.kitAny X.K t its=some b) (h:∀ tk,Q (.bool b) {s with toks:=tk}):wpAny (model X.prog X.w) A (call (.builtin "isinstance") [u,.ref tp]) Q E s:=by
 obtain⟨dd,n,sl,ht⟩:=Ci ht
 cases r with
 |non=>cases rx;exact Vq W.kitx_none I.kIn True.intro ht (e _ rfl) (λz=>nomatch z) h
 |bl y=>cases rx;exact Vq W.kitx_bool I.kIn True.intro ht (e _ rfl) (λz=>nomatch z) h
 |int i=>obtain⟨t,rfl⟩:=rx;exact Vq W.kitx_int I.kIn True.intro ht (e _ rfl) (λz=>nomatch z) h
 |str y=>obtain⟨t,rfl⟩:=rx;exact Vq W.kitx_str I.kIn True.intro ht (e _ rfl) (λz=>nomatch z) h
 | lst hz rs =>
  cases rx;obtain⟨its',_,⟨o,n',e1,c1,_,_⟩,_⟩:=I.list hz.l;exact Vq W.kitx_list I.kIn ⟨o,e1,c1⟩ ht (e _ rfl) (λz=>nomatch z) h
 | tup hz rs =>
  cases rx;obtain⟨its',_,⟨o,e1,c1,_⟩,_⟩:=I.tuple hz;exact Vq W.kitx_tuple I.kIn ⟨o,e1,c1⟩ ht (e _ rfl) (λz=>nomatch z) h
 | @dct a' o kvs hz =>
  cases rx;obtain⟨_,_,_,vs,_,o',es,ep,h1,h2,_⟩:=(show cR X.prog X.w H s.heap a' (.frz o (.dK kvs))from I.hok a' _ hz);exact Vq W.kitx_dict I.kIn ⟨o',h1,h2.1⟩ ht (e _ rfl) (λz=>nomatch z) h
 | @exc a o u cc C ns vs ds h1 hv hc hn hs hq hf rs =>
  cases rx;obtain⟨od,Ia,_⟩:=uu I h1 hc hn hf;obtain⟨LL,cd,S⟩:=d4 hs;exact Vq (yP S) I.kIn ⟨_,_,Ia⟩ ht (e _ ⟨C,rfl,hs⟩) (λz=>nomatch z) h
 | fn hl hf hq hc hz hd hv hm r =>
  cases rx;exact Vq ui I.kIn ⟨_,(I.hok _ _ hf).1,rfl⟩ ht (e _ rfl) (λz=>nomatch z) h
 | @dk a' o kvs ds hz rs =>
  cases rx;obtain⟨_,_,_,vs,_,o',es,ep,h1,h2,_⟩:=(show cR X.prog X.w H s.heap a' (.frz o (.dK kvs))from I.hok a' _ hz);exact Vq W.kitx_dict I.kIn ⟨o',h1,h2.1⟩ ht (e _ rfl) (λz=>nomatch z) h
 | gf hx hl hk =>
  cases rx;exact Vq ui I.kIn ⟨_,I.kIn _ _ hl,rfl⟩ ht (e _ rfl) (λz=>nomatch z) h
end
end L2
namespace L2
open PySem PySem.Spec PyProof.Rows PySem.Builtin.Str
inductive Sk where
 |l|t
noncomputable abbrev Zi:=Sk×Addr×Addr
noncomputable def Zi.ofs(js:List Zi):List Addr:=js.map (·.2.1)
def LD(z O:Addr)(js:List Zi)(h h':Heap):Prop:=∀c o,c∉z::O::Zi.ofs js->h.get? c=some o->h'.get? c=some o
noncomputable def Sk.nm:Sk->String
 |.l=>"list_iterator"
 |.t=>"tuple_iterator"
section
variable{z O:Addr}{js:List Zi}
theorem LD.mono{h h':Heap}(k:LD z O js h h'){c:Addr}{o:Obj}(hc:c∉z::O::Zi.ofs js)(e:h.get? c=some o):h'.get? c=some o:=k c o hc e
end
end L2
namespace L2
open PySem PySem.Spec PyProof.Rows
end L2
namespace L2
open PySem PySem.Spec PyProof.Rows PySem.W
noncomputable def IE(K:Frag)(C fI:Addr):Bool:=(match K.lookup C with
 | some ⟨.type "type",_,.cls cd,sl⟩=>(match cd.mro,sl.toList with
  |.ref C'::bm,[_,_,_,_,some (.builtin n),_]=>C' == C && n == "ValueError.__new__" && !cd.hasDel && bm.contains (.type "ValueError") && !(bm.contains (.type "AttributeError")) && !(bm.contains (.type "NameError"))
  |_,_=>false)
 |_=>false) && findIn K (.ref C) "__init__" == some (some (.ref fI)) && typeIn K (.ref fI) == some (.type "function")
structure Rl (K:Frag) (C fI:Addr):Prop where
 ex:∃ nm q N bs bm hdct sn sub ab col dd k0 k1 k2 k3 k5,K.lookup C=some (excClassObj nm q C N bs bm hdct sn sub ab col dd k0 k1 k2 k3 k5 "ValueError.__new__")/\bm.contains (.type "ValueError")=true/\bm.contains (.type "AttributeError")=false/\bm.contains (.type "NameError")=false
 init:findIn K (.ref C) "__init__"=some (some (.ref fI))
 fn:typeIn K (.ref fI)=some (.type "function")
theorem LF{K:Frag}{C fI:Addr}(h:IE K C fI=true):Rl K C fI:=by
 unfold IE at h;simp only[UE,Wj]at h;obtain⟨⟨h,h1⟩,h2⟩:=h;refine⟨?_,h1,h2⟩;split at h
 .
  rename_i dd cd sl ho;split at h
  .
   rename_i C' bm k0 k1 k2 k3 n k5 hm hs;simp only[UE,Wj,Bool.not_eq_true']at h;obtain⟨⟨⟨⟨⟨rfl,rfl⟩,hdel⟩,e1⟩,e2⟩,e3⟩:=h;obtain⟨nm,bs,mro,ns,qn,hd,sn,sub,ab,col,Rm⟩:=cd
   (try dsimp only at hm hdel)
   subst hm hdel;obtain⟨l⟩:=sl;simp only at hs;subst hs;exact⟨nm,qn,ns,bs,bm,hd,sn,sub,ab,col,dd,k0,k1,k2,k3,k5,ho,e1,e2,e3⟩
  . cases h
 . cases h
section
variable{prog:Program}{w:World}{A:Around}{E:Value->Shared->Prop}{h:Heap}{g:Array GenState}{d:Drawn}{t:Nat}{os:OsState}
variable{nm q:Str}{C N:Addr}{bs bm:List Value}{hdct:Bool}{sn:List Str}{sub:List Value}{ab:Bool}{col:Option Bool}{dd:Option Addr}{k0 k1 k2 k3 k5:Option Value}
theorem AL{M:Model}{rest:List Value}{Q:Unit->Shared->Prop} (hC:h.get? C=some (excClassObj nm q C N bs bm hdct sn sub ab col dd k0 k1 k2 k3 k5 "ValueError.__new__")) (hv:bm.contains (.type "ValueError")=true)
  (hq:Q () ⟨h,g,d,t,os⟩):wpAny M A (checkBuiltinCall "ValueError.__new__" ⟨.ref C::rest,[]⟩) Q E ⟨h,g,d,t,os⟩:=by
 have FB:=F.excBase_ValueError;have hb:(Value.ref C::bm).contains (.type "ValueError")=true:=by rw[VJ,hv,Bool.or_true]
 have hst:=FB.noStar;simp only[checkBuiltinCall,FB.newKind,FB.newSplit,FB.newRow]
 repeat (first|refine Vb hC ?_|(refine wpAny_isSubtype_exc hC ?_;rw[hb])|refine wpAny_staticBase_exc hC ?_|refine wpAny_madeBy_exc hC ?_|simp only[bne_self_eq_false,Bool.false_eq_true,if_false] | wp_step)
 exact hq
theorem Fi{rest:List Value}{R:Result->Shared->Prop} (hC:h.get? C=some (excClassObj nm q C N bs bm hdct sn sub ab col dd k0 k1 k2 k3 k5 "ValueError.__new__")) (hv:bm.contains (.type "ValueError")=true) (ha:bm.contains (.type "AttributeError")=false) (hn:bm.contains (.type "NameError")=false)
  (hz:rest.length<=sizeLine) (hq:R (.ok (.ret (.ref (h.objs.size+1)))) ⟨(h.push {cls:=.type "tuple",data:=.seq rest.toArray}).push {cls:=.ref C,data:=.fields #[.ref h.objs.size,.none,.none,.none,.bool false,.none] },g,d,t,os⟩) :
  codeAny (model prog w) A (.builtin "ValueError.__new__" ⟨.ref C::rest,[]⟩) R ⟨h,g,d,t,os⟩:=by
 have FB:=F.excBase_ValueError;have hends:=FB.ends;have c1:(Value.ref C::bm).contains (.type "ValueError")=true:=by rw[VJ,hv,Bool.or_true]
 have c2:(Value.ref C::bm).contains (.type "AttributeError")=false:=by rw[VJ,ha]; rfl
 have c3:(Value.ref C::bm).contains (.type "NameError")=false:=by rw[VJ,hn]; rfl
 refine codeAny_builtinAt FB.entry ?_;unfold Builtin.«BaseException.__new__»;refine PySem.wpAt_bind ?_;show PySem.wpAt _ _ _ (stack >>= _) _ _ _;refine PySem.wpAt_bind (PySem.wpAt_stack λp below=>PySem.wpAt_of_wpAny ?_)
 wp_walk
 refine PySem.wpAt_of_wpAny ?_;rw[FB.owner]
 repeat (first|with_reducible refine wpAny_madeHere_exc FB.canon hC ?_|with_reducible refine Vb hC ?_|(with_reducible refine wpAny_isSubtype_exc hC ?_;first|rw[c1] | rw[c2] | rw[c3])|wp_step)
 show R _ _;rw[Heap.size_push];exact hq
theorem Nz{K:Frag}{fI:Addr}{rest:List Value}{Q:Value->Shared->Prop}(X:K.In h)(M:Rl K C fI)(hz:rest.length<=sizeLine)
  (hq:∀ h' e,Heap.MadeExcOf h h' e (.ref C) rest->h.objs.size<=e->wpAny (model prog w) (A.under (.builtin "type.__call__" ⟨.ref C::rest,[]⟩)) (call (.ref fI) (.ref e::rest)) (λr s'=>r=.none/\Q (.ref e) s') E ⟨h',g,d,t,os⟩) :
  wpAny (model prog w) A (call (.ref C) rest) Q E ⟨h,g,d,t,os⟩:=by
 obtain⟨nm,q,N,bs,bm,hdct,sn,sub,ab,col,dd,k0,k1,k2,k3,k5,hK,b1,b2,b3⟩:=M.ex;have hC:=X _ _ hK;have FB:=F.excBase_ValueError;have f1:=tc_lookup;have f2:=tc_bind (.ref C);have hT:(⟨h,g,d,t,os⟩:Shared).TypeIs (.ref C) "type":=⟨_,hC,rfl⟩;refine Wa (codeAny_of_tree ?_);show wpAny _ _ (callAny (.ref C) _) _ _ _
 repeat (any_goals (first|assumption|with_reducible refine Vb hC ?_|wp_step))
 refine⟨rfl,?_⟩;refine codeAny_call_builtin_at (Code.quiet_builtin _ y_) entry_typeCall (wpAny_check_type_call_sub hC ?_)
 repeat (first|with_reducible refine Vb hC ?_|with_reducible refine wpAny_madeBy_exc hC ?_|wp_step)
 refine codeAny_call_builtin_code (Code.quiet_builtin _ FB.quiet) (AL hC b1 ?_);refine Fi hC b1 b2 b3 hz ?_;have kp:∀ b o,h.get? b=some o->((h.push {cls:=.type "tuple",data:=.seq rest.toArray}).push {cls:=.ref C,data:=.fields #[.ref h.objs.size,.none,.none,.none,.bool false,.none] }).get? b=some o:=λb o e=>Ug _ (Ug _ e);have hC1:=kp _ _ hC;have X1:K.In _:=X.keeps kp;have hg:((h.push {cls:=.type "tuple",data:=.seq rest.toArray}).push {cls:=.ref C,data:=.fields #[.ref h.objs.size,.none,.none,.none,.bool false,.none] }).get? (h.objs.size+1)=some {cls:=.ref C,data:=.fields #[.ref h.objs.size,.none,.none,.none,.bool false,.none] }:=by heap_get
 have cC:(Value.ref C::bm).contains (.ref C)=true:=by simp
 show wpAny _ _ _ _ _ ⟨(h.push {cls:=.type "tuple",data:=.seq rest.toArray}).push {cls:=.ref C,data:=.fields #[.ref h.objs.size,.none,.none,.none,.bool false,.none] },g,d,t,os⟩;unfold isInstance
 repeat (first|with_reducible refine Vb hg ?_|(with_reducible refine wpAny_isSubtype_exc hC1 ?_;rw[cC])|wp_step)
 have L1:=looks_findIn (M:=model prog w) X1 M.init;have L2:=bind_fn (M:=model prog w) X1 (.ref (h.objs.size+1)) M.fn;show wpAny _ _ (typeLookup (.ref C) _) _ _ _;refine L1.at (Vz (kS (L2.at ?_)));refine kS (U8 (hq _ (h.objs.size+1) ⟨kp,Heap.get?_none_of_le (Nat.le_succ _),h.objs.size,hg,Heap.get?_none_of_le (Ul _),Ug _ (Heap.get?_push_at rfl rfl)⟩ (Nat.le_succ _)) (λr s' hr=>?_) λ_ _ x=>x);obtain⟨rfl,hQ⟩:=hr
 wp_walk
 exact hQ
end
section
variable{prog:Program}{w:World}{A:Around}{E:Value->Shared->Prop}{s:Shared}{K:Frag}{c:Str}{C L:Addr}{cd:ClassData}{env:Env}
structure Rn (h:Heap) (e:Addr) (cls:Value) (dx T:Option Addr):Prop where
 ex:∃vs sl,h.get? e=some ⟨cls,dx,.fields vs,sl⟩/\1<vs.size/\(match T with
  |none=>vs[1]?=some .none
  |some t=>vs[1]?=some (.ref t)/\t≠e/\∃ot ts,h.get? t=some ot/\ot.data=.fields ts/\ts[3]?=some .none)
theorem LG{x:Sem Value}{Q:Flow->Shared->Prop}(S:qk K c C L cd)(hh:A.handled=none)
  (h:wpAny (model prog w) A x (λv s1=>∃e dx,v=.ref e/\K.In s1.heap/\Rn s1.heap e (.ref C) dx none/\E (.ref e) s1) E s):wpAny (model prog w) A (raiseStmt env (some x) none) Q E s:=by
 unfold raiseStmt;refine kS (U8 h (λv s1 h1=>?_) λ_ _ z=>z);obtain⟨e,dx,rfl,X,⟨vs,sl,he,hz,h1⟩,hE⟩:=h1;obtain⟨hp,g,d,tk,os⟩:=s1;have h1:vs[1]?=some .none:=h1;have he:hp.get? e=some ⟨.ref C,dx,.fields vs,sl⟩:=he;obtain⟨oc,odc,slc,hK⟩:=qN S.cls;have hC:hp.get? C=some ⟨oc,odc,.cls cd,slc⟩:=X _ _ hK;have hoc:oc=.type "type":=by have z:(K.lookup C).map (·.cls)=some (.type "type"):=S.ty;rw[hK]at z;exact UM z
 subst hoc;have Lb:=S.isT (M:=model prog w) X "BaseException";have eb:(["ValueError","Exception","BaseException","object"]:List String).contains "BaseException"=true:=by decide
 rw[eb]at Lb
 repeat (first|with_reducible refine Vb he ?_|with_reducible refine Vb hC ?_|with_reducible refine Lb.at ?_|with_reducible refine VX he rfl h1 ?_|wp_step)
 exact wpAny_raiseNew_none hh hE
theorem IF{base:Heap}{outer:List Env}{F e:Addr}{cls:Value}{dx T:Option Addr}{Q:Unit->Shared->Prop}
  (hfr:A.frames=some (env::outer)) (hl:s.heap.FunFrames base (env::outer)) (hf:env.frame=some F) (fl:Rn s.heap e cls dx T)
  (hq:∀h' T',Rn h' e cls dx (some T')->s.heap.objs.size<=T'->(∀b o,b≠e->some b≠T->b∉PZ (env::outer)->s.heap.get? b=some o->h'.get? b=some o) ->
   (∀b o,b≠e->some b≠T->s.heap.get? b=some o->∃sl,h'.get? b=some {o with slots:=sl})->Q () {s with heap:=h' }) :
  wpAny (model prog w) A (noteFrame (.ref e) env) (λ_ s2=>wpAny (model prog w) A (setFlight (.ref e) none) Q E s2) E s:=by
 obtain⟨vs,sl,he,hz,hT⟩:=fl;have nof:∀b o vs',s.heap.get? b=some o->o.data=.fields vs'->b∉PZ (env::outer):=λb o vs' hb hd hm=>by obtain⟨_,o',ho',hn'⟩:=hl.mem hm;rw[hb]at ho';cases ho';exact hn' _ hd
 have entry:∀(s1:Shared)(vs1:Array Value)(head:Value)(hn:Bool),s1.heap.get? e=some ⟨cls,dx,.fields vs1,sl⟩->1<vs1.size->s1.heap.FunFrames base (env::outer) ->
   (∀b o,b≠e->some b≠T->s.heap.get? b=some o->s1.heap.get? b=some o)->s1.heap.objs.size=s.heap.objs.size->s1={s with heap:=s1.heap} ->
   wpAny (model prog w) A (do let a <- frameOf env;let pl <- entryPlaceOf F hn;let b <- EntryCells.newEntry head a .none (rawInt F) .none pl;setField (.ref e) 1 b) (λ_ s2=>wpAny (model prog w) A (setFlight (.ref e) none) Q E s2) E s1:=by
  intro s1 vs1 head hn he1 hz1 hl1 kp sz es;have nof1:∀b o vs',s1.heap.get? b=some o->o.data=.fields vs'->b∉PZ (env::outer):=λb o vs' hb hd hm=>by obtain⟨_,o',ho',hn'⟩:=hl1.mem hm;rw[hb]at ho';cases ho';exact hn' _ hd
  refine kS (wpAny_frameOf_fun hfr hl1 hf λh1 hs1=>?_);refine kS (wpAny_entryPlaceOf λpl hpl=>?_);unfold EntryCells.newEntry newFields;refine kS (VQ ?_ (hpl.sizeOk5 _ _ _ _ _))
  generalize hob:({cls:=.type "traceback",dict:=none,data:=.fields ([head,Value.ref F,.none,rawInt F,.none]++(if pl.isEmpty then List.replicate 6 Value.none else pl)).toArray}:Obj)=ob
  have hod:∃ts,ob.data=.fields ts/\3<ts.size:=by subst hob;exact⟨_,rfl,by simp only[UB,Ue,Uk,UA];omega⟩
  obtain⟨ts,hod,hts⟩:=hod;have he2:h1.get? e=some ⟨cls,dx,.fields vs1,sl⟩:=(hs1.2.1 e (nof1 _ _ _ he1 rfl)).trans he1;have he3:=Ug (h:=h1) ob he2;have ne:h1.objs.size≠e:=Nat.ne_of_gt (Up he2);refine wpAny_setField he3 rfl hz1 ?_;have he4:=Vx (Obj.mapFields (·.setIfInBounds 1 (Value.ref h1.objs.size))) he3 rfl;have hT4:=(U7 (h1.push ob) (Obj.mapFields (·.setIfInBounds 1 (Value.ref h1.objs.size))) (Vn ne)).trans (UH h1 (by obtain⟨_,_,dt,_⟩:=ob;cases hod;rfl));unfold setFlight;refine kS (VX he4 rfl (x:=.ref h1.objs.size) (by simp[hz1]) ?_);rw[if_pos (show(Value.ref h1.objs.size != Value.none)=true from by simp)];refine wpAny_setField hT4 hod hts ?_;rw[es];have keep:∀b o,b≠e->h1.get? b=some o->(((h1.push ob).update e (Obj.mapFields (·.setIfInBounds 1 (Value.ref h1.objs.size)))).update h1.objs.size (Obj.mapFields (·.setIfInBounds 3 ((none:Option Addr).elim Value.none λf=>rawInt f)))).get? b=some o:=λb o hb e1=>by rw[U7 _ _ (Nat.ne_of_gt (Up e1)),U7 _ _ (Vn hb)];exact Ug _ e1
  refine hq _ h1.objs.size ⟨vs1.setIfInBounds 1 (.ref h1.objs.size),sl,?_,by simpa using hz1,by simp[hz1],ne,_,_,Vx _ hT4 (Obj.isFreed_of_fields (Obj.data_mapFields hod _)),Obj.data_mapFields hod _,by simp[hts]⟩ ?_ (λb o hb hbT hbf e1=>?_) λb o hb hbT e1=>?_
  . rw[U7 _ _ ne];exact he4
  . rw[hs1.1,sz];exact Ul _
  . exact keep b o hb ((hs1.2.1 b hbf).trans (kp b o hb hbT e1))
  . obtain⟨sl',e2⟩:=hs1.2.2 b o (kp b o hb hbT e1);exact⟨sl',keep b _ hb e2⟩
 unfold noteFrame;simp only[hf]
 cases T with
 | none =>
  refine kS (VX he rfl hT ?_);rw[if_neg (by decide)];exact entry s vs .none _ he hz hl (λ_ _ _ _ e1=>e1) rfl rfl
 | some t =>
  obtain⟨h1,hte,ot,ts,ht,hdt,h3⟩:=hT;refine kS (VX he rfl h1 ?_);rw[if_pos (show(Value.ref t != Value.none)=true from by simp)];refine kS (VX ht hdt h3 ?_);rw[if_neg (show ¬((Value.none == rawInt F)=true)from by simp[rawInt])];refine kS (wpAny_setField ht hdt (Array.getElem?_eq_some_iff.mp h3).1 ?_);have oth:∀b,b≠t->(s.heap.update t (Obj.mapFields (·.setIfInBounds 3 Value.none))).get? b=s.heap.get? b:=λb hb=>U7 _ _ (Vn hb);refine entry _ vs (.ref t) _ ((oth e (Vn hte)).trans he) hz (hl.of_keeps λb o hb hnf=>⟨o,(oth b λq=>?_).trans hb,rfl⟩) (λb o hb hbT e1=>(oth b λq=>hbT (by rw[q])).trans e1) v6 rfl;rw[q,ht]at hb;cases hb;exact hnf ts hdt
theorem LH{e T:Addr}{cls:Value}{dx:Option Addr}{Q:Unit->Shared->Prop}(fl:Rn s.heap e cls dx (some T))
  (hq:∀h',Rn h' e cls dx (some T)->(∀b o,b≠T->s.heap.get? b=some o->h'.get? b=some o)->Q () {s with heap:=h' }):wpAny (model prog w) A (setFlight (.ref e) none) Q E s:=by
 obtain⟨vs,sl,he,hz,h1,hte,ot,ts,ht,hdt,h3⟩:=fl;have hts:=(Array.getElem?_eq_some_iff.mp h3).1;unfold setFlight;refine kS (VX he rfl h1 ?_);rw[if_pos (show(Value.ref T != Value.none)=true from by simp)];refine wpAny_setField ht hdt hts (hq _ ⟨vs,sl,?_,hz,h1,hte,_,_,Vx _ ht (Obj.isFreed_of_fields (Obj.data_mapFields hdt _)),Obj.data_mapFields hdt _,by simp[hts]⟩ λb o hb e1=>?_)
 . rw[U7 _ _ hte];exact he
 . rw[U7 _ _ (Vn hb)];exact e1
end
noncomputable def Rm(H:Hp)(e:Addr):Hp:=λb=>if b=e then none else H b
theorem cO{H:Hp}{e b:Addr}(h:b≠e):Rm H e b=H b:=by unfold Rm;rw[if_neg h]
theorem nr{H:Hp}{e:Addr}:Rm H e e=none:=by unfold Rm;rw[if_pos rfl]
theorem gu{H:Hp}{e b:Addr}(h:H b=none):Rm H e b=none:=by unfold Rm;split;rfl;exact h
section
variable{X:Cx}{gV:List (Addr×Obj)}{σ:St}{H:Hp}{s:Shared}
theorem P4.forget{e:Addr}{φ:Heap->Prop}(I:P4 X gV σ H s)(h:H e=some (.ext φ)):P4 X gV σ (Rm H e) s:=by
 have ne:∀b o,H b=some o->(∀ψ,o≠.ext ψ)->b≠e:=λb o q n z=>by subst z;rw[h]at q;cases q;exact n _ rfl
 refine⟨I.ok,I.os,I.bare,⟨I.base.keep,I.base.slot,λb o e1 n hx=>gu (I.base.free b o e1 n hx),I.base.there,λb xs q=>?_,λb o u q=>?_,λb ps q=>?_⟩,I.loc,I.cell,gu I.free,λx c q=>(I.freeC x c q).imp gu fun⟨hf,o,z⟩=>⟨hf,o,by rw[cO (ne c _ z λ_ q=>nomatch q)];exact z⟩,λp hp=>?_,λb u q=>?_,I.len⟩
 . have z:=I.base.tups b xs q;rw[cO (ne b _ z λ_ q=>nomatch q)];exact z
 . have z:=I.base.frzs b o u q;rw[cO (ne b _ z λ_ q=>nomatch q)];exact z
 . have z:=I.base.tbls b ps q;rw[cO (ne b _ z λ_ q=>nomatch q)];exact z
 . obtain⟨a1,a2,a3⟩:=I.pin p hp;exact⟨a1,gu a2,a3⟩
 .
  have hb:b≠e:=λz=>by subst z;rw[nr]at q;cases q
  rw[cO hb]at q;exact(I.hok b u q).stay (λc v _ z=>z) (λc z=>by rw[cO (ne c _ z λ_ q=>nomatch q)];exact z) (λc xs z=>by rw[cO (ne c _ z λ_ q=>nomatch q)];exact z) λc ob _ _ z=>by rw[cO (ne c _ z λ_ q=>nomatch q)];exact z
theorem P4.track{e:Addr}{o:HO}(I:P4 X gV σ H s)(hn:H e=none)(h0:X.s₀.heap.objs.size<=e)(hL:e≠X.env.locals)(hc:∀x c,X.env.cells.lookup x=some c->c≠e)(hp:∀p∈X.pn++gV,p.1≠e)
  (new:cR X.prog X.w (PR H e o) s.heap e o):P4 X gV σ (PR H e o) s:=by
 have ne:∀b u,H b=some u->b≠e:=λb u q z=>by subst z;rw[hn]at q;cases q
 refine⟨I.ok,I.os,I.bare,⟨I.base.keep,I.base.slot,λb u e1 n hx=>?_,I.base.there,λb xs q=>?_,λb u z q=>?_,λb ps q=>?_⟩,I.loc,I.cell,?_,λx c q=>?_,λp hq=>?_,λb u q=>?_,I.len⟩
 . rw[ay (λz=>by subst z;exact absurd (Up e1) (Nat.not_lt.mpr h0))];exact I.base.free b u e1 n hx
 . have z:=I.base.tups b xs q;rw[ay (ne b _ z)];exact z
 . have z:=I.base.frzs b _ _ q;rw[ay (ne b _ z)];exact z
 . have z:=I.base.tbls b ps q;rw[ay (ne b _ z)];exact z
 . rw[ay (Vn hL)];exact I.free
 . rw[ay (hc x c q)];exact I.freeC x c q
 . obtain⟨a1,a2,a3⟩:=I.pin p hq;exact⟨a1,by rw[ay (hp p hq)];exact a2,a3⟩
 .
  by_cases hb:b=e
  . subst hb;rw[aT]at q;cases q;exact new
  . rw[ay hb]at q;exact(I.hok b u q).stay (λc v _ z=>z) (λc z=>by rw[ay (ne c _ z)];exact z) (λc xs z=>by rw[ay (ne c _ z)];exact z) λc ob _ _ z=>by rw[ay (ne c _ z)];exact z
end
open Classical in
noncomputable def mS(H:Hp):Hp:=λb=>match H b with
 |some o=>if QI o then some o else none
 |none=>none
theorem fF{H:Hp}{b:Addr}(h:H b=none):mS H b=none:=by unfold mS;rw[h]
theorem eZ{H:Hp}{b:Addr}{o:HO}(h:H b=some o)(v:QI o):mS H b=some o:=by unfold mS;rw[h];exact if_pos v
theorem IG{H:Hp}{b:Addr}{o:HO}(h:mS H b=some o):H b=some o/\QI o:=by
 unfold mS at h;split at h
 .
  rename_i u e;split at h
  . rename_i v;cases h;exact⟨e,v⟩
  . cases h
 . cases h
theorem IH{H:Hp}{b:Addr}{o:HO}(h:H b=some o)(v:¬QI o):mS H b=none:=by unfold mS;rw[h];exact if_neg v
theorem cR.stayN{P:Program}{w:World}{H H':Hp}{h h':Heap}{a:Addr}:∀{o:HO},Eo o->cR P w H h a o->(∀u,h.get? a=some u->h'.get? a=some u)->(∀b xs,H b=some (.tup xs)->H' b=some (.tup xs))->(∀b o q,ly o q->H b=some (.frz o (.own b))->H' b=some (.frz o (.own b)))->cR P w H' h' a o
 |.lst xs,_,x,k,_,_=>by obtain⟨z,its,n,r,e⟩:=x;exact⟨z,its,n,r,k _ e⟩
 |.tup xs,_,x,k,_,_=>by obtain⟨z,its,r,ob,e,c⟩:=x;exact⟨z,its,r,ob,k _ e,c⟩
 |.dK kvs,_,x,k,_,_=>by obtain⟨z,y,vs,r,ob,es,ep,e,c⟩:=x;exact⟨z,y,vs,r,ob,es,ep,k _ e,c⟩
 | .dT kvs,_,x,k,ht,_=>by obtain⟨z,y,xs,r,ob,es,ep,e,c⟩:=x;exact⟨z,y,xs,Paired.mapP r λp q z=>⟨z.1,ht _ _ z.2.1,z.2.2⟩,ob,es,ep,k _ e,c⟩
 |.set S n,_,x,k,_,_=>by obtain⟨ob,es,ep,t,e,c⟩:=x;exact⟨ob,es,ep,t,k _ e,c⟩
 |.ins C dx fs,n,_,_,_,_=>n.elim
 |.own y,_,x,k,_,_=>by obtain⟨ob,e⟩:=x;exact⟨ob,k _ e⟩
 |.xd fs,_,x,k,_,_=>by obtain⟨mA,⟨od,es,ep,e,c⟩,r⟩:=x;exact⟨mA,⟨od,es,ep,k _ e,c⟩,r⟩
 |.rng lo hi,_,x,k,_,_=>by obtain⟨t,u,v,e⟩:=x;exact⟨t,u,v,k _ e⟩
 |.frz ob u,n,x,k,ht,hf=>by obtain⟨e,q⟩:=x;exact⟨k _ e,cR.stayN (o:=u) n q k ht hf⟩
 | .tbl t,_,x,k,_,hf=>by
  obtain⟨ps,e,tr,m⟩:=x
  exact⟨ps,k _ e,tr,λpos cv z=>let ⟨c',oc,a1,a2,a3⟩:=m pos cv z;⟨c',oc,a1,hf _ _ _ a3 a2,a3⟩⟩
 | .met f y,_,x,k,_,_=>by have e:h.get? a=some (W.methodObj (.ref f) (.ref y)):=x;exact(k _ e:h'.get? a=some (W.methodObj (.ref f) (.ref y)))
 |.ext φ,_,x,k,_,_=>by obtain⟨p,⟨o,e⟩,st⟩:=x;exact⟨st _ _ p k,⟨o,k _ e⟩,st⟩
theorem Ck(q:Str):QI (.tbl q):=⟨True.intro,True.intro⟩
section
variable{X:Cx}{gV:List (Addr×Obj)}{σ:St}{H H':Hp}{s s':Shared}
theorem P4.hide(I:P4 X gV σ H s):Bx X.prog X.w X.K X.mg X.base X.A X.stack s (mS H):=by have e0:=I.env0;refine⟨e0.frames,e0.mod,λb o e=>⟨(e0.bs b o e).1,fF (e0.bs b o e).2⟩,e0.bsz,e0.funs,λb hb=>fF (e0.frf b hb),λb o e=>?_,e0.bare,λx hx c P e=>eZ (e0.tbs x hx c P e) (Ck _)⟩;obtain⟨e1,v⟩:=IG e;exact cR.stayN v.2 (e0.hok b o e1) (λ_ z=>z) (λc xs z=>eZ z (xF xs)) λc ob _ _ z=>eZ z (mZ ob c)
open Classical in
noncomputable def Ro(H H':Hp):Hp:=λb=>match H' b with
 |some o=>some o
 |none=>H b
theorem dU{b:Addr}{o:HO}(h:H' b=some o):Ro H H' b=some o:=by unfold Ro;rw[h]
theorem kW{b:Addr}(h:H' b=none):Ro H H' b=H b:=by unfold Ro;rw[h]
theorem P4.unhide(I:P4 X gV σ H s)(ho:s'.os=s.os)(hg:AllBare s'.gens)(u:Un (PZ X.stack) [] (mS H) H' s.heap s'.heap)(hok:PU X.prog X.w H' s'.heap) :
  P4 X gV σ (Ro H H') s'/\(∀b o,H b=some o->Ro H H' b=some o)/\(∀b o,H' b=some o->mS H b=none->H b=none):=by
 have gone:∀b o,H b=some o->¬QI o->mS H b=none/\H' b=none:=λb o e v=>by
  have z:=IH e v
  obtain⟨ob,hb⟩:∃ob,s.heap.get? b=some ob:=by
   cases q:s.heap.get? b with
   |some ob=>exact⟨ob,rfl⟩
   | none =>
    exfalso
    cases o with
    |lst xs=>obtain⟨_,_,_,_,e⟩:=I.hok b _ e;rw[q]at e;cases e
    |tup xs=>exact v (xF xs)
    |dK kvs=>obtain⟨_,_,_,_,o,_,_,e,_⟩:=I.hok b _ e;rw[q]at e;cases e
    |dT kvs=>obtain⟨_,_,_,_,o,_,_,e,_⟩:=I.hok b _ e;rw[q]at e;cases e
    |set S n=>obtain⟨o,_,_,_,e,_⟩:=I.hok b _ e;rw[q]at e;cases e
    |ins C dx fs=>obtain⟨_,_,_,e,_⟩:=I.hok b _ e;rw[q]at e;cases e
    |own y=>obtain⟨_,e⟩:=I.hok b _ e;rw[q]at e;cases e
    |xd fs=>obtain⟨_,⟨_,_,_,e,_⟩,_⟩:=I.hok b _ e;rw[q]at e;cases e
    |rng lo hi=>obtain⟨_,_,_,e⟩:=I.hok b _ e;rw[q]at e;cases e
    |frz ob u=>obtain⟨e,_⟩:=I.hok b _ e;rw[q]at e;cases e
    |tbl t=>exact v (Ck t)
    |met f y=>have e:=(show s.heap.get? b=some _ from I.hok b _ e);rw[q]at e;cases e
    |ext φ=>obtain⟨_,⟨_,e⟩,_⟩:=I.hok b _ e;rw[q]at e;cases e
  exact⟨z,u.free b ob hb z v6⟩
 have ext:∀b o,H b=some o->Ro H H' b=some o:=λb o e=>by
  by_cases v:QI o
  .
   have z:=eZ e v
   cases o with
   |tup xs=>exact dU (u.tups b xs z)
   |frz ob w=>exact dU (u.frzs b ob w z)
   |tbl t=>exact dU (u.tbls b t z)
   |_=>exact v.1.elim
  . rw[kW (gone b o e v).2];exact e
 have back:∀b o,H' b=some o->mS H b=none->H b=none:=λb o e z=>by
  cases q:H b with
  |none=>rfl
  | some o' =>
   by_cases v:QI o'
   . rw[eZ q v]at z;cases z
   . rw[(gone b o' q v).2]at e;cases e
 have hok2:PU X.prog X.w (Ro H H') s'.heap:=λb o e=>by
  unfold Ro at e;split at e
  . rename_i o' q;cases e;exact(hok b _ q).stay (λc w _ z=>z) (λc z=>dU z) (λc xs z=>dU z) λc ob _ _ z=>dU z
  .
   rename_i q
   have nv:¬QI o:=λv=>by
    have z:=eZ e v
    cases o with
    |tup xs=>rw[u.tups b xs z]at q;cases q
    |frz ob w=>rw[u.frzs b ob w z]at q;cases q
    |tbl t=>rw[u.tbls b t z]at q;cases q
    |_=>exact v.1.elim
   have keepT:∀c o',H c=some o'->¬QI o'->∀w,s.heap.get? c=some w->s'.heap.get? c=some w:=λc o' e' v' w hw=>by refine u.keep c w hw (gone c o' e' v').1 (λhm=>?_) v6;have:=I.stkFree c hm;rw[e']at this;cases this
   refine(I.hok b o e).stay (λc w hc z=>?_) (λc z=>ext c _ z) (λc xs z=>ext c _ z) λc ob _ _ z=>ext c _ z;rcases hc with rfl|hc
   . exact keepT c o e nv w z
   . exact keepT c _ hc (λv=>v.1) w z
 refine⟨I.call' (ch:=[]) ho ⟨λb o e n hf hx=>u.keep b o e (fF n) hf hx,λb o e n hf hx=>u.slot b o e (fF n) hf hx,λb o e n hx=>?_,u.there,λb xs e=>ext b _ e,λb o w e=>ext b _ e,λb ps e=>ext b _ e⟩ hok2 hg (λb z=>absurd z v6),ext,back⟩;rw[kW (u.free b o e (fF n) hx)];exact n
end
section
variable{K:Frag}{Pr H H':Hp}{σ:St}{Z:Ev}
theorem aC.exten(E:aC K Pr H σ Z)(h:∀b o,H b=some o->H' b=some o):aC K Pr H' σ Z :=
 ⟨λb o e=>h b o (E.sub b o e),E.nd,E.off,Paired.impMem E.sl λl hl s q=>q.pres (λb u _ e=>h b u e) l λa e=>by
  obtain⟨vs,e,_⟩:=E.at_own (gp.mpr ⟨l,hl,e⟩)
  rw[h _ _ e,e]⟩
end
theorem QH.hid{K:Frag}{H:Hp}{v:V}{d:D}(r:QH K H v d):QH K (mS H) v d:=r.mapv λ_ _ z e=>eZ e z
theorem bC.hid{K:Frag}{H:Hp}{vs:List V}{ds:List D}(r:bC K H vs ds):bC K (mS H) vs ds:=r.mapv λ_ _ z e=>eZ e z
theorem NA:typeOf (.type "ValueError")=pure (.type "type"):=kitMeta_of y_
theorem NB:Manifest.isStub "ValueError"=false:=by decide +kernel
theorem NC:handedIn (.builtin "ValueError.__init__")=true:=by decide +kernel
theorem Cm(K:Frag):findCls K (.type "ValueError") (.type "type") "__init__"=some (.val (.builtin "ValueError.__init__")):=by kernel_rfl
theorem Rn.at{h h':Heap}{e:Addr}{cls:Value}{dx:Option Addr}(f:Rn h e cls dx none)(k:∀o,h.get? e=some o->h'.get? e=some o):Rn h' e cls dx none:=by obtain⟨vs,sl,he,hz,h1⟩:=f;exact⟨vs,sl,k _ he,hz,h1⟩
noncomputable def XO(e:Addr)(cls:Value)(dx:Option Addr):HO:=.ext λh=>Rn h e cls dx none
noncomputable def XD(d:Addr)(fs:List (Str×V)):HO:=.ext λh=>∃mA,h.Ns1 d mA/\(∀f,xq (fs.lookup f) (mA f))/\PySem.Within mA (fs.map (·.1))
theorem XO.ok{P:Program}{w:World}{H:Hp}{h:Heap}{e:Addr}{cls:Value}{dx:Option Addr}(f:Rn h e cls dx none):cR P w H h e (XO e cls dx):=by obtain⟨vs,sl,he,hz,h1⟩:=f;exact⟨⟨vs,sl,he,hz,h1⟩,⟨_,he⟩,λh1 h2 p k=>p.at k⟩
theorem XD.ok{P:Program}{w:World}{H:Hp}{h:Heap}{d:Addr}{fs:List (Str×V)}{mA:Str->Option Value}(n:h.Ns1 d mA)(r:∀f,xq (fs.lookup f) (mA f))(wi:PySem.Within mA (fs.map (·.1))):cR P w H h d (XD d fs) :=
 ⟨⟨mA,n,r,wi⟩,let ⟨o,_,_,e,_⟩:=n;⟨o,e⟩,λh1 h2 ⟨mA,n,r⟩ k=>⟨mA,n.at k,r⟩⟩
theorem LJ{H:Hp}{a:Addr}{o:HO}(h:H a=some o):PR H a o=H:=by
 funext b;unfold PR;split
 . rename_i e;rw[e,h]
 . rfl
section
variable{X:Cx}{gV:List (Addr×Obj)}{σ:St}{H:Hp}{s:Shared}
theorem P4.xo{e:Addr}{cls:Value}{dx:Option Addr}(I:P4 X gV σ H s)(h:H e=some (XO e cls dx)):Rn s.heap e cls dx none:=(I.hok e _ h).1
theorem P4.xd{d:Addr}{fs:List (Str×V)}(I:P4 X gV σ H s)(h:H d=some (XD d fs)):∃mA,s.heap.Ns1 d mA/\(∀f,xq (fs.lookup f) (mA f))/\PySem.Within mA (fs.map (·.1)):=(I.hok d _ h).1
theorem Rn.inst{h:Heap}{e C:Addr}{dx T:Option Addr}(f:Rn h e (.ref C) dx T)(hd:∀d,dx=some d->∃o,h.get? d=some o):∃vs sl od,InstAt h e ⟨.ref C,dx,.fields vs,sl⟩ C od/\1<vs.size:=by
 obtain⟨vs,sl,he,hz,_⟩:=f
 cases dx with
 |none=>exact⟨vs,sl,none,⟨he,rfl,rfl,trivial⟩,hz⟩
 | some d =>
  obtain⟨o,ho⟩:=hd d rfl;exact⟨vs,sl,some o,⟨he,rfl,rfl,ho⟩,hz⟩
end
section
variable{X:Cx}{a b:Expr}{p1 p2 pos:Pos}{t:TA}
def vZ(K:Frag)(t:TA):TE:=λσ H Q=>t σ H λvs H1=>∃e tx c C L cd,vs=[.ref e,tx]/\H1 e=some (XO e (.ref C) none)/\qk K c C L cd/\Q .non H1
theorem Fj{pl:Sem Bool} (hg:Gl X "ValueError") (hm:X.mg "ValueError"=none) (ha:PA X [a,b] t) (hs:starEach [a,b] X.env=(false,eval a X.env)::starEach [b] X.env:=by rfl) (hpl:(backTo pos (starEach [b] X.env)).any (·.1)=false:=by rfl)
  (ht:eval (.Call (.Attribute (.Name "ValueError" p1) "__init__" p2) [a,b] [] pos) X.env=(do
   let ov <- eval (.Name "ValueError" p1) X.env
   standAt p2.atName
   let (f,first) <- holding [ov] (getMethod ov "__init__" pl)
   callWith pos f first (backTo pos (starEach [a,b] X.env)) (backToKw pos (keywordEach [] X.env))):=by rfl) :
  PE X (.Call (.Attribute (.Name "ValueError" p1) "__init__" p2) [a,b] [] pos) (vZ X.K t):=by
 intro gV s σ H Q I h;refine methodCall_KW (mV I hg hm (show bootBuiltins "ValueError"=some (.type "ValueError") by decide +kernel) ?_) ht;obtain⟨m,F⟩:=I.fr;have k4:=Cm X.K;refine @method_type _ _ _ _ _ X.K _ _ _ _ _ _ _ _ F I.ok.mod.kin NA NB k4 NC ?_;have I1:=I.tok (s.toks+1);have hA:=ha pos gV _ σ H _ I1 h;rw[hs]at hA ⊢;refine Calls.callWith_builtin (by show(false ||(backTo pos (starEach [b] X.env)).any (·.1))=false;rw[hpl]<;>rfl) (Calls.evalArgs_plain (P8 hA λus s2 ⟨vs,H2,I2,r,e,tx,c,C,L,cd,ev,he,S,q⟩=>?_));subst ev;obtain⟨u1,u2,rfl,r1,r2⟩:=Al r;cases r1;obtain⟨vs,sl,od,Ia,hz⟩:=(I2.xo he).inst (λd z=>nomatch z);refine Np S I2.kIn Ia rfl xL λt'=>⟨.non,H2,?_,rfl,q⟩;have hx1:=Ug (h:=s2.heap) {cls:=.type "tuple",data:=.seq #[u2] } Ia.at_;have z:=I2.write (x:=e) (e:=e) (o:=XO e (.ref C) none) (h':=(s2.heap.push {cls:=.type "tuple",data:=.seq #[u2] }).update e (Obj.mapFields (·.setIfInBounds 0 (.ref s2.heap.objs.size)))) (t':=t') (by rw[he]; exact True.intro) (.inl rfl) (λb u hb e1=>(U7 _ _ (Vn hb)).trans (Ug _ e1)) ⟨_,Vx _ hx1 rfl⟩ (XO.ok ?_)
 . rw[LJ he]at z;exact z
 . obtain⟨vs',sl',he',hz',h1'⟩:=I2.xo he;have e2:=Ia.at_.symm.trans he';cases e2;refine⟨vs.setIfInBounds 0 (.ref s2.heap.objs.size),sl,Vx _ hx1 rfl,by simpa using hz',?_⟩;show(vs.setIfInBounds 0 _)[1]?=some .none;rw[Array.getElem?_setIfInBounds_ne x_];exact h1'
noncomputable def M4(K:Frag):Sp:=λvs H Q _=>∃e tx c C L cd,vs=[.ref e,tx]/\H e=some (XO e (.ref C) none)/\qk K c C L cd/\Q .non H
structure Cn (K:Frag) (mg:Str->Option Value) (L fL:Addr) (fd:FuncData) (st:Stmt):Prop where
 m:mg "LoadError"=some (.ref L)
 rd:readsIn K L (.type "type")=true
 sg:specialIn K (.ref L) "__getattribute__"=some (some (.builtin "type.__getattribute__"))
 fc:findCls K (.ref L) (.type "type") "__init__"=some (.val (.ref fL))
 f:QF K "__init__" "LoadError.__init__" st fL fd
 b:mW K fd ["self","text"] []
theorem zk{pl:Sem Bool}{k L fL:Addr}{fd:FuncData}{st:Stmt}(T:Cn X.K X.mg L fL fd st) (F:FnOk X.prog X.w X.K X.mg X.base CX0 k fL fd ["self","text"] (M4 X.K)) (hr:g6 k X.A) (hg:Gl X "LoadError") (ha:PA X [a,b] t)
  (hs:starEach [a,b] X.env=(false,eval a X.env)::starEach [b] X.env:=by rfl) (hpl:(backTo pos (starEach [b] X.env)).any (·.1)=false:=by rfl)
  (ht:eval (.Call (.Attribute (.Name "LoadError" p1) "__init__" p2) [a,b] [] pos) X.env=(do
   let ov <- eval (.Name "LoadError" p1) X.env
   standAt p2.atName
   let (f,first) <- holding [ov] (getMethod ov "__init__" pl)
   callWith pos f first (backTo pos (starEach [a,b] X.env)) (backToKw pos (keywordEach [] X.env))):=by rfl) :
  PE X (.Call (.Attribute (.Name "LoadError" p1) "__init__" p2) [a,b] [] pos) (vZ X.K t):=by
 intro gV s σ H Q I h;refine methodCall_KW (gF I hg T.m ?_) ht;refine method_cls I.kIn T.sg (cls_read I.kIn T.rd T.fc (Um ?_));have k3:handedIn (.ref fL)=true:=rfl;show wpAny _ _ (handedOut (.ref fL)) _ _ _;rw[handedOut_of k3];refine Um ?_;have I1:=I.tok (s.toks+1);refine callWith_K (h₀:=X.base) I.ok.mod.kin T.f.kp (P8 (ha pos gV _ σ H _ I1 h) λus s1 h_=>h_.on λvs H1 I2 r q=>⟨I2.kIn,?_⟩) hs hpl;refine By F hr T.b .nil Hy I2 r ?_;rw[U5];exact q
def Fk(K:Frag)(ta tv:TE)(f:Str):TS:=λD σ H=>tv σ H λy H1=>ta σ H1 λx H2=>∃e c C L cd,x=.ref e/\qk K c C L cd/\findIn K (.ref C) f=some none /\
 ((H2 e=some (XO e (.ref C) none)/\∀d,H2 d=none->d≠e->D.nx σ (PR (PR H2 d (XD d [(f,y)])) e (XO e (.ref C) (some d)))) ∨
  ∃d fs,H2 e=some (XO e (.ref C) (some d))/\H2 d=some (XD d fs)/\fs.lookup f=none/\fs.length<=900/\D.nx σ (PR H2 d (XD d (fs++[(f,y)]))))
theorem tD{α:Type}{f g:Str}{y:α}:∀{fs:List (Str×α)},fs.lookup f=none->(fs++[(f,y)]).lookup g=if g=f then some y else fs.lookup g
 | [],_=>by
  by_cases h:g=f
  . subst h;simp
  . have:(g == f)=false:=UP.mpr h;simp[List.lookup,this,h]
 | (k,v)::fs,h=>by
  have h':(f == k)=false/\fs.lookup f=none:=by
   cases e:(f == k)with
   |true=>simp[List.lookup,e]at h
   |false=>exact⟨rfl,by simpa[List.lookup,e]using h⟩
  have ih:=tD (g:=g) (y:=y) h'.2
  cases e:(g == k)with
  | true =>
   have:g≠f:=λz=>by subst z;rw[h'.1]at e;cases e
   simp[List.lookup,e,this]
  | false =>
   simp only[Wf,List.lookup,e];exact ih
theorem ya{o value:Expr}{f:Str}{pos':Pos}{ta tv:TE}(ha:PE X o ta)(hv:PE X value tv)(hs:swapsWith value (some (.Attribute o f pos')) pos.line X.env=pure false:=by rfl):PS X (.Assign [.Attribute o f pos'] value pos) (Fk X.K ta tv f):=by
 intro gV s σ H D I h;refine plainObj_wpAny_Assign_Attribute (P8 (hv gV s σ H _ I h) λu s1 ⟨y,H1,I1,ry,q⟩=>P8 (ha gV s1 σ H1 _ I1 q) λov s2 ⟨x,H2,I2,rx,e,c,C,L,cd,ex,S,hf,q2⟩=>?_) hs;subst ex;obtain rfl:ov=Value.ref e:=rx;rcases q2 with⟨he,q2⟩|⟨d,fs,he,hd,hl,hz,q2⟩
 .
  obtain⟨vs,sl,od,Ia,hz⟩:=(I2.xo he).inst (λd z=>nomatch z);have dn:H2 s2.heap.objs.size=none:=I2.hok.fresh (Ul _);have dne:s2.heap.objs.size≠e:=Nat.ne_of_gt (Up Ia.at_);refine Er S I2.kIn Ia rfl hf λh' tk e1 n1 k1=>⟨σ,_,?_,q2 s2.heap.objs.size dn dne⟩
  have hd1:cR X.prog X.w (PR (PR H2 s2.heap.objs.size (XD s2.heap.objs.size [(f,y)])) e (XO e (.ref C) (some s2.heap.objs.size))) h' s2.heap.objs.size (XD s2.heap.objs.size [(f,y)]):=by
   refine XD.ok n1 (λg=>?_) λg hg=>?_
   .
    by_cases z:g=f
    . subst z;simp[xq,ry]
    . have:(g == f)=false:=UP.mpr z;simp[List.lookup,this,z,xq]
   .
    by_cases z:g=f
    . simp[z]
    . simp[z]at hg
  obtain⟨vs0,sl0,he0,hz0,h10⟩:=I2.xo he;have e2:=Ia.at_.symm.trans he0;cases e2;have ho1:cR X.prog X.w (PR (PR H2 s2.heap.objs.size (XD s2.heap.objs.size [(f,y)])) e (XO e (.ref C) (some s2.heap.objs.size))) h' e (XO e (.ref C) (some s2.heap.objs.size)):=XO.ok ⟨vs,sl,e1,hz0,h10⟩;have tr:∀b o,H2 b=some o->b≠e->PR (PR H2 s2.heap.objs.size (XD s2.heap.objs.size [(f,y)])) e (XO e (.ref C) (some s2.heap.objs.size)) b=some o:=λb o q hb=>by rw[ay hb,ay (bb q dn)];exact q
  have nx:∀b o,H2 b=some o->(∀ψ,o≠.ext ψ)->b≠e:=λb o q n z=>by subst z;rw[he]at q;cases q;exact n _ rfl
  refine I2.un ⟨λb o hb n _ _=>k1 b o (λz=>by subst z;rw[he]at n;cases n) hb,λb o hb n _ _=>⟨o.slots,k1 b o (λz=>by subst z;rw[he]at n;cases n) hb⟩,λb o hb n _=>?_,λb o hb _=>?_,λb xs q=>tr b _ q (nx b _ q λ_ z=>nomatch z),λb o' u' q=>tr b _ q (nx b _ q λ_ z=>nomatch z),λb ps q=>tr b _ q (nx b _ q λ_ z=>nomatch z)⟩ λb o q=>?_
  . rw[ay (λz=>by subst z;rw[he]at n;cases n),ay (UI (Up hb))];exact n
  .
   by_cases z:b=e
   . subst z;exact⟨_,e1⟩
   . exact⟨o,k1 b o z hb⟩
  .
   by_cases hb:b=e
   . subst hb;rw[aT]at q;cases q;exact ho1
   .
    by_cases hb2:b=s2.heap.objs.size
    . subst hb2;rw[ay hb,aT]at q;cases q;exact hd1
    .
     rw[ay hb,ay hb2]at q;refine(I2.hok b o q).stay (λc v hc z=>k1 c v ?_ z) (λc z=>tr c _ z (nx c _ z λ_ z=>nomatch z)) (λc xs z=>tr c _ z (nx c _ z λ_ z=>nomatch z)) λc ob _ _ z=>tr c _ z (nx c _ z λ_ z=>nomatch z);rcases hc with rfl|hc
     . exact hb
     . exact nx c _ hc λ_ z=>nomatch z
 .
  obtain⟨mA,nA,rA,wA⟩:=I2.xd hd;obtain⟨od,_,_,hod,_⟩:=id nA;obtain⟨vs,sl,od',Ia,hz'⟩:=(I2.xo he).inst (λd' z=>by cases z;exact⟨od,hod⟩);refine Es S I2.kIn Ia rfl nA wA (by rw[tu];omega) hf λh' tk n1 sb=>⟨σ,_,?_,q2⟩
  refine I2.write (x:=d) (e:=d) (by rw[hd];exact True.intro) (.inl rfl) (λb u hb e1=>(sb.2 b hb).trans e1) (let ⟨o,_,_,e1,_⟩:=n1;⟨o,e1⟩) (XD.ok n1 (λg=>?_) λg hg=>?_)
  .
   rw[tD hl];by_cases z:g=f
   . subst z;simp[xq,ry]
   . rw[if_neg z,if_neg z];exact rA g
  .
   by_cases z:g=f
   . subst z;simp
   . rw[if_neg z]at hg;have:=wA g hg;simp at this ⊢;exact .inl this
end
noncomputable def II(K:Frag)(ns:List Str):Sp:=λvs H Q _=>∃e vals c C L cd,vs=.ref e::vals/\H e=some (XO e (.ref C) none)/\qk K c C L cd/\(∀f∈ns,findIn K (.ref C) f=some none)/\vals.length=ns.length /\
 ∀d,H d=none->d≠e->Q .non (PR (PR H d (XD d (ns.zip vals))) e (XO e (.ref C) (some d)))
def Rp(K:Frag):TS:=Ec (vZ K (xx (Bc 0) (xx (Bc 1) MY)))
def Rq(K:Frag)(x:V)(f:Str):TS:=MW (Ec (vZ K (xx (Bc 0) (xx (tC x) MY)))) (Fk K (Bc 0) (Bc 1) f)
def Rr(K:Frag)(x:V)(f g:Str):TS:=MW (Ec (vZ K (xx (Bc 0) (xx (tC x) MY)))) (MW (Fk K (Bc 0) (Bc 1) f) (Fk K (Bc 0) (Bc 2) g))
theorem IJ{K:Frag}{vs:List V}{H:Hp}{Q:VK}{E:XK}{a b:Str}(h:M4 K vs H Q E):Rp K {nx:=λ_ H'=>Q .non H',rt:=Q} (mX [a,b] vs) H:=by obtain⟨e,tx,c,C,L,cd,rfl,he,S,q⟩:=h;exact⟨_,rfl,_,rfl,e,tx,c,C,L,cd,rfl,he,S,q⟩
theorem IK{K:Frag}{vs:List V}{H:Hp}{Q:VK}{E:XK}{a b f:Str}{x:V}(h:II K [f] vs H Q E):Rq K x f {nx:=λ_ H'=>Q .non H',rt:=Q} (mX [a,b] vs) H:=by
 obtain⟨e,vals,c,C,L,cd,rfl,he,S,hf,hl,q⟩:=h
 match vals,hl with
 |[v],_=>exact⟨_,rfl,e,x,c,C,L,cd,rfl,he,S,_,rfl,_,rfl,e,c,C,L,cd,rfl,S,hf f v6,.inl ⟨he,λd hd hde=>q d hd hde⟩⟩
theorem IL{K:Frag}{vs:List V}{H:Hp}{Q:VK}{E:XK}{a b b2 f g:Str}{x:V}(hfg:f≠g)(h:II K [f,g] vs H Q E):Rr K x f g {nx:=λ_ H'=>Q .non H',rt:=Q} (mX [a,b,b2] vs) H:=by
 obtain⟨e,vals,c,C,L,cd,rfl,he,S,hf,hl,q⟩:=h
 match vals,hl with
 | [v,v2],_ =>
  refine⟨_,rfl,e,x,c,C,L,cd,rfl,he,S,_,rfl,_,rfl,e,c,C,L,cd,rfl,S,hf f v6,.inl ⟨he,λd hd hde=>?_⟩⟩;refine⟨_,rfl,_,rfl,e,c,C,L,cd,rfl,S,hf g v6,.inr ⟨d,[(f,v)],aT,?_,?_,v6,?_⟩⟩
  . rw[ay hde,aT]
  . have:(g == f)=false:=UP.mpr (Vn hfg);simp[List.lookup,this]
  .
   have z:=q d hd hde
   have e1:PR (PR (PR H d (XD d [(f,v)])) e (XO e (.ref C) (some d))) d (XD d ([(f,v)]++[(g,v2)]))=PR (PR H d (XD d ([f,g].zip [v,v2]))) e (XO e (.ref C) (some d)):=by
    funext b
    unfold PR;by_cases h1:b=d
    . subst h1;rw[if_pos rfl,if_neg hde,if_pos rfl];rfl
    .
     rw[if_neg h1];by_cases h2:b=e
     . rw[if_pos h2,if_pos h2]
     . rw[if_neg h2,if_neg h2,if_neg h1,if_neg h1]
   show Q .non _;rw[e1];exact z
structure Xc where
 c:Str
 ns:List Str
 ds:List D
def AM(K:Frag)(H:Hp)(cls:Value)(dx:Option Addr)(x:Xc):Prop:=∃C vs,cls=.ref C/\jS K x.c C=true/\(∀f∈x.ns,findIn K (.ref C) f=some none)/\XF H dx x.ns vs/\bC K H vs x.ds
theorem AM.ext{K:Frag}{H H':Hp}{cls:Value}{dx:Option Addr}{x:Xc}(f:AM K H cls dx x)(h:∀b o,H b=some o->H' b=some o):AM K H' cls dx x:=by obtain⟨C,vs,e,s,fq,a,r⟩:=f;exact⟨C,vs,e,s,fq,a.pres λb o _ q=>h b o q,r.pres λb o _ q=>h b o q⟩
noncomputable def Rt(P:Program)(w:World):Qp:=λouter H s E e s'=>∃a cls dx T H',e=.ref a/\s'.os=s.os/\AllBare s'.gens/\Un (PZ outer) [] H H' s.heap s'.heap/\PU P w H' s'.heap/\Rn s'.heap a cls dx (some T)/\H' a=none/\H' T=none /\
 s.heap.objs.size<=a/\s.heap.objs.size<=T/\E cls dx H'
section
variable{X:Cx}{gV:List (Addr×Obj)}{σ:St}{H:Hp}{s:Shared}
theorem PU.there{P:Program}{w:World}{H:Hp}{h:Heap}(x:PU P w H h){b:Addr}{o:HO}(e:H b=some o):∃u,h.get? b=some u:=by
 have lt:=x.lt e
 cases o with
 |lst xs=>obtain⟨_,_,_,_,e⟩:=x b _ e;exact⟨_,e⟩
 |tup xs=>obtain⟨_,_,_,o,e,_⟩:=x b _ e;exact⟨_,e⟩
 |dK kvs=>obtain⟨_,_,_,_,o,_,_,e,_⟩:=x b _ e;exact⟨_,e⟩
 |dT kvs=>obtain⟨_,_,_,_,o,_,_,e,_⟩:=x b _ e;exact⟨_,e⟩
 |set S n=>obtain⟨o,_,_,_,e,_⟩:=x b _ e;exact⟨_,e⟩
 |ins C dx fs=>obtain⟨_,_,_,e,_⟩:=x b _ e;exact⟨_,e⟩
 |own y=>obtain⟨_,e⟩:=x b _ e;exact⟨_,e⟩
 |xd fs=>obtain⟨_,⟨_,_,_,e,_⟩,_⟩:=x b _ e;exact⟨_,e⟩
 |rng lo hi=>obtain⟨_,_,_,e⟩:=x b _ e;exact⟨_,e⟩
 |frz ob u=>obtain⟨e,_⟩:=x b _ e;exact⟨_,e⟩
 |tbl t=>obtain⟨_,e,_⟩:=x b _ e;exact⟨_,e⟩
 |met f y=>exact⟨_,(show h.get? b=some _ from x b _ e)⟩
 |ext φ=>obtain⟨_,⟨_,e⟩,_⟩:=x b _ e;exact⟨_,e⟩
structure Ru (X:Cx) (gV:List (Addr×Obj)) (b:Addr):Prop where
 s0:X.s₀.heap.objs.size<=b
 loc:b≠X.env.locals
 cel:∀x c,X.env.cells.lookup x=some c->c≠b
 pin:∀p∈X.pn++gV,p.1≠b
theorem P4.newer(I:P4 X gV σ H s){b:Addr}(h:s.heap.objs.size<=b):Ru X gV b:=by
 refine⟨Uv I.sz h,λz=>?_,λx c e z=>?_,λp hp z=>?_⟩
 . have:=I.lt;rw[<- z]at this;exact absurd this (Nat.not_lt.mpr h)
 . obtain⟨v,o,ho,_⟩:=I.cell x c e;have:=Up ho;rw[z]at this;exact absurd this (Nat.not_lt.mpr h)
 . have:=Up (I.pin p hp).1;rw[z]at this;exact absurd this (Nat.not_lt.mpr h)
structure zl (X:Cx) (gV:List (Addr×Obj)) (H:Hp) (s:Shared) (a:Addr) (cls:Value) (dx T:Option Addr):Prop where
 fly:Rn s.heap a cls dx T
 na:H a=none
 nt:∀t,T=some t->H t=none
 wa:Ru X gV a
 wt:∀t,T=some t->Ru X gV t
def Rv(X:Cx)(xp:Xc->Prop):Prop:=∀(gV:List (Addr×Obj))(σ:St)(H:Hp)(s:Shared)(a:Addr)(cls:Value)(dx T:Option Addr)(x:Xc),P4 X gV σ H s->zl X gV H s a cls dx T->AM X.K H cls dx x->xp x->X.xe (.ref a) s
end
theorem eE{P:Program}{w:World}{K:Frag}{mg:Str->Option Value}{base:Heap}{N:List Str}{qual:Str}{scope:Scope}{f:Addr}{cd:Value}{A:Around}{outer:List Env}{s:Shared}{H:Hp}{E:XK}{xp:Xc->Prop}
  (h:∀cls dx H' x,AM K H' cls dx x->xp x->E cls dx H'):Rv (D2 (Rt P w) P w K mg base N qual scope f cd A outer s H E) xp:=by
 intro gV σ H1 s1 a cls dx T x I R F q;show wpAny (model P w) _ (leaving _ (.ref a)) _ _ s1;unfold leaving;have hl:=I.stack;refine kS (IF (F:=s.heap.objs.size) I.ok.frames hl rfl R.fly λh' T' fl hT k1 k2=>?_);have neL:∀b o,s.heap.get? b=some o->b≠s.heap.objs.size:=λb o e=>UI (Up e);have neA:∀b o,s.heap.get? b=some o->b≠a:=λb o e=>UI (Uj (Up e) R.wa.s0);have neT:∀b o,s.heap.get? b=some o->some b≠T:=λb o e z=>absurd (Up e) (Nat.not_lt.mpr (R.wt b z.symm).s0);have tra:∀b o,H1 b=some o->b≠a/\some b≠T/\b∉PZ (envOfC qual scope s.heap.objs.size f cd::outer):=λb o e=>by refine⟨λz=>(by subst z;rw[R.na]at e;cases e),λz=>(by rw[R.nt b z.symm]at e;cases e),λz=>?_⟩;have:=I.stkFree b z;rw[e]at this;cases this
 refine⟨a,cls,dx,T',H1,rfl,I.os,I.bare,⟨λb o e n hf hx=>?_,λb o e n hf hx=>?_,λb o e n hx=>I.base.free b o e n hx,λb o e hx=>?_,I.base.tups,I.base.frzs,I.base.tbls⟩,λb o e=>?_,fl,R.na,?_,R.wa.s0,Uv I.sz hT,h cls dx H1 x F q⟩
 .
  refine k1 b o (neA b o e) (neT b o e) (λhm=>?_) (I.base.keep b o e n hf hx);rcases Uo.mp (show b∈s.heap.objs.size::PZ outer from hm)with z|z
  . exact neL b o e z
  . exact hf z
 . obtain⟨sl,e1⟩:=I.base.slot b o e n hf hx;obtain⟨sl',e2⟩:=k2 b _ (neA b o e) (neT b o e) e1;exact⟨sl',e2⟩
 . obtain⟨o',e1⟩:=I.base.there b o e hx;obtain⟨sl',e2⟩:=k2 b _ (neA b o e) (neT b o e) e1;exact⟨_,e2⟩
 .
  refine(I.hok b o e).stay (λc v hc z=>?_) (λ_ z=>z) (λ_ _ z=>z) λ_ _ _ _ z=>z
  have ht:∃o',H1 c=some o':=by
   rcases hc with rfl|hc
   . exact⟨o,e⟩
   . exact⟨_,hc⟩
  obtain⟨o',ho'⟩:=ht;obtain⟨t1,t2,t3⟩:=tra c o' ho';exact k1 c v t1 t2 t3 z
 . exact I.hok.fresh hT
abbrev Rw:=List D->(L->Prop)->(Xc->Prop)->Prop
noncomputable def Rx(K:Frag)(n:Nat)(fs:Rw):Sp:=λvs H Q E=>vs.length=n/\∃ds so xp,bC K H vs ds/\fs ds so xp/\(∀v H' r,aC K H H' [some v] [r]->so r->Q v H')/\∀cls dx H' x,AM K H' cls dx x->xp x->E cls dx H'
def rk(fs:Rw)(xp:Xc->Prop)(t:W (List L)):W L:=λZ so=>t Z λls Z1=>D3 ls λds=>fs ds (λr=>so r Z1) xp
theorem aC.ds{K:Frag}{H:Hp}:∀{vs:List V}{ds:List D},bC K H vs ds->Paired (a9 K H) (vs.map some) (ds.map .d)
 |_,_,.nil=>.nil
 |_,_,.cons h t=>.cons ⟨_,rfl,h⟩ (aC.ds t)
section
variable{X:Cx}{k n:Nat}{f:Addr}{fd:FuncData}{ps:List Str}{fs:Rw}{x:Str}{p pos:Pos}{e:Expr}{es:List Expr}{bs:List (Option Nat)}{t:W (List L)}{xp:Xc->Prop}
theorem LK{gV:List (Addr×Obj)}{σ:St}{H Pr:Hp}{s:Shared}{Z:Ev}{us:List Value}{vs:List V}{ds:List D}{so:L->Ev->Prop}{Ex:Value->Shared->Prop}(F:FnOk X.prog X.w X.K X.mg X.base (Rt X.prog X.w) k f fd ps (Rx X.K n fs))(hr:g6 k X.A)(hb:mW X.K fd ps [])(hl:vs.length=n)
  (I:P4 X gV σ H s) (E:aC X.K Pr H σ Z) (r:bT vs us) (rs:bC X.K H vs ds) (h:fs ds (λr=>so r Z) xp)
  (hx:∀(s':Shared)(H':Hp)(a:Addr)(cls:Value)(dx T:Option Addr)(y:Xc),P4 X gV σ H' s'->aC X.K Pr H' σ Z->zl X gV H' s' a cls dx T->AM X.K H' cls dx y->xp y->Ex (.ref a) s') :
  wpAny (model X.prog X.w) X.A (call (.ref f) us) (EL X gV σ Pr so) Ex s:=by
 have hsp:Rx X.K n fs vs (mS H) (λv H'=>∃r,aC X.K (mS H) H' [some v] [r]/\so r Z) (λcls dx H'=>∃y,AM X.K H' cls dx y/\xp y) :=
  ⟨hl,ds,_,xp,rs.hid,h,λv H' r E1 p=>⟨r,E1,p⟩,λcls dx H' y q1 q2=>⟨y,q1,q2⟩⟩
 have hl':us.length=ps.length:=by rw[<- r.length];exact F.len _ _ _ _ hsp
 have bt:=hb s us I.kIn (by rw[U5];exact hl');rw[U5]at bt;refine Wa (V8 (F.run X.A X.stack s (mS H) ⟨us,[]⟩ us vs _ _ hr I.hide bt r hsp) λres s' hq=>?_)
 cases res with
 | error e =>
  obtain⟨a,cls,dx,T,H',rfl,os,bare,un,hok,fl,na,nt,za,zt,y,q1,q2⟩:=hq;obtain⟨I2,ext,back⟩:=I.unhide os bare un hok;refine hx s' _ a cls dx (some T) y I2 (E.exten ext) ⟨fl,?_,λt et=>?_,I.newer za,λt et=>by cases et;exact I.newer zt⟩ (q1.ext λb o q=>dU q) q2
  . rw[kW na];exact I.hok.fresh za
  . cases et;rw[kW nt];exact I.hok.fresh zt
 | ok fl =>
  cases fl with
  | ret u =>
   obtain⟨v,H',os,bare,un,hok,rv,r,E2,p⟩:=hq;obtain⟨I2,ext,back⟩:=I.unhide os bare un hok;have E3:=E.exten ext
   have fr:∀a∈bh r,H a=none/\∃vs,H' a=some vs/\Hz vs:=λa ha=>by
    have ha':a∈owns [r]:=by rw[aK];exact Uz _ ha
    obtain⟨vs',e1,m1⟩:=E2.at_own ha';exact⟨back a _ e1 (E2.off a ha'),vs',e1,m1⟩
   refine⟨v,_,r,Z,I2,rv,⟨E3.sub,?_,λa ha=>?_,.cons ?_ E3.sl⟩,p⟩
   . rw[aK];have n1:=E2.nd;rw[aK]at n1;refine UQ.mpr ⟨(UQ.mp n1).1,E3.nd,λa ha b hb z=>?_⟩;subst z;obtain⟨vs',e1,_⟩:=E.at_own hb;rw[(fr a ha).1]at e1;cases e1
   .
    rw[aK]at ha;rcases Ur.mp ha with z|z
    .
     cases q:Pr a with
     |none=>rfl
     |some o=>have:=E.sub a o q;rw[(fr a z).1]at this;cases this
    . exact E3.off a z
   .
    have sl:=E2.sl
    cases sl with
    | cons q t =>
     exact q.pres (λb o _ e=>dU e) r λa ha=>by obtain⟨_,vs',e1,_⟩:=fr a ha;rw[dU e1,e1]
  |next=>exact False.elim hq
  |brk=>exact False.elim hq
  |cont=>exact False.elim hq
theorem Fm(F:FnOk X.prog X.w X.K X.mg X.base (Rt X.prog X.w) k f fd ps (Rx X.K n fs))(hr:g6 k X.A)(hg:Gl X x)(hm:X.mg x=some (.ref f))(hk:W.keepIn X.K (.ref f)=true)(hb:mW X.K fd ps [])(hx:Rv X xp)
  (ha:QJ X (e::es) bs t) (hn:bs.length=n) (hdb:aab x:=by decide) (he:starEach (e::es) X.env=(false,eval e X.env)::starEach es X.env:=by rfl) (hpl:(backTo pos (starEach es X.env)).any (·.1)=false:=by rfl) :
  PL X (.Call (.Name x p) (e::es) [] pos) (rk fs xp t):=by
 intro gV s σ H Pr Z so I E0 h;refine Ve (gF I hg hm ?_ hdb);refine V1 (h₀:=X.base) I.ok.mod.kin hk (P8 (ha pos gV s σ H Pr Z _ I E0 h) λus s1 h_=>h_.on λvs H1 ls Z1 I1 r hl hbl E1 hv q=>⟨I1.kIn,?_⟩) he hpl;obtain⟨ds,rfl,q1⟩:=jT q;have kz:vs.length=ds.length:=by simpa using hl
 exact LK (so:=so) F hr hb (hbl.trans hn) I1 (E1.drop (by simp[kz])) r (jU kz E1) q1 λs' H' a cls dx T y I2 _ R q1 q2=>hx gV σ H' s' a cls dx T y I2 R q1 q2
noncomputable def AN(ns:List Str)(ds:List D):List D:=if ns=[]then[]else ds
def jx(c:Str)(ns:List Str)(xp:Xc->Prop)(t:W (List L)):W Fl:=λZ _=>t Z λls _=>D3 ls λds=>(ns=[]∨ds.length=ns.length)/\ds.length<=8/\xp ⟨c,ns,AN ns ds⟩
structure XT (K:Frag) (mg:Str->Option Value) (c:Str) (C fI:Addr) (fd:FuncData) (ps:List Str) (ns:List Str):Prop where
 m:mg c=some (.ref C)
 s:jS K c C=true
 mkx:Rl K C fI
 b:mW K fd ps []
 kp:W.keepIn K (.ref C)=true
 fn:∀f∈ns,findIn K (.ref C) f=some none
def Co(K:Frag)(sp:Sp)(C:Addr)(ns:List Str)(vs:List V):Prop:=∀(e:Addr)(H:Hp)(Q:VK),H e=some (XO e (.ref C) none) ->
 (∀H2 dx,(∀b,b≠e->∀o,H b=some o->H2 b=some o)->H2 e=some (XO e (.ref C) dx)->((ns=[]/\dx=none)∨∃d,dx=some d/\d≠e/\H2 d=some (XD d (ns.zip vs))/\H d=none/\ns.length=vs.length)->Q .non H2)->sp (.ref e::vs) H Q E0
theorem IM{K:Frag}{c:Str}{C:Addr}{ns:List Str}{vs:List V}(h:jS K c C=true)(hf:∀f∈ns,findIn K (.ref C) f=some none)(hl:vs.length=ns.length):Co K (II K ns) C ns vs:=λe H Q he q=>by
 obtain⟨L,cd,S⟩:=d4 h;refine⟨e,vs,c,C,L,cd,rfl,he,S,hf,hl,λd hd hde=>q _ (some d) (λb hb o z=>?_) aT (.inr ⟨d,rfl,hde,?_,hd,hl.symm⟩)⟩
 . rw[ay hb,ay (bb z hd)];exact z
 . rw[ay hde,aT]
theorem Cp{c:Str}{C fI:Addr}{ns:List Str}{sp:Sp}{gV:List (Addr×Obj)}{σ:St}{H:Hp}{s:Shared}{us:List Value}{vs:List V}{Q:Value->Shared->Prop}(T:XT X.K X.mg c C fI fd ps ns)(F:FnOk X.prog X.w X.K X.mg X.base CX0 k fI fd ps sp)(hi:Co X.K sp C ns vs)(hr:g6 (k+1) X.A)(hz:us.length<=sizeLine)
  (I:P4 X gV σ H s) (r:bT vs us)
  (hq:∀(s':Shared)(H':Hp)(e:Addr)(dx:Option Addr),P4 X gV σ H' s'->(∀b o,H b=some o->H' b=some o)->H' e=none->s.heap.objs.size<=e->Rn s'.heap e (.ref C) dx none->((ns=[]/\dx=none)∨∃d od,dx=some d/\H' d=some (.frz od (.xd (ns.zip vs)))/\ns.length=vs.length)->Q (.ref e) s') :
  wpAny (model X.prog X.w) X.A (call (.ref C) us) Q X.xe s:=by
 obtain⟨hh,g,d0,tk,os⟩:=s;refine Nz I.kIn T.mkx hz λh' e hm hsz=>?_;obtain⟨tt,he,_,_⟩:=hm.there;have hn:H e=none:=I.hok.fresh hsz;have I1:P4 X gV σ (PR H e (XO e (.ref C) none)) ⟨h',g,d0,tk,os⟩:=I.laid (t':=tk) hm.keeps hsz (XO.ok ⟨_,_,he,v6,rfl⟩);have hsp:=hi e (PR H e (XO e (.ref C) none)) (λv H2=>v=.non/\∃dx,(∀b,b≠e->∀o,PR H e (XO e (.ref C) none) b=some o->H2 b=some o)/\H2 e=some (XO e (.ref C) dx)/\((ns=[]/\dx=none)∨∃d,dx=some d/\d≠e/\H2 d=some (XD d (ns.zip vs))/\PR H e (XO e (.ref C) none) d=none/\ns.length=vs.length)) aT λH2 dx a b c=>⟨rfl,dx,a,b,c⟩;have r2:bT (V.ref e::vs) (Value.ref e::us):=.cons rfl r;have hl:(Value.ref e::us).length=ps.length:=by rw[<- r2.length];exact F.len _ _ _ _ hsp
 have bt:=T.b _ (Value.ref e::us) I1.kIn (by rw[U5];exact hl);rw[U5]at bt;refine Wa (V8 (F.run _ X.stack _ _ ⟨Value.ref e::us,[]⟩ (Value.ref e::us) _ _ E0 (hr.make C us []) (I1.env0.make C us []) bt r2 hsp) λres s' hq'=>?_)
 cases res with
 |error x=>exact hq'.elim
 | ok fl =>
  cases fl with
  | ret u =>
   obtain⟨v,H2,I2,rv,ev,dx,kp,e2,alt⟩:=I1.after hq';subst ev;refine⟨rv,?_⟩;have fl:=I2.xo e2;have I3:=I2.forget e2
   have up:∀b o,H b=some o->Rm H2 e b=some o:=λb o q=>by
    have hb:b≠e:=λz=>by subst z;rw[hn]at q;cases q
    rw[cO hb];exact kp b hb o (by rw[ay hb];exact q)
   rcases alt with⟨z1,z2⟩|⟨d,z1,z2,z3,z4,z5⟩
   . exact hq s' _ e dx I3 up nr hsz fl (.inl ⟨z1,z2⟩)
   .
    have hd:Rm H2 e d=some (XD d (ns.zip vs)):=by rw[cO z2];exact z3
    obtain⟨mA,nA,rA,_⟩:=I2.xd z3;obtain⟨od,es,ep,hod,r1⟩:=id nA;have I4:=I3.reword (w:=.frz od (.xd (ns.zip vs))) hd (λq=>q) (λ_ q=>nomatch q) ⟨hod,mA,nA,rA⟩ (λ_ _ _ q=>nomatch q);have dn:H d=none:=by rw[ay z2]at z4;exact z4
    refine hq s' _ e dx I4 (λb o q=>?_) (by rw[ay (Vn z2)];exact nr) hsz fl (.inr ⟨d,od,z1,aT,z5⟩);rw[ay (bb q dn)];exact up b o q
  |next=>exact False.elim hq'
  |brk=>exact False.elim hq'
  |cont=>exact False.elim hq'
theorem Fn{c:Str}{C fI:Addr}{ns:List Str}{sp:Sp}{cpos:Pos}(T:XT X.K X.mg c C fI fd ps ns)(F:FnOk X.prog X.w X.K X.mg X.base CX0 k fI fd ps sp)(hi:∀vs:List V,vs.length=n->Co X.K sp C ns vs)(hr:g6 (k+1) X.A)(hg:Gl X c)(hx:Rv X xp)(ha:QJ X (e::es) bs t)(hn:bs.length=n)
  (hdb:aab c:=by decide) (he:starEach (e::es) X.env=(false,eval e X.env)::starEach es X.env:=by rfl) (hpl:(backTo cpos (starEach es X.env)).any (·.1)=false:=by rfl) :
  PM X (.Raise (some (.Call (.Name c p) (e::es) [] cpos)) none pos) (jx c ns xp t):=by
 intro gV s σ H Pr Z so I E0 h;obtain⟨LL,cd,S⟩:=d4 T.s;rw[arm_exec_Raise];refine kS (We ?_);refine LG S hr.hd (kS (U8 (Ve (gF I hg T.m ?_ hdb)) (λv s3 h3=>kS (We (Um h3))) λ_ _ z=>z));refine V1 (h₀:=X.base) I.ok.mod.kin T.kp (P8 (ha cpos gV s σ H Pr Z _ I E0 h) λus s1 h_=>h_.on λvs H1 ls Z1 I1 r hl hbl E1 hv q=>⟨I1.kIn,?_⟩) he hpl;obtain⟨ds,rfl,q0,q1,q⟩:=jT q;have kz:vs.length=ds.length:=by simpa using hl
 have rs:=jU kz E1;refine Cp T F (hi vs (hbl.trans hn)) hr (by show us.length<=sizeLine;rw[<- r.length,kz];exact Uv q1 x_) I1 r λs' H' e dx I2 up na hsz fl alt=>⟨e,dx,rfl,I2.kIn,fl,?_⟩;refine hx gV σ H' s' e _ dx none ⟨c,ns,AN ns ds⟩ I2 ⟨fl,na,(λ_ z=>nomatch z),I1.newer hsz,(λ_ z=>nomatch z)⟩ ?_ q;rcases alt with⟨z1,z2⟩|⟨d,od,z1,z2,z3⟩
 . exact⟨C,[],rfl,T.s,T.fn,.inl ⟨z1,rfl,z2⟩,by unfold AN;rw[if_pos z1];exact .nil⟩
 .
  by_cases zn:ns=[]
  .
   subst zn;have e0:vs=[]:=by cases vs with|nil=>rfl|cons _ _=>simp at z3
   subst e0;exact⟨C,[],rfl,T.s,T.fn,.inr ⟨d,od,z1,z2,z3⟩,by unfold AN;rw[if_pos rfl];exact .nil⟩
  . exact⟨C,vs,rfl,T.s,T.fn,.inr ⟨d,od,z1,z2,z3⟩,by unfold AN;rw[if_neg zn];exact rs.pres λb o _ q=>up b o q⟩
end
def Ry(so:L->Prop):Fl->Ev->Prop:=λf _=>match f with
 |.rt r=>so r
 |.nx=>so (.d .non)
 |_=>False
theorem zm{P:Program}{w:World}{K:Frag}{mg:Str->Option Value}{base:Heap}{x qual:Str}{st:Stmt}{f:Addr}{fd:FuncData}{N ps:List Str}{k:Nat}{fs:Rw}(F:QF K x qual st f fd)(S:aU N ps (au st))(t:(Xc->Prop)->W Fl)
  (hbody:∀(cdv:Value)(A:Around)(outer:List Env)(s:Shared)(H:Hp)(E:XK)(xp:Xc->Prop),g6 k (A.deeper (envOfC qual (au st) s.heap.objs.size f cdv))->(∀cls dx H' y,AM K H' cls dx y->xp y->E cls dx H') ->
   QM (D2 (Rt P w) P w K mg base N qual (au st) f cdv A outer s H E) (cL st) (t xp))
  (h:∀ds so xp,ds.length=ps.length->fs ds so xp->t xp (ds.map .d++List.replicate (N.length-ps.length) .un) (Ry so)):FnOk P w K mg base (Rt P w) (k+1) f fd ps (Rx K ps.length fs):=by
 obtain⟨oc,od,kV,doc,pm,an,cdv,ct,osl,rfl,lk,hcd⟩:=F.ex;refine Hr lk hcd S (λvs H Q E q=>q.1) λA outer s H vs Q E hr q=>?_;obtain⟨hl,ds,so,xp,rs,hf,q1,q2⟩:=q;have E0:aC K H H (vs.map some) (ds.map .d):=⟨λ_ _ e=>e,by rw[uk];exact Wg,λa ha=>(by rw[uk]at ha;simp at ha),aC.ds rs⟩;refine⟨_,(hbody cdv A outer s H E xp hr q2).pss,H,ds.map .d++List.replicate (N.length-ps.length) .un,Ry so,?_,h ds so xp (by rw[<- rs.length];exact hl) hf,λσ' H' Z' E' p=>?_,λ_ _ _ _ p=>p.elim,λ_ _ _ _ p=>p.elim,λv τ H' r Z' E' p=>?_⟩
 . unfold mX;rw[hl];exact E0.uns _
 . exact q1 .non H' (.d .non) ((⟨E'.sub,Wg,λa ha=>(by simp[owns]at ha),.nil⟩:aC K H H' [] []).cons_d .non) p
 . exact q1 v H' r (aC.left (τ:=[some v]) (lam:=[r]) E' rfl) p
section
variable{X:Cx}{gV:List (Addr×Obj)}{σ:St}{H:Hp}{s:Shared}
theorem P4.lost{n:Str}{i:Nat}{h':Heap}{t':Nat}{m m':Str->Option Value}(I:P4 X gV σ H s)(hN:X.N.Nodup)(hi:X.N[i]?=some n)(hn:s.heap.Ns X.env.locals m)(hn':h'.Ns X.env.locals m')(hm:∀y,y≠n->m' y=m y)(hs:Heap.SameBut X.env.locals s.heap h') :
  P4 X gV (σ.set i none) H {s with heap:=h',toks:=t' }:=by
 have nl:∀b o,X.s₀.heap.get? b=some o->b≠X.env.locals:=λb o e=>UI (Uj (Up e) I.ok.above);refine⟨I.ok,I.os,I.bare,⟨λb o e n hb hx=>(hs.2 b (nl b o e)).trans (I.base.keep b o e n hb hx),λb o e n hb hx=>?_,I.base.free,λb o e hx=>?_,I.base.tups,I.base.frzs,I.base.tbls⟩,⟨m',hn',λj y v e1 e2 e3=>?_⟩,λy c e=>?_,I.free,I.freeC,λp hp=>?_,λb o e=>?_,by simpa using I.len⟩
 . obtain⟨sl,e1⟩:=I.base.slot b o e n hb hx;exact⟨sl,(hs.2 b (nl b o e)).trans e1⟩
 . obtain⟨o',e1⟩:=I.base.there b o e hx;exact⟨o',(hs.2 b (nl b o e)).trans e1⟩
 .
  have hj:j≠i:=λz=>by
   subst z;have hlt:j<σ.length:=by rw[I.len];exact(Uh.mp hi).1
   rw[Vc hlt]at e2;cases e2
  rw[Vo (Vn hj)]at e2;obtain⟨m0,hn0,hl⟩:=I.loc;obtain⟨u,r,q⟩:=hl j y v e1 e2 e3;have hy:y≠n:=λz=>hj (t9 hN e1 (z ▸ hi));refine⟨u,r,?_⟩;rcases q with⟨k,e⟩|⟨k,c,e,z⟩
  . refine .inl ⟨k,?_⟩;rw[hm y hy];obtain⟨o1,es1,ep1,a1,a2,a3,a4⟩:=hn;obtain⟨o2,es2,ep2,b1,b2,b3,b4⟩:=hn0;rw[a1]at b1;cases b1;rw[a2]at b2;cases b2;rw[<- a4 y,b4 y];exact e
  . exact .inr ⟨k,c,e,z.sameBut hs (I.cne y c e)⟩
 . obtain⟨v,z⟩:=I.cell y c e;exact⟨v,z.sameBut hs (I.cne y c e)⟩
 . obtain⟨a1,a2,a3,a4⟩:=I.pin p hp;exact⟨(hs.2 _ a3).trans a1,a2,a3,a4⟩
 .
  refine(I.hok b o e).stay (λc v hc z=>(hs.2 c λq=>?_).trans z) (λ_ z=>z) (λ_ _ z=>z) λ_ _ _ _ z=>z
  have:∃o',H c=some o':=by
   rcases hc with rfl|hc
   . exact⟨o,e⟩
   . exact⟨_,hc⟩
  obtain⟨o',ho'⟩:=this;rw[q,I.free]at ho';cases ho'
theorem nu{M:Model}{A:Around}{E:Value->Shared->Prop}{n:Str}{i:Nat}{pos:Pos}{Q:Unit->Shared->Prop}(I:P4 X gV σ H s)(hN:X.N.Nodup)(hi:X.N[i]?=some n)(hl:X.env.kindOf n=some .local)(hx:P2 X.env.scope n)(hf:X.fn n=true∨X.env.scope.names.lookup n=some .local)
  (hq:∀s',P4 X gV (σ.set i none) H s'->Q () s'):wpAny M A (do bindName X.env n .none;unbindBehindTheSuite X.env n pos) Q E s:=by
 have hcls:(X.env.scope.kind == .class ||(X.env.scope.kind == .module && X.env.locals != X.env.globals))=false:=by rw[I.ok.kind];rfl
 refine kS (wpAny_bindName (kN (v:=.non) I hN hi hx rfl (λs1 I1=>?_) hf));obtain⟨m,hn,_⟩:=id I1.loc;unfold unbindBehindTheSuite;refine wpAny_onRaise ?_;unfold unbindName;refine kS (wpAny_point (kS ?_));unfold deleteName;simp only[hl,hcls];rw[if_neg (by decide)];refine kS (wpAny_nsDel_keeps hn λh2 v hn2 hs2=>?_)
 have hsome:(m n).isSome=true:=by
  obtain⟨m1,hn1,hl1⟩:=I1.loc;have hlt:i<σ.length:=by rw[I.len];exact(Uh.mp hi).1
  obtain⟨u,r,q⟩:=hl1 i n .non hi (by simp[hlt]) (hx.elim .inl λz=>.inr (.inl z));obtain⟨o1,es1,ep1,a1,a2,a3,a4⟩:=hn;obtain⟨o2,es2,ep2,b1,b2,b3,b4⟩:=hn1;rw[a1]at b1;cases b1;rw[a2]at b2;cases b2;rcases q with⟨k,e⟩|⟨k,_⟩
  . rw[<- a4 n,b4 n,e];rfl
  . rw[hl]at k;rcases k with k|k<;>cases k
 rw[hsome];simp only[if_true,Bool.not_true,Bool.false_eq_true,if_false];refine Um (wpAny_point ?_);have z:=I1.lost (t':=s1.toks) hN hi hn hn2 (λy hy=>by rw[if_neg hy]) hs2;rw[VA]at z;exact hq _ z
end
noncomputable def Rz(c y:Str):Bool:=c == y ||c == ("LoadError" : Str)
structure XH (K:Frag) (mg:Str->Option Value) (c:Str) (C:Addr):Prop where
 m:mg c=some (.ref C)
 ns:nsIn K mainGlobals c=some (some (.ref C))
 cls:∃cd,clsIn K C=some cd/\cd.name=c
 ty:typeIn K (.ref C)=some (.type "type")
 base:mroIn K C (.type "BaseException")=some true
section
variable{K:Frag}{mg:Str->Option Value}{c y:Str}{C D:Addr}
theorem XH.sub(T:XH K mg c C)(hs:jS K y D=true):mroIn K D (.ref C)=some (Rz c y):=by
 obtain⟨L,cd,S⟩:=d4 hs;obtain⟨cdC,hC,hn⟩:=T.cls;obtain⟨kL,hL,hnL⟩:=S.lname;rw[S.mroIn,yO]
 congr 1
 unfold Rz
 have e1:(C == D)=(c == y):=by
  by_cases h:c=y
  . subst h;have z:=T.ns.symm.trans S.own;cases z;simp
  . rw[UP.mpr h,UP];intro z;subst z;rw[S.cls]at hC;cases hC;exact h (hn.symm.trans S.name)
 have e2:(C == L)=(c == ("LoadError" : Str)):=by
  by_cases h:c=("LoadError" : Str)
  . subst h;have z:=T.ns.symm.trans S.load;cases z;simp
  . rw[UP.mpr h,UP];intro z;subst z;rw[hL]at hC;cases hC;exact h (hn.symm.trans hnL)
 rw[e1,e2]
theorem GQ{M:Model}{A:Around}{E:Value->Shared->Prop}{s:Shared}{a:Addr}{ox:Obj}{Q:Bool->Shared->Prop}(T:XH K mg c C)(hs:jS K y D=true)(hA:Rz c y=true)(X:K.In s.heap)(he:s.heap.get? a=some ox)(hc:ox.cls=.ref D)(hq:Q true s) :
  wpAny M A (excMatches (.ref a) (.ref C)) Q E s:=by
 obtain⟨hp,g,d,tk,os⟩:=s;have he:hp.get? a=some ox:=he;obtain⟨cd,hcd,_⟩:=T.cls;obtain⟨oc,odc,slc,hK⟩:=qN hcd;have hC:hp.get? C=some ⟨oc,odc,.cls cd,slc⟩:=X _ _ hK;have L1:Looks M hp (typeOf (.ref C)) (.type "type"):=looks_typeIn X T.ty;have L2:Looks M hp (isSubtype (.ref C) (.type "BaseException")) true:=looks_mroIn X T.base;have L3:Looks M hp (isSubtype (.ref D) (.ref C)) true:=looks_mroIn X (by rw[T.sub hs,hA]);have f:=tc_notTuple;have L4:Looks M hp (isInstance (.ref C) (.type "tuple")) false:=L1.andThen (Looks.of_pure f);have L5:Looks M hp (typeOf (.ref a)) (.ref D):=hc ▸ (Looks.ld he).andThen .now;unfold excMatches;refine kS (L4.at ?_);dsimp only;rw[if_neg (by decide)]
 repeat (first|with_reducible refine L2.at ?_|with_reducible refine L3.at ?_|with_reducible refine L5.at ?_|with_reducible refine Vb hC ?_|wp_step)
 exact hq
end
noncomputable abbrev Cx.tr(X:Cx)(gV:List (Addr×Obj))(E:Value->Shared->Prop):Cx:={X with pn:=X.pn++gV,xe:=E}
noncomputable abbrev Cx.han(X:Cx)(a:Addr):Cx:={X with A:=X.A.mark (some (.ref a)),calm:=false,xe:=λ_ _=>False}
section
variable{X:Cx}{gV pins0:List (Addr×Obj)}{σ:St}{H:Hp}{s:Shared}{E:Value->Shared->Prop}{a:Addr}
theorem Cx.Ok.tr(ok:X.Ok):(X.tr gV E).Ok:=⟨ok.mod,ok.kind,ok.glob,ok.blt,ok.above,ok.inj,ok.has,ok.cab,ok.hd,ok.frames,ok.stk,ok.exf,ok.bs,ok.bsz,ok.noex,ok.exfs,ok.funs,ok.frf,ok.tbs⟩
theorem Cx.Ok.untr(ok:(X.tr gV E).Ok):X.Ok:=⟨ok.mod,ok.kind,ok.glob,ok.blt,ok.above,ok.inj,ok.has,ok.cab,ok.hd,ok.frames,ok.stk,ok.exf,ok.bs,ok.bsz,ok.noex,ok.exfs,ok.funs,ok.frf,ok.tbs⟩
theorem P4.tr(I:P4 X gV σ H s):P4 (X.tr gV E) [] σ H s:=⟨I.ok.tr,I.os,I.bare,I.base,I.loc,I.cell,I.free,I.freeC,λp hp=>I.pin p (by simpa using hp),I.hok,I.len⟩
theorem P4.untr(I:P4 (X.tr pins0 E) gV σ H s):P4 X pins0 σ H s:=⟨I.ok.untr,I.os,I.bare,I.base,I.loc,I.cell,I.free,I.freeC,λp hp=>I.pin p (Uz _ hp),I.hok,I.len⟩
theorem P4.han(I:P4 X gV σ H s)(a:Addr):P4 (X.han a) gV σ H s :=
 ⟨⟨I.ok.mod,I.ok.kind,I.ok.glob,I.ok.blt,I.ok.above,I.ok.inj,I.ok.has,I.ok.cab,(λz=>nomatch z),I.ok.frames,I.ok.stk,I.ok.exf,I.ok.bs,I.ok.bsz,I.ok.noex,I.ok.exfs,I.ok.funs,I.ok.frf,I.ok.tbs⟩,I.os,I.bare,I.base,I.loc,I.cell,I.free,I.freeC,I.pin,I.hok,I.len⟩
theorem P4.unhan(I:P4 (X.han a) gV σ H s)(ok:X.Ok):P4 X gV σ H s:=⟨ok,I.os,I.bare,I.base,I.loc,I.cell,I.free,I.freeC,I.pin,I.hok,I.len⟩
theorem SM.unhan{Pr:Hp}{so:Fl->Ev->Prop}{f:Flow}{s':Shared}(ok:X.Ok)(h:SM (X.han a) gV Pr so f s'):SM X gV Pr so f s':=by
 cases f with
 |next=>obtain⟨σ',H',Z',I,r,r2⟩:=h;exact⟨σ',H',Z',I.unhan ok,r,r2⟩
 |brk=>obtain⟨σ',H',Z',I,r,r2⟩:=h;exact⟨σ',H',Z',I.unhan ok,r,r2⟩
 |cont=>obtain⟨σ',H',Z',I,r,r2⟩:=h;exact⟨σ',H',Z',I.unhan ok,r,r2⟩
 |ret u=>obtain⟨v,σ',H',r',Z',τ,I,r,r2,r3⟩:=h;exact⟨v,σ',H',r',Z',τ,I.unhan ok,r,r2,r3⟩
theorem SM.untr{Pr:Hp}{so:Fl->Ev->Prop}{f:Flow}{s':Shared}(h:SM (X.tr pins0 E) gV Pr so f s'):SM X pins0 Pr so f s':=by
 cases f with
 |next=>obtain⟨σ',H',Z',I,r,r2⟩:=h;exact⟨σ',H',Z',I.untr,r,r2⟩
 |brk=>obtain⟨σ',H',Z',I,r,r2⟩:=h;exact⟨σ',H',Z',I.untr,r,r2⟩
 |cont=>obtain⟨σ',H',Z',I,r,r2⟩:=h;exact⟨σ',H',Z',I.untr,r,r2⟩
 |ret u=>obtain⟨v,σ',H',r',Z',τ,I,r,r2,r3⟩:=h;exact⟨v,σ',H',r',Z',τ,I.untr,r,r2,r3⟩
end
def RA(X:Cx)(gV:List (Addr×Obj))(Pr:Hp)(xp:Xc->Ev->Prop):Value->Shared->Prop:=λe s'=>∃σ' H' Z' a cls dx T x,e=.ref a/\P4 X gV σ' H' s'/\aC X.K Pr H' σ' Z'/\zl X gV H' s' a cls dx T/\AM X.K H' cls dx x/\xp x Z'
noncomputable abbrev Cx.tb(X:Cx)(gV:List (Addr×Obj))(Pr:Hp)(xp:Xc->Ev->Prop):Cx:=X.tr gV (RA X gV Pr xp)
def Le(P Q:Hp):Prop:=∀b o,P b=some o->Q b=some o
theorem aC.le{K:Frag}{P Q H:Hp}{σ:St}{Z:Ev}(E:aC K Q H σ Z)(h:Le P Q):aC K P H σ Z:=⟨λb o e=>E.sub b o (h b o e),E.nd,λa ha=>(by
  have z:=E.off a ha
  cases q:P a with
  |none=>rfl
  |some o=>rw[h a o q]at z;cases z),E.sl⟩
def RC(X:Cx)(pins0:List (Addr×Obj))(Pr0:Hp)(xp:Xc->Ev->Prop)(e:Expr)(t:W L):Prop :=
 ∀(gV:List (Addr×Obj))(s:Shared)(σ:St)(H Pr:Hp)(Z:Ev)(so:L->Ev->Prop),Le Pr0 Pr->P4 (X.tb pins0 Pr0 xp) gV σ H s->aC X.K Pr H σ Z->t Z so->wpAny (model X.prog X.w) X.A (eval e X.env) (EL (X.tb pins0 Pr0 xp) gV σ Pr so) (RA X pins0 Pr0 xp) s
def RD(X:Cx)(pins0:List (Addr×Obj))(Pr0:Hp)(xp:Xc->Ev->Prop)(st:Stmt)(t:W Fl):Prop :=
 ∀(gV:List (Addr×Obj))(s:Shared)(σ:St)(H Pr:Hp)(Z:Ev)(so:Fl->Ev->Prop),Le Pr0 Pr->P4 (X.tb pins0 Pr0 xp) gV σ H s->aC X.K Pr H σ Z->t Z so->wpAny (model X.prog X.w) X.A (exec st X.env) (SM (X.tb pins0 Pr0 xp) gV Pr so) (RA X pins0 Pr0 xp) s
def ND(X:Cx)(pins0:List (Addr×Obj))(Pr0:Hp)(xp:Xc->Ev->Prop)(sts:List Stmt)(t:W Fl):Prop :=
 ∀(gV:List (Addr×Obj))(s:Shared)(σ:St)(H Pr:Hp)(Z:Ev)(so:Fl->Ev->Prop),Le Pr0 Pr->P4 (X.tb pins0 Pr0 xp) gV σ H s->aC X.K Pr H σ Z->t Z so->wpAny (model X.prog X.w) X.A (execs sts X.env) (SM (X.tb pins0 Pr0 xp) gV Pr so) (RA X pins0 Pr0 xp) s
def v5(fs:Rw)(xp:Xc->Ev->Prop)(t:W (List L)):W L:=λZ so=>t Z λls Z1=>D3 ls λds=>fs ds (λr=>so r Z1) (λy=>xp y Z1)
section
variable{X:Cx}{pins0:List (Addr×Obj)}{Pr0:Hp}{xp:Xc->Ev->Prop}{k n:Nat}{f:Addr}{fd:FuncData}{ps:List Str}{fs:Rw}{x:Str}{p pos:Pos}{e:Expr}{es:List Expr}{bs:List (Option Nat)}{t:W (List L)}{te:W L}{tm:W Fl}{st:Stmt}
theorem Fo(F:FnOk X.prog X.w X.K X.mg X.base (Rt X.prog X.w) k f fd ps (Rx X.K n fs))(hr:g6 k X.A)(hg:Gl X x)(hm:X.mg x=some (.ref f))(hk:W.keepIn X.K (.ref f)=true)(hb:mW X.K fd ps [])
  (ha:QJ (X.tb pins0 Pr0 xp) (e::es) bs t) (hn:bs.length=n) (hdb:aab x:=by decide) (he:starEach (e::es) X.env=(false,eval e X.env)::starEach es X.env:=by rfl) (hpl:(backTo pos (starEach es X.env)).any (·.1)=false:=by rfl) :
  RC X pins0 Pr0 xp (.Call (.Name x p) (e::es) [] pos) (v5 fs xp t):=by
 intro gV s σ H Pr Z so le I E0 h;refine Ve (gF (X:=X.tb pins0 Pr0 xp) I hg hm ?_ hdb);refine V1 (h₀:=X.base) I.ok.mod.kin hk (P8 (ha pos gV s σ H Pr Z _ I E0 h) λus s1 h_=>h_.on λvs H1 ls Z1 I1 r hl hbl E1 hv q=>⟨I1.kIn,?_⟩) he hpl;obtain⟨ds,rfl,q1⟩:=jT q;have kz:vs.length=ds.length:=by simpa using hl
 refine LK (X:=X.tb pins0 Pr0 xp) (so:=so) F hr hb (hbl.trans hn) I1 (E1.drop (by simp[kz])) r (jU kz E1) q1 λs' H' a cls dx T y I2 E2 R z1 z2=>?_;exact⟨σ,H',Z1,a,cls,dx,T,y,rfl,I2.untr,E2.le le,⟨R.fly,R.na,R.nt,⟨R.wa.s0,R.wa.loc,R.wa.cel,λp hp=>R.wa.pin p (Uz _ hp)⟩,λt et=>⟨(R.wt t et).s0,(R.wt t et).loc,(R.wt t et).cel,λp hp=>(R.wt t et).pin p (Uz _ hp)⟩⟩,z1,z2⟩
theorem zo(he:RC X pins0 Pr0 xp e te)(hs:swapsWith e none pos.line X.env=pure false:=by rfl):RD X pins0 Pr0 xp (.Expr e pos) (lb te):=by intro gV s σ H Pr Z so le I E h;exact wpAny_Expr_any (P8 (he gV s σ H Pr Z _ le I E h) λv s1 h_=>h_.on λx H1 r Z1 I1 r1 E1 q1=>⟨σ,H1,Z1,I1,E1.tail,q1⟩) I.quiet hs
theorem zp(h1:RD X pins0 Pr0 xp st tm):ND X pins0 Pr0 xp [st] tm:=by
 intro gV s σ H Pr Z so le I E h;refine wpAny_execs_cons (P8 (h1 gV s σ H Pr Z so le I E h) λf s1 q=>?_)
 cases f with
 |next=>exact VS q
 |brk=>exact q
 |cont=>exact q
 |ret u=>exact q
end
def NF(tb:(Xc->Ev->Prop)->W Fl)(c:Str)(ts:W Fl):W Fl:=λZ so=>tb (λx Z1=>Rz c x.c=true/\ts Z1 so) Z so
def Cq(tb:(Xc->Ev->Prop)->W Fl)(c:Str)(i:Nat)(ts:W Fl):W Fl:=λZ so=>tb (λx Z1=>Rz c x.c=true/\ts (Z1.set i (.d (.exc x.c x.ns x.ds))) λf Z2=>so f (Z2.set i .un)) Z so
section
variable{X:Cx}{gV:List (Addr×Obj)}{σ:St}{H:Hp}{s:Shared}
theorem P4.landed{Pr:Hp}{Z:Ev}{a:Addr}{cls:Value}{dx T:Option Addr}{h1:Heap}(I:P4 X gV σ H s)(R:zl X gV H s a cls dx T)(hstk:X.stack=X.env::X.outer)
  (k1:∀b o,b≠a->some b≠T->b∉PZ (X.env::X.outer)->s.heap.get? b=some o->h1.get? b=some o) (k2:∀b o,b≠a->some b≠T->s.heap.get? b=some o->∃sl,h1.get? b=some {o with slots:=sl}):P4 X gV σ H {s with heap:=h1}:=by
 have nch:∀b,b∉a::T.toList->b≠a/\some b≠T:=λb hb=>⟨λz=>hb (by simp[z]),λz=>hb (by simp[<- z])⟩;have tra:∀b o,H b=some o->b≠a/\some b≠T/\b∉PZ (X.env::X.outer):=λb o e=>by refine⟨λz=>(by subst z;rw[R.na]at e;cases e),λz=>(by rw[R.nt b z.symm]at e;cases e),λz=>?_⟩;have:=I.stkFree b (by rw[hstk];exact z);rw[e]at this;cases this
 refine I.call (g':=s.gens) (t':=s.toks) (d':=s.drawn) (ch:=a::T.toList) ⟨λb o e n hf hx=>?_,λb o e n hf hx=>?_,λb o e n hx=>n,λb o e hx=>?_,λ_ _ e=>e,λ_ _ _ e=>e,λ_ _ e=>e⟩ (λb o e=>?_) I.bare λb hb=>?_
 . exact k1 b o (nch b hx).1 (nch b hx).2 (by rw[<- hstk];exact hf) e
 . exact k2 b o (nch b hx).1 (nch b hx).2 e
 . obtain⟨sl,q⟩:=k2 b o (nch b hx).1 (nch b hx).2 e;exact⟨_,q⟩
 .
  refine(I.hok b o e).stay (λc v hc z=>?_) (λ_ z=>z) (λ_ _ z=>z) λ_ _ _ _ z=>z
  have ht:∃o',H c=some o':=by
   rcases hc with rfl|hc
   . exact⟨o,e⟩
   . exact⟨_,hc⟩
  obtain⟨o',ho'⟩:=ht;obtain⟨t1,t2,t3⟩:=tra c o' ho';exact k1 c v t1 t2 t3 z
 .
  have w:Ru X gV b:=by
   rcases Uo.mp hb with rfl|hb
   . exact R.wa
   . exact R.wt b (by cases T with|none=>simp at hb|some t=>simp at hb;rw[hb])
  exact⟨.inr w.s0,w.loc,w.cel,w.pin⟩
end
section
variable{X:Cx}{body suite:List Stmt}{b0:Stmt}{c:Str}{C:Addr}{p hp pos:Pos}{tb:(Xc->Ev->Prop)->W Fl}{ts:W Fl}
theorem IP(hstk:X.stack=X.env::X.outer)(hf:X.env.frame=some X.env.locals)(TC:XH X.K X.mg c C)(hg:Gl X c)(hb:∀ gV Pr xp,ND X gV Pr xp body (tb xp))(hs:∀ a,QM (X.han a) (b0::suite) ts) (hdb:aab c:=by decide) :
  PM X (.Try body [.ExceptHandler (some (.Name c p)) none (b0::suite) hp] [] [] pos) (NF tb c ts):=by
 intro gV s σ H Pr Z so I E h;refine wpAny_Try_except (U8 (hb gV Pr (λx Z1=>Rz c x.c=true/\ts Z1 so) [] s σ H Pr Z so (λ_ _ z=>z) I.tr E h) (λf s1 q=>?_) λe s1 q=>?_)
 .
  have q':=SM.untr q
  cases f with
  |next=>exact VS q'
  |brk=>exact q'
  |cont=>exact q'
  |ret u=>exact q'
 . obtain⟨σ',H',Z',a,cls,dx,T,x,rfl,I1,E1,R,F,hA,hts⟩:=q;refine IF (hstk ▸ I1.ok.frames) (hstk ▸ I1.stack) hf R.fly λh1 T1 fl hT1 k1 k2=>?_;have I2:=I1.landed (Pr:=Pr) (Z:=Z') R hstk k1 k2;have w1:=I1.newer hT1;obtain⟨D0,vs,rfl,hstd,hfq,hxf,rs⟩:=F;refine wpAny_handleBy_cons (codeAny_handlers_test (gF (I2.han a) hg TC.m ?_ hdb)) (by intro q;cases q);obtain⟨vv,sl,he,_⟩:=id fl;refine GQ TC hstd hA I2.kIn he rfl ?_;refine codeAny_handlers_suite (LH fl λh2 fl2 k3=>?_);have I3:=I2.turned (it:=T1) (t':=s1.toks) (λb o hb e=>k3 b o hb e) (I1.hok.fresh hT1) w1.loc (.inr w1.s0) w1.cel w1.pin;exact U8 (hs a gV _ σ' H' Pr Z' so (I3.han a) E1 hts) (λf s4 q=>SM.unhan I.ok q) λ_ _ z=>z.elim
theorem Fp{n:Str}{i:Nat}(hstk:X.stack=X.env::X.outer)(hf:X.env.frame=some X.env.locals)(TC:XH X.K X.mg c C)(hg:Gl X c)(hN:X.N.Nodup)(hi:X.N[i]?=some n)(hl:X.env.kindOf n=some .local)(hx:P2 X.env.scope n)(hb:∀ gV Pr xp,ND X gV Pr xp body (tb xp))(hs:∀ a,QM (X.han a) (b0::suite) ts) (hdb:aab c:=by decide)
  (hfn:X.fn n=true∨X.env.scope.names.lookup n=some .local:=by first|exact .inl rfl|exact .inr rfl|assumption) :
  PM X (.Try body [.ExceptHandler (some (.Name c p)) (some n) (b0::suite) hp] [] [] pos) (Cq tb c i ts):=by
 intro gV s σ H Pr Z so I E h;refine wpAny_Try_except (U8 (hb gV Pr (λx Z1=>Rz c x.c=true/\ts (Z1.set i (.d (.exc x.c x.ns x.ds))) λf Z2=>so f (Z2.set i .un)) [] s σ H Pr Z so (λ_ _ z=>z) I.tr E h) (λf s1 q=>?_) λe s1 q=>?_)
 .
  have q':=SM.untr q
  cases f with
  |next=>exact VS q'
  |brk=>exact q'
  |cont=>exact q'
  |ret u=>exact q'
 .
  obtain⟨σ',H',Z',a,cls,dx,T,x,rfl,I1,E1,R,F,hA,hts⟩:=q;refine IF (hstk ▸ I1.ok.frames) (hstk ▸ I1.stack) hf R.fly λh1 T1 fl hT1 k1 k2=>?_;have I2:=I1.landed (Pr:=Pr) (Z:=Z') R hstk k1 k2;have w1:=I1.newer hT1;obtain⟨D0,vs,rfl,hstd,hfq,hxf,rs⟩:=F;refine wpAny_handleBy_cons (codeAny_handlers_test (gF (I2.han a) hg TC.m ?_ hdb)) (by intro q;cases q);obtain⟨vv,sl,he,_⟩:=id fl;refine GQ TC hstd hA I2.kIn he rfl ?_;refine codeAny_handlers_suite_as (LH fl λh2 fl2 k3=>?_);have I3:=I2.turned (it:=T1) (t':=s1.toks) (λb o hb e=>k3 b o hb e) (I1.hok.fresh hT1) w1.loc (.inr w1.s0) w1.cel w1.pin;obtain⟨vv2,sl2,he2,_⟩:=id fl2;have I4:=I3.track (o:=.frz ⟨.ref D0,dx,.fields vv2,sl2⟩ (.ext λh=>h.get? a=some ⟨.ref D0,dx,.fields vv2,sl2⟩)) R.na R.wa.s0 R.wa.loc R.wa.cel R.wa.pin ⟨he2,he2,⟨_,he2⟩,λh1 h2 p k=>k _ p⟩;have pr:su H' (PR H' a (.frz ⟨.ref D0,dx,.fields vv2,sl2⟩ (.ext λh=>h.get? a=some ⟨.ref D0,dx,.fields vv2,sl2⟩))):=λb o _ e=>by rw[ay (bb e R.na)];exact e
  have rep:QH X.K (PR H' a (.frz ⟨.ref D0,dx,.fields vv2,sl2⟩ (.ext λh=>h.get? a=some ⟨.ref D0,dx,.fields vv2,sl2⟩))) (.ref a) (.exc x.c x.ns x.ds):=.exc aT True.intro rfl rfl hstd hfq (hxf.pres pr) (rs.pres pr);have E4:=(E1.new (o:=.frz ⟨.ref D0,dx,.fields vv2,sl2⟩ (.ext λh=>h.get? a=some ⟨.ref D0,dx,.fields vv2,sl2⟩)) R.na).cons_d rep;have hil:i<σ'.length:=by rw[I1.len];exact(Uh.mp hi).1
  refine kN (X:=X.han a) (I4.han a) hN hi hx (v:=.ref a) rfl (λs5 I5=>?_) hfn;refine U8 (hs a gV s5 _ _ Pr _ _ I5 (E4.store hil) hts) (λf s6 q=>?_) λ_ _ z=>z.elim
  cases f with
  | next =>
   obtain⟨σ2,H2,Z2,J,E2,q⟩:=q;exact nu (J.unhan I.ok) hN hi hl hx hfn λs7 J7=>⟨_,H2,_,J7,E2.forget i none,q⟩
  | brk =>
   obtain⟨σ2,H2,Z2,J,E2,q⟩:=q;exact nu (J.unhan I.ok) hN hi hl hx hfn λs7 J7=>⟨_,H2,_,J7,E2.forget i none,q⟩
  | cont =>
   obtain⟨σ2,H2,Z2,J,E2,q⟩:=q;exact nu (J.unhan I.ok) hN hi hl hx hfn λs7 J7=>⟨_,H2,_,J7,E2.forget i none,q⟩
  | ret u =>
   obtain⟨v,σ2,H2,r,Z2,τ,J,rv,E2,q⟩:=q;exact nu (J.unhan I.ok) hN hi hl hx hfn λs7 J7=>⟨v,_,H2,r,_,_,J7,rv,E2.forget (i+1) none,q⟩
end
noncomputable def RE(c:Str):D->Bool
 |.exc y _ _=>Rz c y
 |_=>false
def Fq(c:Str):D->(L->Prop)->Prop:=λd k=>k (.d (.bl (RE c d)))
def zr(cs:List Str):D->(L->Prop)->Prop:=λd k=>k (.d (.bl (cs.any λc=>RE c d)))
theorem Cr{K:Frag}{mg:Str->Option Value}{c:Str}{C:Addr}(T:XH K mg c C)(d:D)(t:Value)(h:Q4 K d t):kitOne K t (.ref C)=some (RE c d):=by
 obtain⟨cd,hcd,_⟩:=T.cls;have hk:((clsIn K C).isSome && typeIn K (.ref C) == some (.type "type"))=true:=by rw[hcd,T.ty]; rfl
 unfold kitOne kitCls;dsimp only;rw[if_pos hk]
 cases d with
 | exc y ns xs =>
  obtain⟨D0,rfl,hs⟩:=h;have hsub:=T.sub hs;by_cases q:D0=C
  .
   subst q;rw[if_pos (by simp)];have e1:mroIn K D0 (.ref D0)=some true:=by obtain⟨L,cd',S⟩:=d4 hs;rw[S.mroIn,yO];simp
   rw[hsub]at e1;exact e1.symm
  . rw[if_neg (by intro z;exact q (Value.ref.inj (Wj.mp z)))];exact hsub
 |_=>cases h;rfl
section
variable{X:Cx}{a:Expr}{ta:W L}{pos p:Pos}
theorem LM{c:Str}{C:Addr}{py:Pos}(T:XH X.K X.mg c C) (hg:Gl X "isinstance") (hm:X.mg "isinstance"=none) (hy:Gl X c) (ha:PL X a ta) (hdy:aab c:=by decide)
  (h1:starEach [a,.Name c py] X.env=(false,eval a X.env)::starEach [.Name c py] X.env:=by rfl) (h2:starEach [.Name c py] X.env=[(false,eval (.Name c py) X.env)]:=by rfl) (hpl:(backTo pos (starEach [.Name c py] X.env)).any (·.1)=false:=by rfl) :
  PL X (.Call (.Name "isinstance" p) [a,.Name c py] [] pos) (QU (Fq c) ta):=by
 have cr:iH X (.builtin "isinstance") (λxs H Q=>∃ x d,xs=[x,.ref C]/\QH X.K H x d/\Q (.bl (RE c d)) H):=by intro gV s σ H xs us Q I rv h;obtain⟨x,d,rfl,r,q⟩:=h;obtain⟨u,w,rfl,r1,r2⟩:=Al rv;cases r2;exact yZ I r1 r (λt ht=>Cr T d t ht) λtk=>⟨.bl _,H,I.tok _,rfl,q⟩
 refine PL.of (qz cr hg hm y_ (bE (aA ha).pe (bE (xr hy T.m (v:=.ref C) rfl hdy) eX h2) h1) (he:=h1) (hpl:=hpl)) λσ H Pr Z so E h=>?_
 refine⟨Pr,Z,λr Z1=>match r with
  |.d x=>Fq c x λr=>so r Z1
  |_=>False,E,h,λv H' r Z' E' p=>?_⟩
 cases r with
 | d x =>
  obtain⟨_,e1,p1⟩:=E'.head_d;cases e1;exact⟨_,x,rfl,p1,_,Z',E'.tail.cons_d (.bl _),p⟩
 |_=>exact p.elim
end
noncomputable def Ow(f:Str):D->Option D
 |.exc _ ns ds=>(ns.zip ds).lookup f
 |_=>none
def AO(f:Str):D->(L->Prop)->Prop:=λd k=>match Ow f d with
 |some v=>k (.d v)
 |none=>False
theorem tE{α:Type}{f:Str}:∀{ns:List Str}{ds:List α}{v:α},(ns.zip ds).lookup f=some v->f∈ns
 | n::ns,d::ds,v,h=>by
  simp only[VB,List.lookup]at h;split at h
  . rename_i q;rw[Wj.mp q];exact Ui
  . exact Ud _ (tE h)
 |[],_,_,h=>by simp at h
 |_::_,[],_,h=>by simp at h
theorem rl{K:Frag}{H:Hp}{f:Str}:∀{ns:List Str}{vs:List V}{ds:List D}{d:D},ns.length=vs.length->bC K H vs ds->(ns.zip ds).lookup f=some d->∃v,(ns.zip vs).lookup f=some v/\QH K H v d
 | n::ns,v::vs,_,d,hl,.cons r t,h=>by
  simp only[VB,List.lookup]at h ⊢;split at h
  . cases h;exact⟨v,rfl,r⟩
  . exact rl (by simpa using hl) t h
 |[],_,_,_,_,_,h=>by simp at h
 |_::_,[],_,_,hl,_,_=>by simp at hl
theorem AQ{v:V}{u:Value}(r:bS v u):handedIn u=true:=by
 cases v with
 |non=>cases r;rfl
 |bl b=>cases r;rfl
 |int i=>obtain⟨t,rfl⟩:=r;rfl
 |str i=>obtain⟨t,rfl⟩:=r;rfl
 |byt i=>obtain⟨t,rfl⟩:=r;rfl
 |flt i=>obtain⟨t,rfl⟩:=r;rfl
 |ref a=>cases r;rfl
 |ty n=>cases r;rfl
section
variable{X:Cx}{e a:Expr}{te ta:W L}{f:Str}{pos p:Pos}
theorem GR(he:PL X e te)(hb:attributeBase e f X.env (eval e X.env)=eval e X.env:=by rfl):PL X (.Attribute e f pos) (QU (AO f) te):=by
 intro gV s σ H Pr Z so I E h;refine Hq hb (P8 (he gV s σ H Pr Z _ I E h) λu s1 q=>?_);obtain⟨x,H1,dx,Z1,I1,r1,E1,q1⟩:=EL.frz (so:=λdx Z1=>AO f dx λr=>so r Z1) q;obtain⟨_,e1,p1⟩:=E1.head_d;cases e1;unfold AO at q1;split at q1
 .
  rename_i v hv
  cases p1 with
  | @exc a o w cc C ns vs ds h1 hvv hc hn hs hq hf rs =>
   cases r1;have hv:(ns.zip ds).lookup f=some v:=hv;obtain⟨L0,cd,S⟩:=d4 hs;rcases id hf with⟨z1,z2,z3⟩|⟨d,od,z1,z2,z3⟩
   . subst z1;simp at hv
   .
    obtain⟨v',hl,rv⟩:=rl z3 rs hv;obtain⟨hod,mA,nA,rA⟩:=(show s1.heap.get? d=some od/\∃mA,s1.heap.Ns1 d mA/\∀g,xq ((ns.zip vs).lookup g) (mA g)from I1.hok d _ z2);have ro:=rA f;rw[hl]at ro
    cases hm:mA f with
    |none=>rw[hm]at ro;exact ro.elim
    | some u0 =>
     rw[hm]at ro;obtain⟨od',hod',hlk⟩:=Bw nA;rw[hod]at hod';cases hod';obtain⟨oi,Ia,hoi⟩:=uu I1 h1 hc hn hf;obtain⟨q0,e0,e0'⟩:=hoi d z1;rw[hod]at e0';cases e0';subst e0;have hfo:=S.fown (name:=f) (o:=od) (v:=u0) (hq f (tE hv)) ((hlk f).trans (by rw[hm]));have hh:handedIn u0=true:=AQ ro;exact BK S I1.kIn Ia hfo hh ⟨v',H1,.d v,Z1,I1.tok _,ro,E1.tail.cons_d rv,q1⟩
  |_=>cases hv
 . exact q1.elim
structure M5 (X:Cx) (es:List Expr) (cs:List Str) (Cs:List Addr):Prop where
 pa:PA X es (λ_ H Q=>Q (Cs.map V.ref) H)
 h:Paired (λc C=>XH X.K X.mg c C) cs Cs
theorem IQ:M5 X [] [] []:=⟨eX,.nil⟩
theorem qE{c:Str}{C:Addr}{py:Pos}{es:List Expr}{cs:List Str}{Cs:List Addr}(T:XH X.K X.mg c C)(hy:Gl X c)(h:M5 X es cs Cs) (hdy:aab c:=by decide) (hs:starEach (.Name c py::es) X.env=(false,eval (.Name c py) X.env)::starEach es X.env:=by rfl):M5 X (.Name c py::es) (c::cs) (C::Cs) :=
 ⟨bE (xr hy T.m (v:=.ref C) rfl hdy) h.pa hs,.cons T h.h⟩
theorem zu{K:Frag}{mg:Str->Option Value}{d:D}{t:Value}(ht:Q4 K d t):∀{cs:List Str}{Cs:List Addr},Paired (λc C=>XH K mg c C) cs Cs->kitAny K t (Cs.map Value.ref)=some (cs.any λc=>RE c d)
 |_,_,.nil=>rfl
 | c::cs,C::Cs,.cons T r=>by
  have ih:=zu ht r;simp only[UC,VL];unfold kitAny;rw[Cr T d t ht];cases RE c d
  . exact ih
  . rfl
theorem Ct{Cs:List Addr}:∀{us:List Value},bT (Cs.map V.ref) us->us=Cs.map Value.ref:=by
 induction Cs with
 |nil=>intro us h;cases h;rfl
 |cons C Cs ih=>intro us h;cases h with|cons r t=>cases r;rw[ih t];rfl
theorem IR{es:List Expr}{cs:List Str}{Cs:List Addr} {x1} {tpos:Pos} (T:M5 X es cs Cs) (hg:Gl X "isinstance") (hm:X.mg "isinstance"=none) (ha:PL X a ta) (hz:Cs.length<=30:=by decide)
  (h1:starEach [a,.Tuple es x1 tpos] X.env=(false,eval a X.env)::starEach [.Tuple es x1 tpos] X.env:=by rfl) (h2:starEach [.Tuple es x1 tpos] X.env=[(false,eval (.Tuple es x1 tpos) X.env)]:=by rfl)
  (hpl:(backTo pos (starEach [.Tuple es x1 tpos] X.env)).any (·.1)=false:=by rfl) :
  PL X (.Call (.Name "isinstance" p) [a,.Tuple es x1 tpos] [] pos) (QU (zr cs) ta):=by
 have cr:iH X (.builtin "isinstance") (λxs H Q=>∃ x d q,xs=[x,.ref q]/\H q=some (.tup (Cs.map V.ref))/\QH X.K H x d/\Q (.bl (cs.any λc=>RE c d)) H):=by intro gV s σ H xs us Q I rv h;obtain⟨x,d,q,rfl,hq,r,k⟩:=h;obtain⟨u,w,rfl,r1,r2⟩:=Al rv;cases r2;obtain⟨its,vs,it,_⟩:=I.tuple (Qb.of hq);obtain rfl:=Ct vs;exact Cj I r1 r it (λt ht=>zu ht T.h) λtk=>⟨.bl _,H,I.tok _,rfl,k⟩
 refine PL.of (qz cr hg hm y_ (bE (aA ha).pe (bE (KQ T.pa) eX h2) h1) (he:=h1) (hpl:=hpl)) λσ H Pr Z so E h=>?_
 refine⟨Pr,Z,λr Z1=>match r with
  |.d x=>zr cs x λr=>so r Z1
  |_=>False,E,h,λv H' r Z' E' pp=>?_⟩
 cases r with
 | d x =>
  obtain⟨_,e1,p1⟩:=E'.head_d;cases e1;refine⟨by rw[tu];exact Uv hz x_,λq hq=>⟨_,x,q,rfl,aT,p1.new hq,_,Z',(E'.tail.new hq).cons_d (.bl _),pp⟩⟩
 |_=>exact pp.elim
end
theorem GS{X:Cx}:Rv X (λ_=>False):=λ_ _ _ _ _ _ _ _ _ _ _ _ h=>h.elim
section
variable{X:Cx}{k k' n:Nat}{f:Addr}{fd:FuncData}{ps:List Str}{fs:Rw}{g:Str}{st:Stmt}{e:Expr}{es:List Expr}{bs:List (Option Nat)}{t:W (List L)}{p pos cpos:Pos}{xp:Xc->Prop}{c:Str}{C fI:Addr}{ns:List Str}
theorem zv(F:FnOk X.prog X.w X.K X.mg X.base (Rt X.prog X.w) k f fd ps (Rx X.K n fs))(T:FX X.K X.mg g st f fd ps)(hr:g6 k' X.A)(hx:Rv X xp)(ha:QJ X (e::es) bs t)(hk:k<=k':=by decide)(hg:Gl X g:=by rfl)(hn:bs.length=n:=by rfl) (hdb:aab g:=by decide) (he:starEach (e::es) X.env=(false,eval e X.env)::starEach es X.env:=by rfl) (hpl:(backTo pos (starEach es X.env)).any (·.1)=false:=by rfl) :
  PL X (.Call (.Name g p) (e::es) [] pos) (rk fs xp t):=Fm F (hr.mono hk) hg T.m T.f.kp T.b hx ha hn hdb he hpl
theorem GT{pins0:List (Addr×Obj)}{Pr0:Hp}{xt:Xc->Ev->Prop}(F:FnOk X.prog X.w X.K X.mg X.base (Rt X.prog X.w) k f fd ps (Rx X.K n fs))(T:FX X.K X.mg g st f fd ps)(hr:g6 k' X.A)(ha:QJ (X.tb pins0 Pr0 xt) (e::es) bs t)(hk:k<=k':=by decide)(hg:Gl X g:=by rfl)(hn:bs.length=n:=by rfl) (hdb:aab g:=by decide) (he:starEach (e::es) X.env=(false,eval e X.env)::starEach es X.env:=by rfl) (hpl:(backTo pos (starEach es X.env)).any (·.1)=false:=by rfl) :
  RC X pins0 Pr0 xt (.Call (.Name g p) (e::es) [] pos) (v5 fs xt t):=Fo F (hr.mono hk) hg T.m T.f.kp T.b ha hn hdb he hpl
theorem cW(T:XT X.K X.mg c C fI fd ps ns)(F:FnOk X.prog X.w X.K X.mg X.base CX0 2 fI fd ps (II X.K ns))(hr:g6 k' X.A)(hx:Rv X xp)(ha:QJ X (e::es) bs t)(hk:3<=k':=by decide)(hg:Gl X c:=by rfl)(hn:bs.length=ns.length:=by rfl)
  (hdb:aab c:=by decide) (he:starEach (e::es) X.env=(false,eval e X.env)::starEach es X.env:=by rfl) (hpl:(backTo cpos (starEach es X.env)).any (·.1)=false:=by rfl) :
  PM X (.Raise (some (.Call (.Name c p) (e::es) [] cpos)) none pos) (jx c ns xp t) :=
 Fn T F (λvs hv=>IM T.s T.fn hv) (hr.mono hk) hg hx ha hn hdb he hpl
noncomputable abbrev RF(g q:Str)(st:Stmt)(md:Value)(c:Nat):FuncData:=W.fnOf g q (jR st) (cL st) (au st) .none .none .none md none (.ref c) .none
theorem Cn.mk'{K:Frag}{mg:Str->Option Value}{h:Heap}(X:K.In h)(G:h.Ns mainGlobals mg){L fL:Addr}{st:Stmt}{md:Value}{c:Nat} (e1:nsIn K mainGlobals "LoadError"=some (some (.ref L))) (e2:readsIn K L (.type "type")=true) (e3:specialIn K (.ref L) "__getattribute__"=some (some (.builtin "type.__getattribute__")))
  (e4:findCls K (.ref L) (.type "type") "__init__"=some (.val (.ref fL))) (e5:K.lookup fL=some ⟨.type "function",none,.func (RF "__init__" "LoadError.__init__" st md c),#[]⟩) (e6:codeIn K (.ref c) "LoadError.__init__"=true) (e7:keepIn K (.ref fL)=true)
  (e8:∀(kV doc pm:Value)(an:Option Addr)(cdv ct:Value)(us:List Value),us.length=2->bindArgs (W.fnOf "__init__" "LoadError.__init__" (jR st) (cL st) (au st) .none kV doc pm an cdv ct) ⟨us,[]⟩=pure ((["self","text"]:List Str).zip us)):Cn K mg L fL (RF "__init__" "LoadError.__init__" st md c) st :=
 ⟨mg_of X G e1,e2,e3,e4,pS e5 e6 e7,(pS e5 e6 e7).binds e8⟩
theorem XT.mk'{K:Frag}{mg:Str->Option Value}{h:Heap}(X:K.In h)(G:h.Ns mainGlobals mg){c:Str}{C fI:Addr}{fd:FuncData}{ps ns:List Str}(e1:nsIn K mainGlobals c=some (some (.ref C)))(e2:jS K c C=true)(e3:IE K C fI=true)(b:mW K fd ps [])(e4:keepIn K (.ref C)=true)(e5:(ns.all λf=>findIn K (.ref C) f == some none)=true):XT K mg c C fI fd ps ns :=
 ⟨mg_of X G e1,e2,LF e3,b,e4,λf hf=>Wj.mp (US.mp e5 f hf)⟩
theorem XH.mk'{K:Frag}{mg:Str->Option Value}{h:Heap}(X:K.In h)(G:h.Ns mainGlobals mg){c:Str}{C:Addr}(e1:nsIn K mainGlobals c=some (some (.ref C)))(e2:((clsIn K C).any λcd=>cd.name == c)=true) (e3:typeIn K (.ref C)=some (.type "type")) (e4:mroIn K C (.type "BaseException")=some true):XH K mg c C :=
 ⟨mg_of X G e1,e1,(let ⟨cd,h1,h2⟩:=any_some e2;⟨cd,h1,Wj.mp h2⟩),e3,e4⟩
theorem Fs{K:Frag}:∀vs H Q E,M4 K vs H Q E->vs.length=2:=λ_ _ _ _ ⟨_,_,_,_,_,_,e,_⟩=>by rw[e];rfl
theorem zw{K:Frag}{ns:List Str}:∀vs H Q E,II K ns vs H Q E->vs.length=ns.length+1:=λ_ _ _ _ ⟨_,_,_,_,_,_,e,_,_,_,l,_⟩=>by rw[e,Uk,l]
end
end L2
namespace L2
open PySem PySem.Spec PyProof.Rows
section
variable{κ:Type}[DecidableEq κ]
noncomputable def GU(kvs:List (κ×V))(k:κ):Option V:=(kvs.find? λkv=>decide (kv.1=k)).map (·.2)
noncomputable def GV(kvs:List (κ×V))(k:κ)(v:V):List (κ×V) :=
 if(kvs.any λkv=>decide (kv.1=k))=true then kvs.map (λkv=>if kv.1=k then(kv.1,v)else kv)else kvs++[(k,v)]
theorem zx{p:κ×V}{r:List (κ×V)}{k:κ}(e:p.1=k):GU (p::r) k=some p.2:=by simp[GU,List.find?_cons,e]
theorem zy{p:κ×V}{r:List (κ×V)}{k:κ}(e:¬p.1=k):GU (p::r) k=GU r k:=by simp[GU,List.find?_cons,e]
theorem yb(kvs:List (κ×V))(k:κ)(v:V):(GV kvs k v).length<=kvs.length+1:=by
 unfold GV;split
 . rw[tu];omega
 . rw[Ue,Uk,UA];omega
theorem xq.isSome_eq{o:Option V}{u:Option Value}(r:xq o u):o.isSome=u.isSome:=by
 cases o with
 | none=>cases u with
  |none=>rfl
  |some _=>exact(show False from r).elim
 | some _=>cases u with
  |none=>exact(show False from r).elim
  |some _=>rfl
theorem KV.val{kvs:List (κ×V)}{vs:List (κ×Value)}(r:KV kvs vs)(k:κ):xq (GU kvs k) (valueAt vs k):=by
 unfold KV at r
 induction r with
 |nil=>exact True.intro
 | @cons p q ps qs h t ih =>
  obtain⟨h1,h2⟩:=h;by_cases e:p.1=k
  .
   have e':q.1=k:=h1.symm.trans e;have b:valueAt (q::qs) k=some q.2:=by simp[valueAt,List.find?_cons,e']
   rw[zx e,b];exact h2
  .
   have e':¬q.1=k:=λz=>e (h1.trans z);have b:valueAt (q::qs) k=valueAt qs k:=by simp[valueAt,List.find?_cons,e']
   rw[zy e,b];exact ih
theorem KV.any{kvs:List (κ×V)}{vs:List (κ×Value)}(r:KV kvs vs)(k:κ):(kvs.any λkv=>decide (kv.1=k))=vs.any λkv=>decide (kv.1=k):=by
 unfold KV at r
 induction r with
 |nil=>rfl
 |cons h t ih=>rw[VL,VL,ih,h.1]
theorem KV.repl{kvs:List (κ×V)}{vs:List (κ×Value)}(r:KV kvs vs)(k:κ){y:V}{u:Value}(ry:bS y u) :
  KV (kvs.map λkv=>if kv.1=k then(kv.1,y)else kv) (vs.map λkv=>if kv.1=k then(kv.1,u)else kv):=by
 unfold KV at r ⊢
 induction r with
 |nil=>exact .nil
 | @cons p q ps qs h t ih =>
  rw[UC,UC];refine .cons ?_ ih;obtain⟨h1,h2⟩:=h;by_cases e:p.1=k
  . rw[if_pos e,if_pos (h1.symm.trans e)];exact⟨h1,ry⟩
  . rw[if_neg e,if_neg (λz=>e (h1.trans z))];exact⟨h1,h2⟩
theorem KV.put{kvs:List (κ×V)}{vs:List (κ×Value)}(r:KV kvs vs)(k:κ){y:V}{u:Value}(ry:bS y u):KV (GV kvs k y) (stored vs k u):=by
 unfold GV stored;rw[r.any k];by_cases e:(vs.any λkv=>decide (kv.1=k))=true
 . rw[if_pos e,if_pos e];exact r.repl k ry
 . rw[if_neg e,if_neg e];exact Paired.snoc r ⟨rfl,ry⟩
theorem KV.length{kvs:List (κ×V)}{vs:List (κ×Value)}(r:KV kvs vs):kvs.length=vs.length:=Paired.length r
end
theorem Cu{P:Program}{w:World}{k:PQ}{u:Value}(r:bS (kV k) u):(jP P w).is k u=true:=by
 cases k with
 |inl i=>obtain⟨t,e⟩:=(show ∃t,u=Value.int i t from r);subst e;exact xm P w i t
 |inr x=>obtain⟨t,e⟩:=(show ∃t,u=Value.str x t from r);subst e;exact xn P w x t
def Ox(i:Expr):Prop:=∀ov iv,subscripted i false ov iv=operate [ov,iv] (getItem ov iv)
theorem IS{prog:Program}{w:World}{A:Around}{E:Value->Shared->Prop}{s:Shared}{env:Env}{value slice:Expr}{pos:Pos}{T id:String}{Q:Value->Shared->Prop}
  (hl:typeLookup (.type T) "__getitem__"=pure (some (.builtin id))) (hs:Ox slice)
  (h:wpAny (model prog w) A (eval value env) (λo s₁=>wpAny (model prog w) A (eval slice env) (λi s₂=>s₂.TypeIs o T/\wpAny (model prog w) A (getItem o i) Q E s₂) E s₁) E s) :
  wpAny (model prog w) A (eval (.Subscript value slice pos) env) Q E s:=by
 refine Subscript_ (U8 h (λo s₁ h₁=>U8 h₁ (λi s₂ h₂=>?_) λ_ _ x=>x) λ_ _ x=>x);obtain⟨hT,h₂⟩:=h₂;unfold subscriptTail;refine kS ?_;rw[getitemInPython_of_ne hT.not_modules];refine kS (wpAny_specialOf hT hl ?_);have fin:wpAny (model prog w) A (subscripted slice false o i) (λr s₃=>wpAny (model prog w) A (letTemporaryGo value o r >>= λ_=>pure r) Q E s₃) E s₂:=by rw[hs o i];exact wpAny_operating (U8 h₂ (λr s₃ h₃=>kS (wpAny_letTemporaryGo (Um h₃))) λ_ _ x=>x)
 first
  |exact Um (kS fin)
  |exact kS (Um (kS fin))
  |exact kS fin
abbrev DR(K:W.Frag)(H:Hp):List (PQ×V)->List (PQ×D)->Prop:=Paired λ(p:PQ×V) (q:PQ×D)=>p.1=q.1/\QH K H p.2 q.2
noncomputable def zA(kvs:List (PQ×D))(k:PQ):Option D:=match kvs with
 |[]=>none
 |p::r=>if p.1=k then some p.2 else zA r k
noncomputable def IT(kvs:List (PQ×D))(k:PQ)(d:D):List (PQ×D):=if(kvs.any λp=>decide (p.1=k))=true then kvs.map (λp=>if p.1=k then(p.1,d)else p)else kvs++[(k,d)]
theorem DR.val{K:W.Frag}{H:Hp}{k:PQ}:∀{vs:List (PQ×V)}{kvs:List (PQ×D)},DR K H vs kvs->(zA kvs k=none/\GU vs k=none)∨∃d v,zA kvs k=some d/\GU vs k=some v/\QH K H v d
 |_,_,.nil=>.inl ⟨rfl,rfl⟩
 | p::vs,q::kvs,.cons h t=>by
  by_cases e:p.1=k
  . refine .inr ⟨q.2,p.2,?_,zx e,h.2⟩;unfold zA;rw[if_pos (h.1.symm.trans e)]
  . have e':¬q.1=k:=λz=>e (h.1.trans z);rw[zy e];unfold zA;rw[if_neg e'];exact DR.val t
theorem DR.any{K:W.Frag}{H:Hp}{k:PQ}:∀{vs:List (PQ×V)}{kvs:List (PQ×D)},DR K H vs kvs->(vs.any λp=>decide (p.1=k))=kvs.any λp=>decide (p.1=k)
 |_,_,.nil=>rfl
 |p::vs,q::kvs,.cons h t=>by rw[VL,VL,DR.any t,h.1]
theorem DR.repl{K:W.Frag}{H:Hp}{k:PQ}{v:V}{d:D}(r:QH K H v d):∀{vs:List (PQ×V)}{kvs:List (PQ×D)},DR K H vs kvs->DR K H (vs.map λp=>if p.1=k then(p.1,v)else p) (kvs.map λp=>if p.1=k then(p.1,d)else p)
 |_,_,.nil=>.nil
 | p::vs,q::kvs,.cons h t=>by
  rw[UC,UC];refine .cons ?_ (DR.repl r t);by_cases e:p.1=k
  . rw[if_pos e,if_pos (h.1.symm.trans e)];exact⟨h.1,r⟩
  . rw[if_neg e,if_neg λz=>e (h.1.trans z)];exact h
theorem DR.put{K:W.Frag}{H:Hp}{k:PQ}{v:V}{d:D}{vs:List (PQ×V)}{kvs:List (PQ×D)}(h:DR K H vs kvs)(r:QH K H v d):DR K H (GV vs k v) (IT kvs k d):=by
 unfold GV IT;rw[h.any];split
 . exact h.repl r
 . exact Paired.app h (.cons ⟨rfl,r⟩ .nil)
theorem DR.pres{K:W.Frag}{H H':Hp}(p:su H H'){vs:List (PQ×V)}{kvs:List (PQ×D)}(h:DR K H vs kvs):DR K H' vs kvs:=Paired.mapP h λ_ _ z=>⟨z.1,z.2.pres p⟩
def sG(d:D)(k:PQ->Prop):Prop:=match d with
 |.int i=>k (.inl i)
 |.str x=>k (.inr x)
 |_=>False
theorem uE{K:W.Frag}{H:Hp}{v:V}{d:D}{u:Value}{k:PQ->Prop}(h:sG d k)(r:QH K H v d)(rv:bS v u):∃key,v=kV key/\bS (kV key) u/\k key:=by
 cases r with
 |int i=>exact⟨.inl i,rfl,rv,h⟩
 |str x=>exact⟨.inr x,rfl,rv,h⟩
 |_=>exact h.elim
def zB(i:Nat)(Z:Ev)(k:Addr->List (PQ×D)->Prop):Prop:=match Z[i]? with
 |some (.dic a kvs)=>k a kvs
 |_=>False
theorem rm{i:Nat}{Z:Ev}{k:Addr->List (PQ×D)->Prop}(h:zB i Z k):∃a kvs,Z[i]?=some (.dic a kvs)/\k a kvs:=by
 unfold zB at h
 cases q:Z[i]? with
 |none=>rw[q]at h;exact h.elim
 | some l =>
  rw[q]at h
  cases l with
  |dic a kvs=>exact⟨a,kvs,rfl,h⟩
  |_=>exact h.elim
section
variable{K:W.Frag}{Pr H:Hp}{σ:St}{Z:Ev}{a:Addr}{kvs ks:List (PQ×D)}
theorem aC.dicAt{i:Nat}(E:aC K Pr H σ Z)(q:Z[i]?=some (.dic a kvs)):σ[i]?=some (some (.ref a))/\∃vs,H a=some (.dK vs)/\DR K H vs kvs:=by obtain⟨sv,hs,sl⟩:=E.slot q;unfold a9 at sl;obtain⟨rfl,r⟩:=sl;exact⟨hs,r⟩
theorem cX:owns (.dic a kvs::Z)=a::owns Z:=rfl
theorem aC.cons_dic(E:aC K Pr H σ Z){vs:List (PQ×V)}(h:H a=none)(r:DR K H vs kvs):aC K Pr (PR H a (.dK vs)) (some (.ref a)::σ) (.dic a kvs::Z):=by
 have E':=E.new (o:=.dK vs) h;refine⟨E'.sub,?_,λb hb=>?_,.cons ?_ E'.sl⟩
 . rw[cX];refine UN.mpr ⟨λhm=>?_,E.nd⟩;obtain⟨us,e,_⟩:=E.at_own hm;rw[h]at e;cases e
 .
  rw[cX]at hb;rcases Uo.mp hb with rfl|hb
  .
   cases q:Pr b with
   |none=>rfl
   |some u=>rw[E.sub b u q]at h;cases h
  . exact E.off b hb
 . unfold a9;exact⟨rfl,vs,aT,r.pres λb u _ e=>by rw[ay (bb e h)];exact e⟩
theorem aC.writeD(E:aC K Pr H σ (.dic a kvs::Z)){vs:List (PQ×V)}(r:DR K H vs ks):aC K Pr (PR H a (.dK vs)) σ (.dic a ks::Z):=by
 have pa:Pr a=none:=E.off a (by rw[cX];exact Ui);have nd:=E.nd;rw[cX]at nd;obtain⟨hn,nd'⟩:=UN.mp nd;obtain⟨us,ha,mu⟩:=E.at_own (a:=a) (by rw[cX];exact Ui);have p:su H (PR H a (.dK vs)):=λb u pu e=>by rw[ay];exact e;rintro rfl;rw[ha]at e;cases e;exact mu.no pu
 refine⟨λb u e=>?_,nd,λb hb=>E.off b hb,?_⟩
 . rw[ay];exact E.sub b u e;rintro rfl;rw[pa]at e;cases e
 .
  have sl:=E.sl
  cases sl with
  | cons q t =>
   unfold a9 at q;obtain⟨e,_⟩:=q;refine .cons ?_ (Paired.impMem t λl hl s z=>z.pres p l λb hbm=>?_)
   . unfold a9;exact⟨e,vs,aT,r.pres p⟩
   . rw[ay];rintro rfl;exact hn (gp.mpr ⟨l,hl,hbm⟩)
theorem aC.updDic{i:Nat}(E:aC K Pr H σ Z)(q:Z[i]?=some (.dic a kvs)){vs:List (PQ×V)}(r:DR K H vs ks):aC K Pr (PR H a (.dK vs)) σ (Z.set i (.dic a ks)):=by have hs:=(E.dicAt q).1;have hi:i<Z.length:=(Uh.mp q).1;have E1:=(E.outL q hs).writeD r;have E2:=E1.back (i:=i) (by simp[hi]) hs;rw[VA]at E2;exact E2
end
section
variable{X:Cx}{b e:Expr}{pos p:Pos}{tb te:W L}{x:Str}
theorem P4.dicOk{gV:List (Addr×Obj)}{σ:St}{H:Hp}{s:Shared}{a:Addr}{vs:List (PQ×V)}(I:P4 X gV σ H s)(h:H a=some (.dK vs)):vs.length<=sizeLine/\(a == sysModules)=false/\∃us,KV vs us/\s.heap.DictOf (jP X.prog X.w) a us:=I.hok a _ h
def LN(i:Nat)(tb:W L):W L:=λZ so=>zB i Z λ_ _=>tb Z λr Z1=>QN r λkd=>sG kd λkey=>zB i Z1 λ_ kvs=>∃y,zA kvs key=some y/\so (.d y) Z1
theorem NG(i:Nat)(hb:PL X b tb)(hs:Ox b)(hN:X.N[i]?=some x:=by rfl)(hv:P0 X.env.scope x:=by first | exact Or.inl rfl | exact Or.inr (Or.inl rfl) | exact Or.inr (Or.inr rfl)) (hd:aab x:=by decide)
  (hcd:aac x:=by decide):PL X (.Subscript (.Name x p) b pos) (LN i tb):=by
 intro gV s σ H Pr Z so I E h;obtain⟨a,kvs0,q0,h⟩:=rm h;have hσ:=(E.dicAt q0).1;refine IS PySem.F.slot_dict_getitem.lookup hs (P8 (dY hN hv hd hcd gV s σ H (λv H'=>v=.ref a/\H=H') I ⟨_,hσ,rfl,rfl⟩) λu s1 ⟨y,H1,I1,rx,e1,e2⟩=>?_);subst e1 e2;cases rx;refine P8 (hb gV s1 σ H Pr Z _ I1 E h) λu2 s2 q=>?_;obtain⟨v,H2,kd,Z2,I2,r2,E2,q2⟩:=EL.frz (so:=λkd Z1=>sG kd λkey=>zB i Z1 λ_ kvs=>∃y,zA kvs key=some y/\so (.d y) Z1) q;obtain⟨_,e1,p1⟩:=E2.head_d;cases e1;obtain⟨key,rfl,r3,q3⟩:=uE q2 p1 r2;obtain⟨a',kvs,qd,y,hy,q4⟩:=rm q3;obtain⟨hσ',vs,hl,r⟩:=E2.tail.dicAt qd;rw[hσ]at hσ';cases hσ';obtain⟨_,_,us,rel,dd⟩:=I2.dicOk hl;rcases r.val (k:=key)with⟨z,_⟩|⟨d,w,z1,z2,z3⟩
 . rw[hy]at z;cases z
 . rw[hy]at z1;cases z1;obtain⟨w',hw,rw'⟩:=xq.some_of (v:=w) (o:=valueAt us key) (by rw[<- z2];exact rel.val key);exact⟨dd.typeIs,wpAny_getItem_of (Cu r3) dd.mapOf hw ⟨w,H2,_,Z2,I2.tok _,rw',E2.tail.cons_d z3,q4⟩⟩
def NH(neg:Bool)(i:Nat)(tb:W L):W L:=λZ so=>tb Z λr Z1=>QN r λkd=>sG kd λkey=>zB i Z1 λ_ kvs=>so (.d (.bl (if neg then !(zA kvs key).isSome else(zA kvs key).isSome))) Z1
theorem IU{gV:List (Addr×Obj)}{σ:St}{H Pr:Hp}{s:Shared}{Z:Ev}{i:Nat}{α:Type}{Q:α->Shared->Prop}{f:Value->Value->Sem α}{R:Bool->Ev->Prop}(hb:PL X b tb)(hN:X.N[i]?=some x)(hv:P0 X.env.scope x) (hd:(x == ("__debug__" : Str))=false) (hcd:(x == ("__classdict__" : Str))=false) (I:P4 X gV σ H s) (E:aC X.K Pr H σ Z)
  (h:tb Z λr Z1=>QN r λkd=>sG kd λkey=>zB i Z1 λ_ kvs=>R (zA kvs key).isSome Z1)
  (hf:∀(u:Value)(a:Addr)(key:PQ)(s2:Shared)(H2:Hp)(Z2:Ev)(us:List (PQ×Value))(c:Bool),P4 X gV σ H2 s2->aC X.K Pr H2 σ Z2->bS (kV key) u->(a == sysModules)=false->s2.heap.DictOf (jP X.prog X.w) a us->(valueAt us key).isSome=c->R c Z2->wpAny (model X.prog X.w) X.A (f u (.ref a)) Q X.xe s2) :
  wpAny (model X.prog X.w) X.A (eval b X.env) (λv s₁=>wpAny (model X.prog X.w) X.A (eval (.Name x p) X.env) (λu s₂=>wpAny (model X.prog X.w) X.A (f v u) Q X.xe s₂) X.xe s₁) X.xe s:=by
 refine P8 (hb gV s σ H Pr Z _ I E h) λu s1 q=>?_;obtain⟨v,H2,kd,Z2,I2,r2,E2,q2⟩:=EL.frz (so:=λkd Z1=>sG kd λkey=>zB i Z1 λ_ kvs=>R (zA kvs key).isSome Z1) q;obtain⟨_,e1,p1⟩:=E2.head_d;cases e1;obtain⟨key,rfl,r3,q3⟩:=uE q2 p1 r2;obtain⟨a,kvs,qd,q4⟩:=rm q3;obtain⟨hσ,vs,hl,r⟩:=E2.tail.dicAt qd;refine P8 (dY hN hv hd hcd gV s1 σ H2 (λv H'=>v=.ref a/\H2=H') I2 ⟨_,hσ,rfl,rfl⟩) λu2 s2 ⟨y,H3,I3,rx,e1,e2⟩=>?_;subst e1 e2;cases rx;obtain⟨_,hS,us,rel,dd⟩:=I3.dicOk hl;refine hf u a key s2 H2 Z2 us _ I3 E2.tail r3 hS dd ?_ q4;rw[<- (rel.val key).isSome_eq];rcases r.val (k:=key)with⟨z,z'⟩|⟨d,w,z1,z2,z3⟩
 . rw[z,z'];rfl
 . rw[z1,z2];rfl
theorem LO(i:Nat)(hb:PL X b tb)(hm:behindInMarks .In (.Name x p)=false)(hN:X.N[i]?=some x:=by rfl)(hv:P0 X.env.scope x:=by first | exact Or.inl rfl | exact Or.inr (Or.inl rfl) | exact Or.inr (Or.inr rfl)) (hd:aab x:=by decide)
  (hcd:aac x:=by decide):PB X (.Compare b [.In] [.Name x p] pos) (aR (NH false i tb)):=λgV s σ H Pr Z so I E h =>
 wpAny_isTrue_Compare1 (IU (R:=λc Z1=>so c Z1) hb hN hv hd hcd I E h λu a key s2 H2 Z2 us c I2 E2 r3 hS dd e q=>wpAny_in_of (Cu r3) hS dd.mapOf (by rw[e];exact UO ⟨H2,Z2,I2.tok _,E2,q⟩)) hm
def IV(i:Nat)(tb te:W L):W Fl:=λZ so=>te Z λr Z1=>QN r λy=>zB i Z1 λ_ _=>tb Z1 λr Z2=>QN r λkd=>sG kd λkey=>zB i Z2 λa kvs=>kvs.length<sizeLine/\so .nx (Z2.set i (.dic a (IT kvs key y)))
theorem IW(i:Nat){ps:Pos}(hb:PL X b tb)(he:PL X e te)(hN:X.N[i]?=some x:=by rfl)(hv:P0 X.env.scope x:=by first | exact Or.inl rfl | exact Or.inr (Or.inl rfl) | exact Or.inr (Or.inr rfl)) (hd:aab x:=by decide)
  (hcd:aac x:=by decide) (hs:swapsWith e (some (.Subscript (.Name x p) b ps)) pos.line X.env=pure false:=by rfl):PM X (.Assign [.Subscript (.Name x p) b ps] e pos) (IV i tb te):=by
 intro gV s σ H Pr Z so I E h;refine wpAny_Assign_Subscript (P8 (he gV s σ H Pr Z _ I E h) λr s1 q=>?_) hs;obtain⟨v,H1,y,Z1,I1,rv,E1,q1⟩:=EL.frz (so:=λy Z1=>zB i Z1 λ_ _=>tb Z1 λr Z2=>QN r λkd=>sG kd λkey=>zB i Z2 λa kvs=>kvs.length<sizeLine/\so .nx (Z2.set i (.dic a (IT kvs key y)))) q;obtain⟨a,kvs0,q0,q1⟩:=rm q1;have hσ:=(E1.tail.dicAt q0).1;refine P8 (dY hN hv hd hcd gV s1 σ H1 (λv H'=>v=.ref a/\H1=H') I1 ⟨_,hσ,rfl,rfl⟩) λu2 s2 ⟨z,H2,I2,rx,e1,e2⟩=>?_;subst e1 e2;cases rx;refine P8 (hb gV s2 σ H1 _ Z1 _ I2 E1.tail.wide q1) λu3 s3 q=>?_;obtain⟨kv,H3,kd,Z3,I3,r3,E3,q3⟩:=EL.frz (so:=λkd Z2=>sG kd λkey=>zB i Z2 λa kvs=>kvs.length<sizeLine/\so .nx (Z2.set i (.dic a (IT kvs key y)))) q;obtain⟨_,e1,p1⟩:=E3.head_d;cases e1;obtain⟨key,rfl,r4,q4⟩:=uE q3 p1 r3;obtain⟨a',kvs,qd,kz,q5⟩:=rm q4;have E4:aC X.K Pr H3 (some (kV key)::some v::σ) (.d kd::.d y::Z3):=aC.step (τ:=[some v]) (lam:=[.d y]) (w:=[some (kV key)]) (μ:=[.d kd]) E1 rfl E3 rfl;obtain⟨hσ',vs,hl,r⟩:=E4.tail.tail.dicAt qd;rw[hσ]at hσ';cases hσ';obtain⟨_,e2,p2⟩:=E4.tail.head_d;cases e2;obtain⟨z,hS,us,rel,dd⟩:=I3.dicOk hl;have hz:us.length<=sizeLine:=by rw[<- rel.length];exact z
 have hk:vs.length=kvs.length:=Paired.length r;have hl':(GV vs key v).length<=sizeLine:=by have:=yb vs key v;omega
 refine wpAny_setItem_pairs (hsz:=hz) (Cu r4) dd λh' dd' hsb=>?_
 have he':∃q,h'.get? a=some q:=let ⟨q,_,_,hq,_⟩:=dd';⟨q,hq⟩
 exact⟨σ,_,_,I3.write (x:=a) (e:=a) (t':=_) (by rw[hl];exact True.intro) (.inl rfl) (λb q hb z=>(hsb.2 b hb).trans z) he' (show cR X.prog X.w _ _ _ (.dK (GV vs key v))from⟨hl',hS,_,rel.put key rv,dd'⟩),E4.tail.tail.updDic qd (r.put p2),q5⟩
def NI(kvs:List (PQ×D)):W L:=λZ so=>∀a,so (.dic a kvs) Z
theorem IX:PL X (.Dict [] [] pos) (NI []):=by intro gV s σ H Pr Z so I E hq;have hf:H s.heap.objs.size=none:=I.hok.fresh (Ul _);have I1:=I.laid (a:=s.heap.objs.size) (o:=.dK []) (h':=s.heap.push {cls:=.type "dict",data:=.dict #[] }) (t':=s.toks) (λ_ _ q=>Ug _ q) (Ul _) ⟨VC _,I.past,[],.nil,Heap.DictOf.new s.heap⟩;exact wpAny_Dict_empty ⟨.ref s.heap.objs.size,_,_,Z,I1,rfl,E.cons_dic (kvs:=[]) hf .nil,hq _⟩
noncomputable def flatC:D->Bool
 |.int _=>true
 |.str _=>true
 |.bl _=>true
 |.non=>true
 |_=>false
theorem QH.flatC{K:W.Frag}{H H':Hp}{v:V}{d:D}(h:L2.flatC d=true)(r:QH K H v d):QH K H' v d:=by
 cases r with
 |int i=>exact .int i
 |str i=>exact .str i
 |bl i=>exact .bl i
 |non=>exact .non
 |_=>cases h
inductive RG (X:Cx):List (Option Expr)->List Expr->List (PQ×D)->Prop where
 |nil:RG X [] [] []
 |int {k v:Expr} {ks:List (Option Expr)} {vs:List Expr} {i:Int} {d:D} {kvs:List (PQ×D)} (hk:PL X k (wC (.int i))) (hv:PL X v (wC d)) (hf:flatC d=true) (t:RG X ks vs kvs):RG X (some k::ks) (v::vs) ((.inl i,d)::kvs)
 |str {k v:Expr} {ks:List (Option Expr)} {vs:List Expr} {y:Str} {d:D} {kvs:List (PQ×D)} (hk:PL X k (wC (.str y))) (hv:PL X v (wC d)) (hf:flatC d=true) (t:RG X ks vs kvs):RG X (some k::ks) (v::vs) ((.inr y,d)::kvs)
theorem RG.run{pos:Pos}{gV:List (Addr×Obj)}{σ:St}{Pr:Hp}{Z:Ev}:∀{ks:List (Option Expr)}{vs:List Expr}{kvs:List (PQ×D)},RG X ks vs kvs->∀{H:Hp}{s:Shared}{Q:List (Value×Value)->Shared->Prop},P4 X gV σ H s->aC X.K Pr H σ Z ->
  (∀(H':Hp)(s':Shared)(us:List (Value×Value))(ps:List (PQ×V))(qs:List (PQ×Value)),P4 X gV σ H' s'->aC X.K Pr H' σ Z->Carries (jP X.prog X.w) us qs->KV ps qs->DR X.K H' ps kvs->Q us s') ->
  wpAny (model X.prog X.w) X.A (evalPairs (pairTrees ks vs X.env pos)) Q X.xe s
 |_,_,_,.nil,H,s,Q,I,E,h=>pairTrees_nil_walk (h H s [] [] [] I E True.intro .nil .nil)
 | _,_,_,.int (d:=d) hk hv hf t,H,s,Q,I,E,h=>by refine pairTrees_cons_walk (P8 (hk gV s σ H Pr Z (λr Z'=>r=.d _/\Z'=Z) I E ⟨rfl,rfl⟩) λu s1 ⟨v,H1,r,Z',I1,rv,E1,e1,e2⟩=>?_);subst e1 e2;refine P8 (hv gV s1 σ H1 Pr _ (λr Z'=>r=.d d/\Z'=_) I1 E1.tail ⟨rfl,rfl⟩) λu2 s2 ⟨v2,H2,r2,Z2,I2,rv2,E2,e1,e2⟩=>?_;subst e1 e2;obtain⟨_,z1,p1⟩:=E1.head_d;cases z1;obtain rfl:=QH.inv_int p1;obtain⟨_,z2,p2⟩:=E2.head_d;cases z2;exact RG.run t I2 E2.tail λH' s' us ps qs I3 E3 hc hk3 hd=>h H' s' ((u,u2)::us) ((.inl _,v2)::ps) ((.inl _,u2)::qs) I3 E3 ⟨Cu rv,rfl,hc⟩ (.cons ⟨rfl,rv2⟩ hk3) (.cons ⟨rfl,p2.flatC hf⟩ hd)
 | _,_,_,.str (d:=d) hk hv hf t,H,s,Q,I,E,h=>by refine pairTrees_cons_walk (P8 (hk gV s σ H Pr Z (λr Z'=>r=.d _/\Z'=Z) I E ⟨rfl,rfl⟩) λu s1 ⟨v,H1,r,Z',I1,rv,E1,e1,e2⟩=>?_);subst e1 e2;refine P8 (hv gV s1 σ H1 Pr _ (λr Z'=>r=.d d/\Z'=_) I1 E1.tail ⟨rfl,rfl⟩) λu2 s2 ⟨v2,H2,r2,Z2,I2,rv2,E2,e1,e2⟩=>?_;subst e1 e2;obtain⟨_,z1,p1⟩:=E1.head_d;cases z1;obtain rfl:=QH.inv_str p1;obtain⟨_,z2,p2⟩:=E2.head_d;cases z2;exact RG.run t I2 E2.tail λH' s' us ps qs I3 E3 hc hk3 hd=>h H' s' ((u,u2)::us) ((.inr _,v2)::ps) ((.inr _,u2)::qs) I3 E3 ⟨Cu rv,rfl,hc⟩ (.cons ⟨rfl,rv2⟩ hk3) (.cons ⟨rfl,p2.flatC hf⟩ hd)
theorem RG.len:∀{ks:List (Option Expr)}{vs:List Expr}{kvs:List (PQ×D)},RG X ks vs kvs->ks.all (·.isSome)=true/\ks.length=vs.length/\ks.length=kvs.length
 |_,_,_,.nil=>⟨rfl,rfl,rfl⟩
 | _,_,_,.int _ _ _ t=>by obtain⟨h1,h2,h3⟩:=t.len;simp[h1,h2,<- h3]
 | _,_,_,.str _ _ _ t=>by obtain⟨h1,h2,h3⟩:=t.len;simp[h1,h2,<- h3]
end
end L2
namespace L2
open PySem PySem.Spec PyProof.Rows PySem.SeqAt
mutual
noncomputable def Cv:Nat->D->Bool
 |_,.non=>true
 |_,.bl _=>true
 |_,.int _=>true
 |_,.str _=>true
 |n+1,.tup xs=>yc n xs
 |n+1,.lst xs=>yc n xs
 |n+1,.dct m=>m == 0
 |_,_=>false
noncomputable def yc:Nat->List D->Bool
 |_,[]=>true
 |n,x::xs=>Cv n x && yc n xs
end
mutual
noncomputable def Bf:D->Nat
 |.int _=>602
 |.str x=>10*x.length+2
 |.tup xs=>AR xs+3
 |.lst xs=>AR xs+3
 |_=>6
noncomputable def AR:List D->Nat
 |[]=>0
 |x::xs=>Bf x+2+AR xs
end
mutual
theorem Cw:∀d:D,(Q0 d).leavesShort 601=true->(Q0 d).shown.length<=Bf d
 |.non,_=>by decide
 |.bl b,_=>by cases b<;>decide
 | .int i,h=>by
  have e:(PyData.shown (.int i)).length<=601:=by simpa only[Q0,PyData.leavesShort,U4]using h
  exact Nat.le_succ_of_le e
 | .str x,h=>by
  have hx:∀c∈x.cps.toList,c<16^8:=by simpa only[Q0,PyData.leavesShort,US,U4]using h
  have e:=PySem.StrLaws.reprText_len x hx
  simp only[Q0,PyData.shown,Bf]
  omega
 | .tup xs,h=>by
  have h1:=yd xs (by simpa only[Q0,PyData.leavesShort]using h)
  have h2:=tupleText_len_le (PyData.shownAll (gj xs))
  have h3:=PyData.shownAll_length (gj xs)
  simp only[Q0,PyData.shown,Bf]
  omega
 | .lst xs,h=>by
  have h1:=yd xs (by simpa only[Q0,PyData.leavesShort]using h)
  have h2:=listText_len_le (PyData.shownAll (gj xs))
  have h3:=PyData.shownAll_length (gj xs)
  simp only[Q0,PyData.shown,Bf]
  omega
 |.dct _,_=>by simp only[Q0,Bf];decide
 |.exc _ _ _,_=>by simp only[Q0,Bf];decide
 |.fn _ _,_=>by simp only[Q0,Bf];decide
 |.dk _ _,_=>by simp only[Q0,Bf];decide
 |.gf _,_=>by simp only[Q0,Bf];decide
theorem yd:∀ds:List D,PyData.leavesShortAll 601 (gj ds)=true->((PyData.shownAll (gj ds)).map (·.length)).sum+2*(gj ds).length<=AR ds
 |[],_=>by simp only[gj,PyData.shownAll,List.map_nil,List.sum_nil,UA,AR];omega
 | d::ds,h=>by
  have h':(Q0 d).leavesShort 601=true/\PyData.leavesShortAll 601 (gj ds)=true:=by simpa only[gj,PyData.leavesShortAll,UE]using h
  have h1:=Cw d h'.1
  have h2:=yd ds h'.2
  simp only[gj,PyData.shownAll,UC,List.sum_cons,Uk,AR]
  omega
end
structure NJ (d:D):Prop where
 ok:Rc 40 d=true
 sh:jw d=true
 ln:(Q0 d).shown.length<=sizeLine
theorem zg.l{d:D}(h:zg d):NJ d:=⟨h.ok,h.sh,h.len⟩
end L2
namespace L2
open PySem PySem.Spec PyProof.Rows
end L2
namespace L2
open PySem PySem.Spec PyProof.Rows PySem.W
end L2
namespace L2
open PySem PySem.Spec PyProof.Rows
end L2
namespace L2
open PySem PySem.Spec PyProof.Rows PySem.SeqAt
mutual
noncomputable def RH:D->Bool
 |.dct n=>n == 0
 |.exc _ _ _=>false
 |.fn _ _=>false
 |.dk _ _=>false
 |.gf _=>false
 |.tup xs=>LP xs
 |.lst xs=>LP xs
 |.str x=>PyData.strOk x
 |_=>true
noncomputable def LP:List D->Bool
 |[]=>true
 |x::xs=>RH x && LP xs
end
mutual
theorem rn:∀d:D,RH d=true->jw d=true->(Q0 d).leavesShort 601=true
 |.non,_,_=>rfl
 |.bl _,_,_=>rfl
 |.dct _,_,_=>rfl
 |.exc _ _ _,h,_=>by simp[RH]at h
 |.fn _ _,h,_=>by simp[RH]at h
 |.dk _ _,h,_=>by simp[RH]at h
 |.gf _,h,_=>by simp[RH]at h
 | .int i,_,h=>by
  have:=(qD (.int i) h).1
  simpa only[Q0,PyData.leavesShort,PyData.intsShort]using this
 |.str x,h,hs=>PyData.leavesShort_of_canLay0 601 (.str x) (by simpa only[RH,PyData.canLay0]using h) (qD (.str x) hs).1
 | .tup xs,h,hs=>by
  have:=oX xs (by simpa only[RH]using h) (by simpa only[jw]using hs)
  simpa only[Q0,PyData.leavesShort]using this
 | .lst xs,h,hs=>by
  have:=oX xs (by simpa only[RH]using h) (by simpa only[jw]using hs)
  simpa only[Q0,PyData.leavesShort]using this
theorem oX:∀ds:List D,LP ds=true->ma ds=true->PyData.leavesShortAll 601 (gj ds)=true
 |[],_,_=>rfl
 | d::ds,h,hs=>by
  simp only[LP,UE]at h
  simp only[ma,UE]at hs
  simp only[gj,PyData.leavesShortAll,rn d h.1 hs.1,oX ds h.2 hs.2,Bool.and_self]
end
structure Oy (d:D):Prop where
 ok:RH d=true
 sh:jw d=true
 dp:(Q0 d).depth<=40
 sg:Bf d<=16777216
 ni:∀i,d≠.int i
theorem Oy.len{d:D}(h:Oy d):(Q0 d).shown.length<=sizeLine:=by
 have e:sizeLine=16777216:=by decide
 rw[e];exact Uv (Cw d (rn d h.ok h.sh)) h.sg
end L2
namespace L2
open PySem PySem.Spec PyProof.Rows
section
def LQ(o:Option L)(i k:Nat)(Z:Ev)(so:L->Ev->Prop):Prop:=match o with
 |some (.bx none ls)=>∃l,ls[k]?=some l/\so l (Z.set i (.bx none (ls.set k .un)))
 |some (.d (.tup ds))=>∃d,ds[k]?=some d/\so (.d d) Z
 |_=>False
theorem Ft(ls:List L)(i k:Nat)(Z:Ev)(so:L->Ev->Prop):LQ (some (.bx none ls)) i k Z so=∃l,ls[k]?=some l/\so l (Z.set i (.bx none (ls.set k .un))):=rfl
theorem IY(ds:List D)(i k:Nat)(Z:Ev)(so:L->Ev->Prop):LQ (some (.d (.tup ds))) i k Z so=∃d,ds[k]?=some d/\so (.d d) Z:=rfl
end
section
def NK(r:L)(Z:Ev)(so:L->Ev->Prop):Prop:=match r with
 |.bx (some _) ls=>so (.bx none ls) Z
 |_=>False
theorem Fu(a:Addr)(ls:List L)(Z:Ev)(so:L->Ev->Prop):NK (.bx (some a) ls) Z so=so (.bx none ls) Z:=rfl
end
end L2
namespace L2
open PySem PySem.Spec PyProof.Rows PySem.W
theorem uF{p:Pos}{a b:Int}{c cv:Value}(l:List Value)(h:TriplesOk l)(e:codeAmong p (l++[rawInt a,rawInt b,c])=some cv):codeAmong p l=some cv∨cv=c:=by
 fun_induction TriplesOk l with
 | case1 =>
  simp only[Vj,codeAmong,rawInt]at e;split at e
  . cases e;exact .inr rfl
  . cases e
 | case2 a' t b' u x rest ih =>
  simp only[Wf,codeAmong]at e ⊢;split at e
  . rename_i hc;rw[if_pos hc];exact .inl e
  . rename_i hc;rw[if_neg hc];exact ih h e
 |case3 l h1 h2=>exact h.elim
theorem v7{cells:List (Str×Addr)}:∀(names:List (Str×NameKind))(acc:List (Str×Addr)),(names.filter λp=>p.2 == .free)=[]->vQ cells names acc=acc
 |[],_,_=>rfl
 | (n,k)::r,acc,h=>by
  rw[VZ]at h;unfold vQ;by_cases hk:(k == NameKind.free)=true
  . rw[if_pos hk]at h;cases h
  . rw[if_neg hk]at h;rw[if_neg hk];exact v7 r acc h
theorem zC{cells:List (Str×Addr)}{y:Str}{c:Addr}(hc:cells.lookup y=some c):∀(names:List (Str×NameKind))(acc:List (Str×Addr)),(names.filter λp=>p.2 == .free)=[(y,.free)]->vQ cells names acc=(y,c)::acc
 |[],_,h=>by cases h
 | (n,k)::r,acc,h=>by
  rw[VZ]at h;unfold vQ;by_cases hk:(k == NameKind.free)=true
  . rw[if_pos hk]at h;simp only[List.cons.injEq,Prod.mk.injEq]at h;obtain⟨⟨h1,h2⟩,h3⟩:=h;subst h1;rw[if_pos hk,hc];exact v7 r _ h3
  . rw[if_neg hk]at h;rw[if_neg hk];exact zC hc r acc h
section
variable{X:Cx}{gV:List (Addr×Obj)}{σ:St}{H:Hp}{s:Shared}
theorem Fv{x:Str}{c0 P c:Addr}{y:Str}{pr:Arguments}{bd:Expr}{sc:Scope}{pos:Pos}{Q:Value->Shared->Prop}{E:Value->Shared->Prop}{A:Around}
  (I:P4 X gV σ H s) (hx:x∈lamNames) (ht:tabIn X.K x=some (c0,P)) (hcode:X.env.code=.ref c0) (hq:X.env.qual++"<lambda>"=sk x) (hcl:closureFor sc X.env=pure [(y,c)]) (hdef:defaultsOf pr X.env=([],[]))
  (h:∀(f c':Addr)(oq:Obj)(H':Hp)(s':Shared)(ctv pm:Value),P4 X gV σ H' s'->(∀ b o,H b=some o->H' b=some o)->s'.heap.get? f=some (kla_obj "<lambda>" (sk x) pr bd sc [(y,c)] pm c' ctv)->H' f=none->s.heap.objs.size<=f ->
   H' c'=some (.frz oq (.own c'))->ly oq (sk x)->Q (.ref f) s'):wpAny (model X.prog X.w) A (eval (.Lambda pr bd sc pos) X.env) Q E s:=by
 have hP:=I.tbs x hx c0 P ht;obtain⟨ps,eP,tr,among⟩:=id (I.hok P _ hP);have C:CodeHd s.heap c0 P:=(I.ok.mod.cds x hx c0 P ht).keeps I.bk;have hg:s.heap.Ns mainGlobals X.mg:=I.ok.mod.glob.keeps I.bk;obtain⟨bm,ob,b1,b2,b3,b4,b5,b6⟩:=I.ok.mod.bmn;have hbk:=I.bk bm ob b3;have hgP:mainGlobals≠P:=λz=>by obtain⟨o,es,ep,e,hd,_⟩:=hg;rw[z,eP]at e;cases e;cases hd
 have hbP:bm≠P:=λz=>by rw[z,eP]at hbk;cases hbk;cases b4
 have hbG:bm≠mainGlobals:=λz=>by obtain⟨o,es,ep,e,hd,_⟩:=hg;rw[z,e]at hbk;cases hbk;rw[hd]at b6;cases b6
 refine kla_eval hdef ?_;rw[hq]
 cases q:codeAmong pos ps.toList with
 | none =>
  refine kla_makeFunction (mg:=X.mg) hcl I.ok.glob hg hcode C eP tr q hgP ⟨bm,ob,b1,b2,hbG,hbP,hbk,b4,b5,b6⟩ λc' ctv h' tk hx' hge hlt hrec htb=>?_;obtain⟨c2,oq,vs,t,e2,hoc,hd,hv⟩:=hrec;cases e2;have hn:H c'=none:=I.hok.fresh hge;have nP:∀b,H b=none->b≠P:=λb n z=>by rw[z,hP]at n;cases n
  have old:∀ b o,b≠P->s.heap.get? b=some o->(h'.push (kla_obj "<lambda>" (sk x) pr bd sc [(y,c)] ((X.mg "__name__").getD .none) c' ctv)).get? b=some o:=λb o nb e=>Ug _ (hx' b o nb e);have up:∀b u,H b=some u->PR H c' (.frz oq (.own c')) b=some u:=λb u e=>by rw[ay (bb e hn)];exact e
  have co:ly oq (sk x):=⟨vs,t,hd,hv⟩
  have J:P4 X gV σ (PR H c' (.frz oq (.own c'))) {s with heap:=h'.push (kla_obj "<lambda>" (sk x) pr bd sc [(y,c)] ((X.mg "__name__").getD .none) c' ctv),toks:=tk}:=by
   refine I.un ⟨λb o e n _ _=>old b o (nP b n) e,λb o e n _ _=>⟨o.slots,old b o (nP b n) e⟩,λb o e n _=>?_,λb o e _=>?_,λb xs e=>up b _ e,λb o u e=>up b _ e,λb t e=>up b _ e⟩ λb u e=>?_
   . rw[ay (UI (Uj (Up e) hge))];exact n
   .
    by_cases z:b=P
    . subst z;exact⟨_,Ug _ htb⟩
    . exact⟨o,old b o z e⟩
   .
    by_cases z:b=c'
    . subst z;rw[aT]at e;cases e;exact⟨Ug _ hoc,⟨_,Ug _ hoc⟩⟩
    .
     rw[ay z]at e;by_cases zP:b=P
     .
      subst zP;rw[hP]at e;cases e;refine⟨_,Ug _ htb,?_,λpos' cv hc'=>?_⟩
      . rw[UR];exact TriplesOk_snoc _ _ _ _ tr
      .
       rw[UR]at hc';rcases uF _ tr hc' with z1|z1
       . obtain⟨c3,o3,a1,a2,a3⟩:=among pos' cv z1;exact⟨c3,o3,a1,up _ _ a2,a3⟩
       . exact⟨c',oq,z1,aT,co⟩
     .
      refine(I.hok b u e).stay (λd v hd z2=>old d v ?_ z2) (λd z2=>up d _ z2) (λd xs z2=>up d _ z2) λd od _ _ z2=>up d _ z2;rcases hd with rfl|hd
      . exact zP
      . intro z3;rw[z3,hP]at hd;cases hd
  exact h _ c' oq _ _ ctv _ J up (UH _ rfl) (by rw[ay (Nat.ne_of_gt hlt)];exact I.hok.fresh (Uv hge (Nat.le_of_lt hlt))) (Uv hge (Nat.le_of_lt hlt)) aT co
 | some cv =>
  obtain⟨c',oq,rfl,hz,co⟩:=among pos cv q;refine kla_makeFunctionHit (mg:=X.mg) hcl I.ok.glob hg hcode C eP tr q ⟨bm,ob,b1,b2,hbG,hbP,hbk,b4,b5,b6⟩ λctv h' tk hk hsz=>?_;exact h _ c' oq H _ ctv _ (I.kept λb o e=>Ug _ (hk b o e)) (λ_ _ e=>e) (UH _ rfl) (I.hok.fresh hsz) hsz hz co
end
def LR(K:Frag)(H:Hp)(h:Heap)(f:Addr)(x:Str)(d:D):Prop:=∃(c c':Addr)(oc oq:Obj)(y:Str)(pr:Arguments)(bd:Expr)(sc:Scope)(pos:Pos)(pm ctv u:Value)(v:V),
 Av K x=some (pr,bd,sc,pos)/\h.get? f=some (kla_obj "<lambda>" (sk x) pr bd sc [(y,c)] pm c' ctv)/\h.get? c'=some oq/\ly oq (sk x)/\h.get? c=some oc/\(H c=none∨∃ o,H c=some (.frz o (.own c)))/\oc.data=.cell (some u)/\bS v u/\(y,NameKind.free)∈sc.names/\QH K H v d
theorem QH.lamAt{K:Frag}{H:Hp}{P:Program}{w:World}{h:Heap}{f:Addr}{x:Str}{d:D}(r:QH K H (.ref f) (.fn x d))(ok:PU P w H h):LR K H h f x d:=by
 cases r with
 | fn hl hf hq hc hz hd hv hm r =>
  exact⟨_,_,_,_,_,_,_,_,_,_,_,_,_,hl,(ok _ _ hf).1,(ok _ _ hq).1,hc,(ok _ _ hz).1,.inr ⟨_,hz⟩,hd,hv,hm,r⟩
noncomputable def I0(P:Program)(w:World)(K:Frag)(mg:Str->Option Value)(base:Heap)(p y:Str)(qual:Str)(sc:Scope)(f c':Addr)(cl:List (Str×Addr))(A:Around)(outer:List Env)(s:Shared)(H:Hp):Cx where
 prog:=P
 w:=w
 K:=K
 mg:=mg
 base:=base
 A:=A.deeper (envX qual sc s.heap.objs.size f (.ref c') cl)
 N:=[p,y]
 s₀:=s
 H₀:=H
 env:=envX qual sc s.heap.objs.size f (.ref c') cl
 outer:=outer
 stack:=envX qual sc s.heap.objs.size f (.ref c') cl::outer
 ex:=[]
 calm:=true
 fn:=λ_=>false
 pn:=[]
 xe:=λ_ _=>False
structure Ja (p y:Str) (pr:Arguments) (bd:Expr) (sc:Scope):Prop where
 par:sc.names.lookup p=some .local
 fre:sc.names.lookup y=some .free
 nc:∀z∈sc.names,z.2≠.cell
 one:∀z,(z,NameKind.free)∈sc.names->z=y
 co:sc.isCoroutine=false
 gen:sc.isGenerator=false
 kind:sc.kind=.function
 bind:∀(q:Str)(cl:List (Str×Addr))(pm cdv ct u:Value),bindArgs (kla_fn "<lambda>" q pr bd sc cl pm cdv ct) ⟨[u],[]⟩=pure [(p,u)]
def Jb(r:L)(k:D->Prop):Prop:=match r with
 |.d z=>k z
 |_=>False
theorem Jc{r:L}{k:D->Prop}(h:Jb r k):∃z,r=.d z/\k z:=by
 cases r with
 |d z=>exact⟨z,rfl,h⟩
 |_=>exact h.elim
structure Fw (P:Program) (w:World) (K:Frag) (mg:Str->Option Value) (base:Heap) (k:Nat) (x:Str) (fs:FS):Prop where
 run:∀(A:Around)(outer:List Env)(s:Shared)(H:Hp)(f:Addr)(u:Value)(v:V)(a d:D)(so:D->Prop),g6 k A->Bx P w K mg base A outer s H->bS v u->QH K H v a->LR K H s.heap f x d->fs [.d a,.d d] (λr _=>Jb r so) ->
  codeAny (model P w) A (.call (.ref f) ⟨[u],[]⟩) (CR CX0 outer P w H s (λv H'=>(∀b o,H b=some o->H' b=some o)/\∃z,QH K H' v z/\so z) E0) s
theorem Jd{P:Program}{w:World}{K:Frag}{mg:Str->Option Value}{base:Heap}{p y:Str}{qual:Str}{pr:Arguments}{bd:Expr}{sc:Scope}{f c c':Addr}{A:Around}{outer:List Env}{s:Shared}{H:Hp}{h1:Heap}{tk:Nat}{u u':Value}{v v':V}{oc:Obj}
  (S:Ja p y pr bd sc) (hd:A.handled=none) (e0:Bx P w K mg base A outer s H) (r:bS v u) (r':bS v' u') (gc:s.heap.get? c=some oc) (dc:oc.data=.cell (some u')) (hc:H c=none∨∃o,H c=some (.frz o (.own c)))
  (hns:h1.Ns s.heap.objs.size λz=>[(p,u)].reverse.lookup z) (k:∀b o,s.heap.get? b=some o->h1.get? b=some o) :
  P4 (I0 P w K mg base p y qual sc f c' [(y,c)] A outer s H) [] [some v,some v'] H {s with heap:=h1,toks:=tk}:=by
 have hpy:p≠y:=λz=>by have:=S.par;rw[z,S.fre]at this;cases this
 have one:∀z d,([(y,c)]:List (Str×Addr)).lookup z=some d->z=y/\d=c:=λz d e=>by
  rw[U0]at e
  cases q:z == y with
  |true=>rw[q]at e;cases e;exact⟨eq_of_beq q,rfl⟩
  |false=>rw[q]at e;cases e
 have at_y:([(y,c)]:List (Str×Addr)).lookup y=some c:=by rw[U0,beq_self_eq_true]
 have noA:∀b:Addr,b∉(I0 P w K mg base p y qual sc f c' [(y,c)] A outer s H).ex:=λb z=>absurd (show b∈([]:List Addr)from z) v6
 refine⟨⟨e0.mod,S.kind,rfl,rfl,Ul _,λa b d h1 h2=>?_,λz hz=>?_,λz d hf _=>absurd (show false=true from hf) x_,λ_=>hd,Around.frames_deeper e0.frames,.inr ⟨rfl,rfl⟩,λb z=>absurd z (noA b),e0.bs,e0.bsz,λb _ _=>noA b,λb z=>absurd z (noA b),e0.funs,e0.frf,e0.tbs⟩,
  rfl,e0.bare,Un.kept k,⟨_,hns,λi z v2 h1 h2 h3=>?_⟩,λz d h=>?_,e0.hok.fresh (Ul _),λz d h=>?_,λq hq=>absurd (show q∈([]:List (Addr×Obj))from hq) v6,e0.hok.kept k,rfl⟩
 . exact(one a d h1).1.trans (one b d h2).1.symm
 .
  have hz:sc.names.lookup z=some .cell∨sc.names.lookup z=some .free:=hz;rcases hz with hz|hz
  . exact absurd rfl (S.nc _ (Vv hz))
  . rw[S.one z (Vv hz)];exact⟨c,at_y⟩
 .
  match i,h1,h2 with
  | 0,h1,h2 =>
   have e1:p=z:=UM h1;have e2:v=v2:=by simpa using h2
   subst e1 e2;exact⟨u,r,.inl ⟨S.par,v6⟩⟩
  | 1,h1,h2 =>
   have e1:y=z:=UM h1;have e2:v'=v2:=by simpa using h2
   subst e1 e2;exact⟨u',r',.inr ⟨.inr S.fre,c,at_y,oc,k c oc gc,dc⟩⟩
  |n+2,h1,h2=>simp at h2
 . obtain⟨_,rfl⟩:=one z d h;exact⟨_,oc,k d oc gc,dc⟩
 . obtain⟨_,rfl⟩:=one z d h;exact hc.imp id λz=>⟨rfl,z⟩
theorem LS{P:Program}{w:World}{K:Frag}{mg:Str->Option Value}{base:Heap}{k:Nat}{x p y:Str}{pr:Arguments}{bd:Expr}{sc:Scope}{pos:Pos}{fs:FS}(hl:Av K x=some (pr,bd,sc,pos))(S:Ja p y pr bd sc)(t:W L)
  (hbody:∀(A:Around)(outer:List Env)(s:Shared)(H:Hp)(f c c':Addr),g6 k (A.deeper (envX (sk x) sc s.heap.objs.size f (.ref c') [(y,c)]))->PL (I0 P w K mg base p y (sk x) sc f c' [(y,c)] A outer s H) bd t)
  (h:∀a d so,fs [.d a,.d d] so->t [.d a,.d d] λr _=>so r []):Fw P w K mg base (k+1) x fs:=by
 refine⟨λA outer s H f u v a d so hr e0 rv ra la hf=>?_⟩;obtain⟨c,c',oc,oq,y',pr',bd',sc',pos',pm,ctv,u',v',hl',gf,gq,hq,gc,hc,dc,rv',hm,rd⟩:=la;rw[hl]at hl';cases hl';obtain rfl:=S.one y' hm;obtain⟨vs,tq,hd1,hd2⟩:=hq;have lim:s.heap.NoLimit:=e0.mod.nolimit.keeps λb o e=>(e0.bs b o e).1;refine kla_callFunE hr.depth gf rfl S.co S.gen rfl ⟨c',oq,vs,tq,rfl,gq,hd1,hd2⟩ ?_;rw[S.bind]
 refine Um (wpAny_newFunctionEnv S.nc (λz hz=>by
  have:z=(p,u):=by simpa using hz
  subst this;exact S.par) (λh₁ hns hsb=>⟨lim.fresh _ hsb,?_⟩) S.kind)
 have hk₁:∀b o,s.heap.get? b=some o->h₁.get? b=some o:=λb o e=>hsb.extBut b o (UI (Up e)) (Ug _ e);show codeAny _ _ (.expr bd (envX (sk x) sc s.heap.objs.size f (.ref c') [(y',c)])) _ _;have I:=Jd (P:=P) (w:=w) (K:=K) (mg:=mg) (base:=base) (qual:=sk x) (f:=f) (c':=c') (tk:=s.toks+[(p,u)].length) S hr.hd e0 rv rv' gc dc hc hns hk₁;have E:aC K H H [some v,some v'] [.d a,.d d]:=⟨λ_ _ e=>e,Wg,λa ha=>absurd (show a∈([]:List Addr)from ha) v6,.cons ⟨v,rfl,ra⟩ (.cons ⟨v',rfl,rd⟩ .nil)⟩;refine kla_codeExpr (U8 (hbody A outer s H f c c' (hr.deeper _) [] _ _ H H _ (λr _=>Jb r so) I E (h a d _ hf)) (λv2 s' hs=>?_) λe s' hs=>(show False from hs).elim);obtain⟨v3,H',r,Z',J,rv3,E',q⟩:=hs;obtain⟨z,rfl,hp⟩:=Jc q;obtain⟨w3,e3,rz⟩:=E'.head_d;cases e3;exact⟨v3,H',J.os,J.bare,J.base,J.hok,rv3,E'.sub,z,rz,hp⟩
def GW(i:Nat)(Z:Ev)(k:D->Prop):Prop:=match Z[i]? with
 |some (.d x)=>k x
 |_=>False
theorem Cy{i:Nat}{Z:Ev}{k:D->Prop}(h:GW i Z k):∃x,Z[i]?=some (.d x)/\k x:=by
 unfold GW at h;split at h
 . rename_i x q;exact⟨x,q,h⟩
 . exact h.elim
def RI(x:Str)(d:D)(k:D->Prop):Prop:=match d with
 |.fn z d=>z=x/\k d
 |_=>False
theorem LU{x:Str}{d:D}{k:D->Prop}(h:RI x d k):∃e,d=.fn x e/\k e:=by
 cases d with
 |fn z e=>obtain⟨rfl,h⟩:=h;exact⟨e,rfl,h⟩
 |_=>exact h.elim
def rp(fs:FS)(x:Str)(i:Nat)(t:W L):W L:=λZ so=>GW i Z λg=>RI x g λd=>t Z λr Z1=>QN r λa=>fs [.d a,.d d] λr _=>Jb r λz=>so (.d z) Z1
section
variable{X:Cx}{k:Nat}{x n:Str}{fs:FS}{p pos:Pos}{e:Expr}{t:W L}
theorem Cz(L:Fw X.prog X.w X.K X.mg X.base k x fs)(hr:g6 k X.A)(i:Nat)(ha:PL X e t)(hN:X.N[i]?=some n:=by rfl)(hv:P0 X.env.scope n:=by first | exact Or.inl rfl | exact Or.inr (Or.inl rfl) | exact Or.inr (Or.inr rfl)) (hd:aab n:=by decide)
  (hcd:aac n:=by decide) (hs:starEach [e] X.env=(false,eval e X.env)::starEach [] X.env:=by rfl) :
  PL X (.Call (.Name n p) [e] [] pos) (rp fs x i t):=by
 intro gV s σ H Pr Z so I E0 h;obtain⟨g,qi,h⟩:=Cy h;obtain⟨d,eg,hh⟩:=LU h;clear h;subst eg;obtain⟨sv,hsl,w,rfl,rw⟩:=E0.slot qi;obtain⟨f,rfl⟩:∃f,w=.ref f:=by cases rw;exact⟨_,rfl⟩
 refine Ve (P8 (dY hN hv hd hcd gV s σ H (λw H'=>w=.ref f/\H'=H) I ⟨.ref f,hsl,rfl,rfl⟩) λu s1 ⟨w,H1,I1,r1,e1,e2⟩=>?_);subst e1 e2;cases r1;have E1:=E0.cons_d rw;have fnAt:∀{H':Hp}{s':Shared},P4 X gV σ H' s'->QH X.K H' (.ref f) (.fn x d)->FnAt f s'.heap:=λI' r'=>by obtain⟨_,_,_,_,_,_,_,_,_,_,_,_,_,_,gf,_⟩:=r'.lamAt I'.hok;exact⟨_,_,_,_,gf⟩
 refine callWith_F (fnAt I1 rw) ?_ hs rfl;rw[hs];show wpAny _ _ (spliced ((false,eval e X.env)::backTo pos (starEach [] X.env))) _ _ s1;refine V3 (P8 (ha gV s1 σ _ _ Z (λr Z1=>QN r λa=>fs [.d a,.d d] λr _=>Jb r λz=>so (.d z) Z1) I1 E1.tail.wide hh) λu s2 hq=>?_);obtain⟨v,H2,a,Z2,I2,rv,E2,q2⟩:=EL.frz (so:=λa Z1=>fs [.d a,.d d] λr _=>Jb r λz=>so (.d z) Z1) hq;have E3:aC X.K Pr H2 ([some v]++(some (.ref f)::σ)) ([.d a]++(.d (.fn x d)::Z2)):=aC.step (τ:=[some (.ref f)]) (lam:=[.d (.fn x d)]) (w:=[some v]) (μ:=[.d a]) E1 rfl E2 rfl;obtain⟨_,e5,ra⟩:=aC.head_d (v:=some v) (x:=a) E3;cases e5;have E4:aC X.K Pr H2 (some (.ref f)::σ) (.d (.fn x d)::Z2):=aC.tail (v:=some v) (l:=.d a) E3;obtain⟨_,e6,rf⟩:=E4.head_d;cases e6;refine Calls.spliced_nil ⟨fnAt I2 rf,?_⟩;refine Wa (V8 (L.run X.A X.stack s2 H2 f u v a d (λz=>so (.d z) Z2) hr I2.env0 rv ra (rf.lamAt I2.hok) q2) λres s' hq=>?_)
 cases res with
 |error e=>exact(show False from hq).elim
 | ok fl =>
  cases fl with
  | ret u2 =>
   obtain⟨v3,H3,I3,rv3,ext,z,rz,pz⟩:=I2.after hq;exact⟨v3,H3,.d z,Z2,I3,rv3,(E4.tail.exten ext).cons_d rz,pz⟩
  |next=>exact False.elim hq
  |brk=>exact False.elim hq
  |cont=>exact False.elim hq
end
theorem Un.one{P:Program}{w:World}{fs:List Addr}{H H':Hp}{h h':Heap}{c:Addr}{oc:Obj}(hc:H c=none)(gc:h.get? c=some oc)(cc:∀q,¬ly oc q)(u:Un fs [] (PR H c (.frz oc (.own c))) H' h h')(ok:PU P w H' h') :
  Un fs [] H (Rm H' c) h h'/\PU P w (Rm H' c) h':=by
 have zc:H' c=some (.frz oc (.own c)):=u.frzs c oc _ aT;have gc':h'.get? c=some oc:=(ok c _ zc).1;have nz:∀b o,H' b=some o->o≠.frz oc (.own c)->b≠c:=λb o e n z=>by subst z;rw[zc]at e;cases e;exact n rfl
 refine⟨⟨λb o e n hb hx=>?_,λb o e n hb hx=>?_,λb o e n hx=>?_,λb o e hx=>u.there b o e hx,λb xs e=>?_,λb o v e=>?_,λb t e=>?_⟩,λb o e=>?_⟩
 .
  by_cases z:b=c
  . subst z;rw[gc]at e;cases e;exact gc'
  . exact u.keep b o e (by rw[ay z];exact n) hb hx
 .
  by_cases z:b=c
  . subst z;rw[gc]at e;cases e;exact⟨oc.slots,gc'⟩
  . exact u.slot b o e (by rw[ay z];exact n) hb hx
 .
  by_cases z:b=c
  . subst z;exact nr
  . rw[cO z];exact u.free b o e (by rw[ay z];exact n) hx
 . have z:=bb e hc;rw[cO z];exact u.tups b xs (by rw[ay z];exact e)
 . have z:=bb e hc;rw[cO z];exact u.frzs b o v (by rw[ay z];exact e)
 . have z:=bb e hc;rw[cO z];exact u.tbls b t (by rw[ay z];exact e)
 .
  have hb:b≠c:=λz=>by subst z;rw[nr]at e;cases e
  rw[cO hb]at e;refine(ok b o e).stay (λ_ _ _ z=>z) (λd z=>?_) (λd xs z=>?_) λd od q co z=>?_
  . rw[cO (nz d _ z λy=>nomatch y)];exact z
  . rw[cO (nz d _ z λy=>nomatch y)];exact z
  . rw[cO (nz d _ z λy=>by cases y;exact cc q co)];exact z
structure Je (X:Cx) (x y:Str) (i:Nat) (pr:Arguments) (bd:Expr) (sc:Scope) (pos:Pos):Prop where
 mem:x∈lamNames
 tab:∃c0 P,tabIn X.K x=some (c0,P)/\X.env.code=.ref c0
 lam:Av X.K x=some (pr,bd,sc,pos)
 qual:X.env.qual++"<lambda>"=sk x
 deft:defaultsOf pr X.env=([],[])
 fre:(sc.names.filter λp=>p.2 == .free)=[(y,.free)]
 at_i:X.N[i]?=some y
 cel:X.env.scope.names.lookup y=some .cell
 fn:X.fn y=true
def uG(fs:Rw)(xp:Xc->Prop)(x:Str)(i:Nat)(t:W L):W L:=λZ so=>t Z λr Z1=>QN r λa=>GW i Z1 λd=>fs [a,.fn x d] (λr=>r=.d .non/\so (.d .non) Z1) (λz=>qo z.ds=true/\xp z)
section
variable{X:Cx}{k n:Nat}{f:Addr}{fd:FuncData}{ps:List Str}{fs:Rw}{g x y:Str}{p cpos pos:Pos}{e:Expr}{t:W L}{xp:Xc->Prop}{pr:Arguments}{bd:Expr}{sc:Scope}
theorem CA(F:FnOk X.prog X.w X.K X.mg X.base (Rt X.prog X.w) k f fd ps (Rx X.K 2 fs))(hr:g6 k X.A)(hg:Gl X g)(hm:X.mg g=some (.ref f))(hk:W.keepIn X.K (.ref f)=true)(hb:mW X.K fd ps [])(hx:Rv X xp)
  (i:Nat) (LI:Je X x y i pr bd sc pos) (ha:PL X e t) (hdb:aab g:=by decide) (he:starEach [e,.Lambda pr bd sc pos] X.env=(false,eval e X.env)::starEach [.Lambda pr bd sc pos] X.env:=by rfl)
  (he2:starEach [.Lambda pr bd sc pos] X.env=(false,eval (.Lambda pr bd sc pos) X.env)::starEach [] X.env:=by rfl) :
  PL X (.Call (.Name g p) [e,.Lambda pr bd sc pos] [] cpos) (uG fs xp x i t):=by
 intro gV s σ H Pr Z so I E0 h;obtain⟨c0,P,tab,code⟩:=LI.tab;refine Ve (gF I hg hm ?_ hdb);refine V1 (h₀:=X.base) I.ok.mod.kin hk ?_ he (by rw[he2];rfl);rw[he];show wpAny _ _ (spliced ((false,eval e X.env)::backTo cpos (starEach [.Lambda pr bd sc pos] X.env))) _ _ s;refine V3 (P8 (ha gV s σ H Pr Z (λr Z1=>QN r λa=>GW i Z1 λd=>fs [a,.fn x d] (λr=>r=.d .non/\so (.d .non) Z1) (λz=>qo z.ds=true/\xp z)) I E0 h) λu1 s1 hq=>?_);obtain⟨v1,H1,a,Z1,I1,rv1,E1,q1⟩:=EL.frz (so:=λa Z1=>GW i Z1 λd=>fs [a,.fn x d] (λr=>r=.d .non/\so (.d .non) Z1) (λz=>qo z.ds=true/\xp z)) hq;obtain⟨d,qi,q1⟩:=Cy q1;rw[he2];show wpAny _ _ (spliced ((false,eval (.Lambda pr bd sc pos) X.env)::backTo cpos (starEach [] X.env))) _ _ s1;obtain⟨c,hcl⟩:=I1.ok.has y (.inl LI.cel);have fr:∀z,(z,NameKind.free)∈sc.names->z=y:=λz hz=>by have:(z,NameKind.free)∈sc.names.filter λp=>p.2 == .free:=V6.mpr ⟨hz,rfl⟩;rw[LI.fre]at this;simpa using this
 have hm':(y,NameKind.free)∈sc.names:=by
  have:(y,NameKind.free)∈sc.names.filter λp=>p.2 == .free:=by rw[LI.fre];simp
  exact(V6.mp this).1
 have hclo:closureFor sc X.env=pure [(y,c)]:=by
  rw[ng λz hz hf=>by
   obtain⟨z1,z2⟩:=z;cases hf
   rw[fr z1 hz];exact⟨c,hcl⟩,zC hcl _ _ LI.fre]
 refine V3 (Fv I1 LI.mem tab code LI.qual hclo LI.deft λfa c' oq H2 s2 ctv pm I2 ext gf nf zf zq co=>?_);refine Calls.spliced_nil ⟨I2.kIn,?_⟩;have E2:=E1.exten ext;obtain⟨_,e1,ra⟩:=E2.head_d;cases e1;have E3:=E2.tail;obtain⟨sv,hsl,v',rfl,rd⟩:=E3.slot qi;obtain⟨m,_,hl⟩:=I2.loc;obtain⟨u',rv',lk⟩:=hl i y v' LI.at_i hsl (.inr (.inl LI.cel))
 obtain⟨oc,gc,dc⟩:s2.heap.IsCell c (some u'):=by
  rcases lk with⟨z,_⟩|⟨_,c2,e2,z⟩
  . rw[show X.env.kindOf y=some .cell from LI.cel]at z;cases z
  . rw[hcl]at e2;cases e2;exact z
 have nc:H2 c=none:=(I2.freeC y c hcl).resolve_right λz=>by rw[LI.fn]at z;exact absurd z.1 x_
 have hfc:fa≠c:=λz=>by rw[z,gc]at gf;cases gf;cases dc
 have e0:=I2.hide;have nfh:mS H2 fa=none:=fF nf;have nch:mS H2 c=none:=fF nc;have nco:∀q,¬ly oc q:=λq ⟨vs,t,z,_⟩=>by rw[dc]at z;cases z
 have nfo:∀ q,¬ ly (kla_obj "<lambda>" (sk x) pr bd sc [(y,c)] pm c' ctv) q:=λq ⟨vs,t,z,_⟩=>by cases z
 generalize hfo:kla_obj "<lambda>" (sk x) pr bd sc [(y,c)] pm c' ctv=fo at gf nfo;have n1:PR (mS H2) fa (.frz fo (.own fa)) c=none:=by rw[ay (Vn hfc)];exact nch
 have ext2:∀b o,mS H2 b=some o->PR (PR (mS H2) fa (.frz fo (.own fa))) c (.frz oc (.own c)) b=some o:=λb o z=>by
  have z1:PR (mS H2) fa (.frz fo (.own fa)) b=some o:=by rw[ay (bb z nfh)];exact z
  rw[ay (bb z1 n1)];exact z1
 have s0c:X.s₀.heap.objs.size<=c:=I2.ok.cab y c LI.fn hcl;have s0f:X.s₀.heap.objs.size<=fa:=Uv I1.sz zf;have none2:∀b,mS H2 b=none->b≠fa->b≠c->PR (PR (mS H2) fa (.frz fo (.own fa))) c (.frz oc (.own c)) b=none:=λb z h1 h2=>by rw[ay h2,ay h1];exact z
 have E0c:Bx X.prog X.w X.K X.mg X.base X.A X.stack s2 (PR (PR (mS H2) fa (.frz fo (.own fa))) c (.frz oc (.own c))):=by
  refine⟨e0.frames,e0.mod,λb o z=>⟨(e0.bs b o z).1,none2 b (e0.bs b o z).2 ?_ ?_⟩,e0.bsz,e0.funs,λb hb=>none2 b (e0.frf b hb) ?_ ?_,λb o z=>?_,e0.bare,λz hz c1 P1 q=>ext2 _ _ (e0.tbs z hz c1 P1 q)⟩
  . exact UI (Uj (Up (I2.ok.bs b o z).1) s0f)
  . exact UI (Uj (Up (I2.ok.bs b o z).1) s0c)
  .
   rcases Uo.mp (I2.stkSub b hb)with z|z
   . rw[z];exact UI (Uj I1.lt zf)
   . obtain⟨_,o,ho,_⟩:=I2.ok.funs.mem z;exact UI (Uj (Up ho) s0f)
  .
   rcases Uo.mp (I2.stkSub b hb)with z|z
   . rw[z];exact Vn (I2.cne y c hcl)
   . obtain⟨_,o,ho,_⟩:=I2.ok.funs.mem z;exact UI (Uj (Up ho) s0c)
  .
   by_cases h1:b=c
   . subst h1;rw[aT]at z;cases z;exact⟨gc,_,gc⟩
   .
    rw[ay h1]at z;by_cases h2:b=fa
    . subst h2;rw[aT]at z;cases z;exact⟨gf,_,gf⟩
    . rw[ay h2]at z;exact(e0.hok b o z).stay (λ_ _ _ q=>q) (λd q=>ext2 d _ q) (λd xs q=>ext2 d _ q) λd od _ _ q=>ext2 d _ q
 have pr2:∀{v:V}{d:D},QH X.K H2 v d->QH X.K (PR (PR (mS H2) fa (.frz fo (.own fa))) c (.frz oc (.own c))) v d:=λr=>(QH.hid r).pres λb o _ z=>ext2 b o z;have rfn:QH X.K (PR (PR (mS H2) fa (.frz fo (.own fa))) c (.frz oc (.own c))) (.ref fa) (.fn x d):=by refine .fn LI.lam (y:=y) (c:=c) (c':=c') (pm:=pm) (ctv:=ctv) ?_ (ext2 _ _ (eZ zq (mZ _ _))) co aT dc rv' hm' (pr2 rd);rw[ay hfc,aT,hfo]
 have hsp:Rx X.K 2 fs [v1,.ref fa] (PR (PR (mS H2) fa (.frz fo (.own fa))) c (.frz oc (.own c))) (λv H'=>v=.non/\so (.d .non) Z1) (λcls dx H'=>∃z,AM X.K H' cls dx z/\qo z.ds=true/\xp z):=by refine⟨rfl,[a,.fn x d],_,_,.cons (pr2 ra) (.cons rfn .nil),q1,λv H' r E' p=>?_,λcls dx H' z f1 f2=>⟨z,f1,f2⟩⟩;obtain⟨rfl,p⟩:=p;obtain⟨w,ew,rw⟩:=E'.head_d;cases ew;obtain rfl:=QH.inv_non rw;exact⟨rfl,p⟩
 have rvs:bT [v1,.ref fa] [u1,.ref fa]:=.cons rv1 (.cons rfl .nil);have hl':([u1,.ref fa]:List Value).length=ps.length:=by rw[<- rvs.length];exact F.len _ _ _ _ hsp
 have bt:=hb s2 [u1,.ref fa] I2.kIn (by rw[U5];exact hl');rw[U5]at bt;refine Wa (V8 (F.run X.A X.stack s2 _ ⟨[u1,.ref fa],[]⟩ [u1,.ref fa] [v1,.ref fa] _ _ hr E0c bt rvs hsp) λres s' hq=>?_)
 cases res with
 | error ev =>
  obtain⟨ax,cls,dx,T,H',rfl,os,bare,un,hok,fl,na,nt,za,zt,z,f1,f2,f3⟩:=hq;have zc:H' c=some (.frz oc (.own c)):=un.frzs c oc _ aT;have zf2:H' fa=some (.frz fo (.own fa)):=un.frzs fa fo _ (by rw[ay hfc,aT]);obtain⟨un1,hok1⟩:=un.one n1 gc nco hok;obtain⟨un2,hok2⟩:=un1.one nfh gf nfo hok1;obtain⟨I3,ext3,back⟩:=I2.unhide os bare un2 hok2
  have keep:∀b o,H' b=some o->(∀oo,o≠.frz oo (.own b))->Rm (Rm H' c) fa b=some o:=λb o q n=>by
   have h1:b≠c:=λy=>by subst y;rw[zc]at q;cases q;exact n _ rfl
   have h2:b≠fa:=λy=>by subst y;rw[zf2]at q;cases q;exact n _ rfl
   rw[cO h2,cO h1];exact q
  have fly:AM X.K (Rm (Rm H' c) fa) cls dx z:=by
   obtain⟨C,vs,g1,g2,g3,g4,g5⟩:=f1;refine⟨C,vs,g1,g2,g3,?_,g5.lite (λb xs q=>keep b _ q λ_ y=>nomatch y) (λb o xs q=>keep b _ q λ_ y=>nomatch y) f2⟩;rcases g4 with g4|⟨dd,od,k1,k2,k3⟩
   . exact .inl g4
   . exact .inr ⟨dd,od,k1,keep dd _ k2 (λ_ y=>nomatch y),k3⟩
  refine hx gV σ _ s' ax cls dx (some T) z I3 ⟨fl,?_,λt et=>?_,I2.newer za,λt et=>by cases et;exact I2.newer zt⟩ (fly.ext λb o q=>dU q) f3
  . rw[kW (gu (gu na))];exact I2.hok.fresh za
  . cases et;rw[kW (gu (gu nt))];exact I2.hok.fresh zt
 | ok fl =>
  cases fl with
  | ret u =>
   obtain⟨v,H',os,bare,un,hok,rv,hv,pq⟩:=hq;subst hv;obtain⟨un1,hok1⟩:=un.one n1 gc nco hok;obtain⟨un2,hok2⟩:=un1.one nfh gf nfo hok1;obtain⟨I3,ext3,back⟩:=I2.unhide os bare un2 hok2;exact⟨.non,_,.d .non,Z1,I3,rv,(E3.exten ext3).cons_d .non,pq⟩
  |next=>exact False.elim hq
  |brk=>exact False.elim hq
  |cont=>exact False.elim hq
end
structure LV (K:Frag) (x:Str) (fd:FuncData) (st:Stmt):Prop where
 tab:∃c0 P,tabIn K x=some (c0,P)/\fd.code=.ref c0
 lam:Av K x=BH (cL st)
theorem LV.mk'{K:Frag}{x:Str}{fd:FuncData}{st:Stmt}{c0:Addr}(h1:(tabIn K x).map (·.1)=some c0)(h2:fd.code=.ref c0)(h3:Av K x=BH (cL st)):LV K x fd st:=by
 refine⟨?_,h3⟩
 cases z:tabIn K x with
 |none=>rw[z]at h1;cases h1
 |some p=>rw[z]at h1;cases h1;exact⟨p.1,p.2,rfl,h2⟩
theorem LW{X:Cx}{x y:Str}{i:Nat}{pr:Arguments}{bd:Expr}{sc:Scope}{pos:Pos}{fd:FuncData}{st:Stmt}(T:LV X.K x fd st)(hc:fd.code=X.env.code)(h1:BH (cL st)=some (pr,bd,sc,pos))(mem:x∈lamNames) (qual:X.env.qual++"<lambda>"=sk x) (deft:defaultsOf pr X.env=([],[]))
  (fre:(sc.names.filter λp=>p.2 == .free)=[(y,.free)]) (at_i:X.N[i]?=some y) (cel:X.env.scope.names.lookup y=some .cell) (fn:X.fn y=true):Je X x y i pr bd sc pos :=
 ⟨mem,let ⟨c0,P,a,b⟩:=T.tab;⟨c0,P,a,by rw[<- hc];exact b⟩,T.lam.trans h1,qual,deft,fre,at_i,cel,fn⟩
theorem Jf{P:Program}{w:World}{K:Frag}{mg:Str->Option Value}{base:Heap}{x qual:Str}{st:Stmt}{f:Addr}{fd:FuncData}{N ps:List Str}{k:Nat}{fs:Rw}(F:QF K x qual st f fd)(S:aU N ps (au st))(t:(Xc->Prop)->W Fl)
  (hbody:∀(cdv:Value)(A:Around)(outer:List Env)(s:Shared)(H:Hp)(E:XK)(xp:Xc->Prop),fd.code=cdv->g6 k (A.deeper (envOfC qual (au st) s.heap.objs.size f cdv))->(∀cls dx H' y,AM K H' cls dx y->xp y->E cls dx H') ->
   QM (D2 (Rt P w) P w K mg base N qual (au st) f cdv A outer s H E) (cL st) (t xp))
  (h:∀ds so xp,ds.length=ps.length->fs ds so xp->t xp (ds.map .d++List.replicate (N.length-ps.length) .un) (Ry so)):FnOk P w K mg base (Rt P w) (k+1) f fd ps (Rx K ps.length fs):=by
 obtain⟨oc,od,kV,doc,pm,an,cdv,ct,osl,rfl,lk,hcd⟩:=F.ex;refine Hr lk hcd S (λvs H Q E q=>q.1) λA outer s H vs Q E hr q=>?_;obtain⟨hl,ds,so,xp,rs,hf,q1,q2⟩:=q;have E0:aC K H H (vs.map some) (ds.map .d):=⟨λ_ _ e=>e,by rw[uk];exact Wg,λa ha=>(by rw[uk]at ha;simp at ha),aC.ds rs⟩;refine⟨_,(hbody cdv A outer s H E xp rfl hr q2).pss,H,ds.map .d++List.replicate (N.length-ps.length) .un,Ry so,?_,h ds so xp (by rw[<- rs.length];exact hl) hf,λσ' H' Z' E' p=>?_,λ_ _ _ _ p=>p.elim,λ_ _ _ _ p=>p.elim,λv τ H' r Z' E' p=>?_⟩
 . unfold mX;rw[hl];exact E0.uns _
 . exact q1 .non H' (.d .non) ((⟨E'.sub,Wg,λa ha=>(by simp[owns]at ha),.nil⟩:aC K H H' [] []).cons_d .non) p
 . exact q1 v H' r (aC.left (τ:=[some v]) (lam:=[r]) E' rfl) p
theorem NL{p y:Str}{pr:Arguments}{bd:Expr}{sc:Scope}(par:sc.names.lookup p=some .local)(fre:(sc.names.filter λp=>p.2 == .free)=[(y,.free)])(fr1:sc.names.lookup y=some .free)(nc:(sc.names.all λz=>z.2 != .cell)=true)(co:sc.isCoroutine=false)(gk:(sc.isGenerator,sc.kind)=(false,.function))
  (bind:∀(q:Str)(cl:List (Str×Addr))(pm cdv ct u:Value),bindArgs (kla_fn "<lambda>" q pr bd sc cl pm cdv ct) ⟨[u],[]⟩=pure [(p,u)]):Ja p y pr bd sc where
 par:=par
 fre:=fr1
 nc:=λz hz q=>by have:=US.mp nc z hz;rw[q]at this;exact absurd this x_
 one:=λz hz=>by have:(z,NameKind.free)∈sc.names.filter λp=>p.2 == .free:=V6.mpr ⟨hz,rfl⟩;rw[fre]at this;simpa using this
 co:=co
 gen:=(Prod.mk.inj gk).1
 kind:=(Prod.mk.inj gk).2
 bind:=bind
section
variable{X:Cx}{k k':Nat}{f:Addr}{fd:FuncData}{ps:List Str}{fs:Rw}{g x y nm:Str}{p cpos pos:Pos}{e:Expr}{t:W L}{xp:Xc->Prop}{pr:Arguments}{bd:Expr}{sc:Scope}{st:Stmt}{fl:FS}
theorem Jg(F:FnOk X.prog X.w X.K X.mg X.base (Rt X.prog X.w) k f fd ps (Rx X.K 2 fs))(T:FX X.K X.mg g st f fd ps)(hr:g6 k' X.A)(hx:Rv X xp)(i:Nat)(LI:Je X x y i pr bd sc pos)(ha:PL X e t)(hk:k<=k':=by decide)(hg:Gl X g:=by rfl) (hdb:aab g:=by decide) (he:starEach [e,.Lambda pr bd sc pos] X.env=(false,eval e X.env)::starEach [.Lambda pr bd sc pos] X.env:=by rfl)
  (he2:starEach [.Lambda pr bd sc pos] X.env=(false,eval (.Lambda pr bd sc pos) X.env)::starEach [] X.env:=by rfl):PL X (.Call (.Name g p) [e,.Lambda pr bd sc pos] [] cpos) (uG fs xp x i t) :=
 CA F (hr.mono hk) hg T.m T.f.kp T.b hx i LI ha hdb he he2
theorem GX(L:Fw X.prog X.w X.K X.mg X.base k x fl)(hr:g6 k' X.A)(i:Nat)(ha:PL X e t)(hk:k<=k':=by decide)(hN:X.N[i]?=some nm:=by rfl)(hv:P0 X.env.scope nm:=by first | exact Or.inl rfl | exact Or.inr (Or.inl rfl) | exact Or.inr (Or.inr rfl)) (hd:aab nm:=by decide)
  (hcd:aac nm:=by decide) (hs:starEach [e] X.env=(false,eval e X.env)::starEach [] X.env:=by rfl):PL X (.Call (.Name nm p) [e] [] pos) (rp fl x i t):=Cz L (hr.mono hk) i ha hN hv hd hcd hs
end
end L2
namespace L2
open PySem PySem.W
end L2
namespace L2
open PySem PySem.Spec PyProof.Rows PySem.SeqAt
structure Oz (d:D):Prop where
 ok:RH d=true
 sh:jw d=true
 dp:(Q0 d).depth<=40
 sg:Bf d<=16777216
theorem Oz.len{d:D}(h:Oz d):(Q0 d).shown.length<=sizeLine:=by
 have e:sizeLine=16777216:=by decide
 rw[e];exact Uv (Cw d (rn d h.ok h.sh)) h.sg
end L2
namespace L2
open PySem PySem.Spec PyProof.Rows
def RJ(o q:Option L)(i j:Nat)(t:W L)(Z:Ev)(so:L->Ev->Prop):Prop:=match o,q with
 |some (.own _ xs),some (.own b _)=>i≠j/\dE i Z=true/\t (Z.set i (.d (.lst xs))) λr Z'=>lD r=true/\∃zs,qo zs=true/\Z'=(Z.set i (.d (.lst xs))).set j (.own b zs)/\so r (Z.set j (.own b zs))
 |_,_=>False
theorem Jh(a b:Addr)(xs ys:List D)(i j:Nat)(t:W L)(Z:Ev)(so:L->Ev->Prop):RJ (some (.own a xs)) (some (.own b ys)) i j t Z so=(i≠j/\dE i Z=true/\t (Z.set i (.d (.lst xs))) λr Z'=>lD r=true/\∃zs,qo zs=true/\Z'=(Z.set i (.d (.lst xs))).set j (.own b zs)/\so r (Z.set j (.own b zs))):=rfl
def Pb(o:Option L)(Z:Ev)(so:Bool->Ev->Prop):Prop:=match o with
 |some (.d (.lst xs))=>so (!xs.isEmpty) Z
 |_=>False
theorem Fx(xs:List D)(Z:Ev)(so:Bool->Ev->Prop):Pb (some (.d (.lst xs))) Z so=so (!xs.isEmpty) Z:=rfl
end L2
namespace HT
open PySem PySem.Spec PyProof.Rows
end HT
namespace L2
open PySem PySem.Spec PyProof.Rows
end L2
namespace L2
open PySem PySem.Spec PyProof.Rows PySem.W
end L2
namespace L2
open PySem PySem.Spec PyProof.Rows PySem.SeqAt
end L2
namespace PySem
open PySem.Spec
namespace F
end F
end PySem
namespace L2
open PySem PySem.Spec PyProof.Rows PySem.W
section
variable{key:Nat->Int}{n:Nat}{I:Shared->Prop}{cmp:Nat->Nat->(Bool->Shared->Prop)->Shared->Prop}
def Ji(I:Shared->Prop)(cmp:Nat->Nat->(Bool->Shared->Prop)->Shared->Prop){α:Type}(t:KasT α)(P:α->Prop):Prop:=∀(Q:α->Shared->Prop)(s:Shared),I s->(∀a s',I s'->P a->Q a s')->t.kasWp cmp Q s
def Pc(key:Nat->Int)(n:Nat)(I:Shared->Prop)(cmp:Nat->Nat->(Bool->Shared->Prop)->Shared->Prop):Prop:=∀(i j:Nat)(C:Bool->Shared->Prop)(s:Shared),i<n->j<n->i≠j->I s->(∀s',I s'->C (decide (key i<key j)) s')->cmp i j C s
noncomputable def kk(key:Nat->Int)(p:Array Nat)(i:Nat):Int:=key (p.getD i 0)
structure LX (n:Nat) (p:Array Nat):Prop where
 sz:p.size=n
 pm:p.toList.Perm (List.range n)
theorem LX.lt{p:Array Nat}(g:LX n p){i:Nat}(h:i<n):p.getD i 0<n:=by
 have hs:i<p.size:=by rw[g.sz];exact h
 have e:p.getD i 0=p[i]:=by simp[Array.getD,hs]
 rw[e];exact Wh.mp (g.pm.mem_iff.mp (by rw[<- Array.getElem_toList];exact Vm _))
theorem Ji.ask{α:Type}{i j:Nat}{k:Bool->KasT α}{P:α->Prop}(hc:Pc key n I cmp)(hi:i<n)(hj:j<n)(hn:i≠j)(h1:key i<key j->Ji I cmp (k true) P)(h2:¬key i<key j->Ji I cmp (k false) P):Ji I cmp (.ask i j k) P:=λQ s hI hq=>by
 refine hc i j _ s hi hj hn hI λs' hI'=>?_;by_cases c:key i<key j
 . rw[Uw c];exact h1 c Q s' hI' hq
 . rw[Uy c];exact h2 c Q s' hI' hq
theorem Ji.mono{α:Type}{t:KasT α}{P R:α->Prop}(h:Ji I cmp t P)(hr:∀a,P a->R a):Ji I cmp t R:=λQ s hI hq=>h Q s hI λa s' hI' ha=>hq a s' hI' (hr a ha)
end
end L2
namespace L2
open PySem PySem.Spec PyProof.Rows PySem.Builtin.Str
section
variable{X:Cx}{o e a b c:Expr}{es rest:List Expr}{pos p apos cpos:Pos}{to te:W L}{x y:Str}
theorem zD{f:Str->Prop}:∀{r:L},(match r with | .d (.str x)=>f x|_=>False)->∃z,r=.d (.str z)
 |.d (.str z),_=>⟨z,rfl⟩
def Jj:V->List V->Hp->VK->Prop:=λx vs H Q=>∃z y,x=.str z/\vs=[.str y]/\Q (.bl (Txt.startswith z y)) H
theorem CB:Qw X "str.startswith" Jj:=by intro gV s σ H x vs v us Q I rx rv h;obtain⟨z,y,rfl,rfl,q⟩:=h;obtain⟨t,rfl⟩:=rx;obtain⟨u,rfl,ru⟩:=rv.one;obtain⟨t',rfl⟩:=ru;exact SC.startswith ⟨.bl _,H,I,rfl,q⟩
def ye(to:W L)(y:Str):W L:=λZ so=>to Z λr Z1=>match r with
 |.d (.str x)=>so (.d (.bl (Txt.startswith x y))) Z1
 |_=>False
theorem CC{y:Str}{j:Nat}{pz:Pos}(ho:PL X o to)(hs1:starEach [.Constant (.str y) j pz] X.env=[(false,eval (.Constant (.str y) j pz) X.env)]:=by rfl) (hbase:attributeBase o "startswith" X.env (eval o X.env)=eval o X.env:=by rfl)
  (hfew:((backTo cpos (starEach [.Constant (.str y) j pz] X.env)).all (λx=>!x.1) && (backToKw cpos (keywordEach [] X.env)).all (λx=>x.1.isSome)
   && decide (([Expr.Constant (.str y) j pz]).length+([]:List Keyword).length+(if([]:List Keyword).isEmpty then 0 else 1)<30))=true:=by rfl)
  (hline:(apos.endLine == cpos.line)=true:=by rfl) (hplain:(backTo cpos (starEach ([]:List Expr) X.env)).any (·.1)=false:=by rfl) :
  PL X (.Call (.Attribute o "startswith" apos) [.Constant (.str y) j pz] [] cpos) (ye to y):=by
 refine PL.of (BD PySem.F.plainAttrs_str PySem.F.slot_str_startswith PySem.F.type_str_startswith CB ho.pe (bE sT eX hs1) (hbase:=hbase) (hfew:=hfew) (hline:=hline) (hs:=hs1) (hplain:=hplain)) λσ H Pr Z so E h=>?_;refine⟨Pr,Z,_,E,h,λv H' r Z' E' pp=>?_⟩;obtain⟨z,rfl⟩:∃z,r=.d (.str z):=zD pp;obtain⟨_,e1,p1⟩:=E'.head_d;cases e1;obtain rfl:=QH.inv_str p1;exact⟨rfl,z,y,rfl,rfl,_,_,E'.tail.cons_d (.bl _),pp⟩
theorem Jk{prog:Program}{w:World}{A:Around}{E:Value->Shared->Prop}{s:Shared}{t u:Tok}{Q:Value->Shared->Prop}(hy:(y.length == 0)=false)(h1:x.length<=sizeLine)(h2:(Txt.split x y).length<=sizeLine)
  (hq:∀(tk:Nat)(l:List (Str×Tok)),l.map (·.1)=Txt.split x y->Q (.ref s.heap.objs.size) {s with heap:=s.heap.push {cls:=.type "list",data:=.seq (strValues l).toArray},toks:=tk}) :
  wpAny (model prog w) A (call (.builtin "str.split") [.str x t,.str y u]) Q E s:=by
 by_cases c:(decide (x.length<y.length) ||decide (strKind x<strKind y))=true
 . refine call_meets F.slot_str_split (typeIs_str _ _ _) F.entry_str_split (F.args_str_split_2 _ _) (meets_str_split_cannot_occur x y t u c) ?_;exact hq _ [(x,t)] (by unfold Txt.split;rw[if_pos c];rfl)
 .
  have c':=VF.mpr c;by_cases d:(occurrences x y 0 x.length (x.length+1)).isEmpty=true
  . refine call_meets F.slot_str_split (typeIs_str _ _ _) F.entry_str_split (F.args_str_split_2 _ _) (meets_str_split_not_found x y t u c' hy d) ?_;exact hq _ [(x,t)] (by unfold Txt.split;rw[if_neg c,if_pos d];rfl)
  .
   have d':=VF.mpr d;have es:Txt.split x y=partsBetween x (occurrences x y 0 x.length (x.length+1)) y.length:=by unfold Txt.split;rw[if_neg c,if_neg d]
   rw[es]at h2;refine call_meets F.slot_str_split (typeIs_str _ _ _) F.entry_str_split (F.args_str_split_2 _ _) (meets_str_split_sep x y t u c' hy d' h1 h2) ?_;have:=hq (s.toks+(partsBetween x (occurrences x y 0 x.length (x.length+1)) y.length).length) (numbered s.toks (partsBetween x (occurrences x y 0 x.length (x.length+1)) y.length)) (by unfold Txt.split;rw[if_neg c,if_neg d];exact numbered_texts _ _);rw[<- strsFrom_eq]at this;exact this
theorem v8:∀(l:List (Str×Tok))(zs:List Str),l.map (·.1)=zs->bT (zs.map V.str) (strValues l)
 |[],_,rfl=>.nil
 |p::l,_,rfl=>.cons ⟨p.2,rfl⟩ (v8 l _ rfl)
theorem zE{K:W.Frag}{H:Hp}:∀zs:List Str,bC K H (zs.map V.str) (zs.map D.str)
 |[]=>.nil
 |z::zs=>.cons (.str z) (zE zs)
def Fy(x y:Str):Prop:=(y.length == 0)=false/\x.length<=sizeLine/\(Txt.split x y).length<=sizeLine
def LY:V->List V->Hp->VK->Prop:=λx vs H Q=>∃z y,x=.str z/\vs=[.str y]/\Fy z y/\∀p,H p=none->Q (.ref p) (PR H p (.lst ((Txt.split z y).map V.str)))
theorem Fz:Qw X "str.split" LY:=by intro gV s σ H x vs v us Q I rx rv h;obtain⟨z,y,rfl,rfl,⟨k1,k2,k4⟩,q⟩:=h;obtain⟨t,rfl⟩:=rx;obtain⟨u,rfl,ru⟩:=rv.one;obtain⟨t',rfl⟩:=ru;refine Jk k1 k2 k4 λtk l e=>⟨.ref _,_,I.lnew (t':=tk) (v8 l _ e) (by rw[tu];exact k4),rfl,q _ I.fresh⟩
def j3(to:W L)(y:Str):W L:=λZ so=>to Z λr Z1=>match r with
 |.d (.str x)=>Fy x y/\∀a,so (.own a ((Txt.split x y).map D.str)) Z1
 |_=>False
theorem fb{y:Str}{j:Nat}{pz:Pos}(ho:PL X o to)(hs1:starEach [.Constant (.str y) j pz] X.env=[(false,eval (.Constant (.str y) j pz) X.env)]:=by rfl) (hbase:attributeBase o "split" X.env (eval o X.env)=eval o X.env:=by rfl)
  (hfew:((backTo cpos (starEach [.Constant (.str y) j pz] X.env)).all (λx=>!x.1) && (backToKw cpos (keywordEach [] X.env)).all (λx=>x.1.isSome)
   && decide (([Expr.Constant (.str y) j pz]).length+([]:List Keyword).length+(if([]:List Keyword).isEmpty then 0 else 1)<30))=true:=by rfl)
  (hline:(apos.endLine == cpos.line)=true:=by rfl) (hplain:(backTo cpos (starEach ([]:List Expr) X.env)).any (·.1)=false:=by rfl) :
  PL X (.Call (.Attribute o "split" apos) [.Constant (.str y) j pz] [] cpos) (j3 to y):=by
 refine PL.of (BD PySem.F.plainAttrs_str PySem.F.slot_str_split PySem.F.type_str_split Fz ho.pe (bE sT eX hs1) (hbase:=hbase) (hfew:=hfew) (hline:=hline) (hs:=hs1) (hplain:=hplain)) λσ H Pr Z so E h=>?_;refine⟨Pr,Z,_,E,h,λv H' r Z' E' pp=>?_⟩;obtain⟨z,rfl⟩:∃z,r=.d (.str z):=zD pp;obtain⟨ok,pp⟩:=pp;obtain⟨_,e1,p1⟩:=E'.head_d;cases e1;obtain rfl:=QH.inv_str p1;exact⟨rfl,z,y,rfl,rfl,ok,λp hp=>⟨_,_,E'.tail.cons_own hp (zE _),pp p⟩⟩
theorem CD:iH X (.type "int") (λxs H Q=>∃ z n,xs=[.str z]/\z.length<=640/\PySem.intText? z=some n/\Q (.int n) H):=by intro gV s σ H xs us Q I r h;obtain⟨z,n,rfl,hl,hn,q⟩:=h;obtain⟨u,rfl,t,rfl⟩:=ub r;exact W.KIN.call_text hn hl ⟨.int n,H,I.tok _,⟨_,rfl⟩,q⟩
def v9:Q2:=λds k=>match ds with
 |[.str z]=>∃n,z.length<=640/\PySem.intText? z=some n/\k (.d (.int n))
 |_=>False
theorem CF:gm X (.type "int") v9:=gm.of CD λσ H Pr Z vs ds so E ps h=>by
 unfold v9 at h;split at h
 case h_2=>exact h.elim
 rename_i z;obtain⟨n,hl,hn,h⟩:=h;obtain⟨v,rfl,r⟩:=qU ps;obtain rfl:=QH.inv_str r;exact⟨z,n,rfl,hl,hn,_,E.cons_d (.int _),h⟩
theorem CG:iH X (.type "str") (λxs H Q=>∃ n,xs=[.int n]/\n.natAbs.log2 < 1920/\Q (.str (Str.ofString (toString n))) H):=by intro gV s σ H xs us Q I r h;obtain⟨n,rfl,hl,q⟩:=h;obtain⟨u,rfl,t,rfl⟩:=ub r;exact PySem.P.str_of_int hl ⟨.str _,H,I.tok _,⟨_,rfl⟩,q⟩
def j4:Q2:=λds k=>match ds with
 |[.int n]=>n.natAbs.log2<1920/\k (.d (.str (Str.ofString (toString n))))
 |_=>False
theorem j5:gm X (.type "str") j4:=gm.of CG λσ H Pr Z vs ds so E ps h=>by
 unfold j4 at h;split at h
 case h_2=>exact h.elim
 rename_i n;obtain⟨hl,h⟩:=h;obtain⟨v,rfl,r⟩:=qU ps;obtain rfl:=QH.inv_int r;exact⟨n,rfl,hl,_,E.cons_d (.str _),h⟩
noncomputable def FC(x:Str)(n:Nat):Str:=⟨(List.replicate n x.cps).foldl (·++·) #[]⟩
theorem uH(xs:Array Nat):∀(k:Nat)(acc:Array Nat),((List.replicate k xs).foldl (·++·) acc).size=acc.size+xs.size*k
 |0,acc=>by simp
 | k+1,acc=>by rw[U1,V5,uH xs k,Array.size_append,Nat.mul_succ];omega
theorem Jl:Qi X (binaryOp .Mult) (λx y H Q=>∃a n,x=.str a/\y=.int n/\(2<=n/\n<=1000/\1<=a.length/\a.length<=1000)/\Q (.str (FC a n.toNat)) H):=by
 intro gV s σ H x y v u Q I rx ry ⟨a,n,e1,e2,⟨h1,h2,h3,h4⟩,q⟩;subst e1 e2;obtain⟨t,rfl⟩:=rx;obtain⟨t',rfl⟩:=ry;have c:(n == 1 ||a.length == 0)=false:=by rw[Bool.or_eq_false_iff,UP,UP];omega
 have hm:a.length*n.toNat<=1000*1000:=Nat.mul_le_mul h4 xL;refine PySem.P.mul_str (by rw[Uy xL,Uy xL];rfl) (λ_ _=>?_) (λ_ _=>?_) ?_
 .
  rw[Int.not_lt,Int.le_ediv_iff_mul_le xL];have e:((a.length:Int)*n)=((a.length*n.toNat:Nat):Int):=by rw[Int.natCast_mul,Int.toNat_of_nonneg xL]
  rw[e];omega
 .
  have e:sizeLine=16777216:=by decide
  unfold tooLong;exact Uy xL
 .
  rw[if_neg (by omega),if_neg (by rw[c];decide)];have e:sizeLine=16777216:=by decide
  refine⟨?_,.str _,H,I.tok _,⟨_,rfl⟩,q⟩;show((List.replicate n.toNat a.cps).foldl (·++·) #[]).size<=sizeLine;rw[uH];have:a.length=a.cps.size:=rfl;rw[this]at hm;show 0+_<=_;omega
def lF:QP:=λx y k=>match x,y with
 |.str a,.int n=>2<=n/\n<=1000/\1<=a.length/\a.length<=1000/\k (.d (.str (FC a n.toNat)))
 |_,_=>False
theorem oY:QQ X (binaryOp .Mult) lF:=QQ.of Jl λσ H Pr Z x y dx dy so E px py h=>by
 unfold lF at h;split at h
 case h_2=>exact h.elim
 rename_i a n;obtain⟨h1,h2,h3,h4,h⟩:=h;obtain rfl:=QH.inv_str px;obtain rfl:=QH.inv_int py;exact⟨a,n,rfl,rfl,⟨h1,h2,h3,h4⟩,_,E.cons_d (.str _),h⟩
def M6(te:W L):W L:=λZ so=>te Z λr Z1=>match r with
 |.d (.int i)=>i.natAbs.log2<1920/\so (.d (.str (Str.ofString (toString i)))) Z1
 |.d (.str x)=>x.length<=sizeLine/\so (.d (.str x)) Z1
 |_=>False
theorem NM{f:Int->Prop}{g:Str->Prop}:∀{r:L},(match r with | .d (.int i)=>f i | .d (.str x)=>g x|_=>False)->(∃i,r=.d (.int i))∨∃z,r=.d (.str z)
 |.d (.int i),_=>.inl ⟨i,rfl⟩
 |.d (.str z),_=>.inr ⟨z,rfl⟩
theorem GY(he:PL X e te):PL X (.FormattedValue e (-1) none pos) (M6 te):=by
 intro gV s σ H Pr Z so I E h;refine FormattedValue_plain (P8 (he gV s σ H Pr Z _ I E h) λu s1 h_=>h_.on λv H1 r Z' I1 rv E1 pp=>?_);rcases NM pp with⟨i,rfl⟩|⟨x,rfl⟩
 . obtain⟨hi,pp⟩:=pp;obtain⟨_,e1,p1⟩:=E1.head_d;cases e1;obtain rfl:=QH.inv_int p1;obtain⟨t,rfl⟩:=rv;exact formatField_int_small hi ⟨.str _,H1,_,Z',I1.tok _,⟨_,rfl⟩,E1.tail.cons_d (.str _),pp⟩
 . obtain⟨hx,pp⟩:=pp;obtain⟨_,e1,p1⟩:=E1.head_d;cases e1;obtain rfl:=QH.inv_str p1;obtain⟨t,rfl⟩:=rv;exact formatField_str (λt' tk=>⟨.str _,H1,_,Z',I1.tok _,⟨_,rfl⟩,E1.tail.cons_d (.str _),pp⟩) hx
def LZ:List (W L)->Str->W L
 |[],out=>λZ so=>out.length<=sizeLine/\so (.d (.str out)) Z
 | t::ts,out=>λZ so=>t Z λr Z1=>match r with
  |.d (.str y)=>(out++y).length<=sizeLine/\LZ ts (out++y) Z1 so
  |_=>False
inductive RK (X:Cx):List Expr->List (W L)->Prop
 |nil:RK X [] []
 |cons {e:Expr} {es:List Expr} {t:W L} {ts:List (W L)} (h:PL X e t) (hs:RK X es ts):RK X (e::es) (t::ts)
theorem FD{gV:List (Addr×Obj)}{σ:St}{Pr:Hp}{so:L->Ev->Prop}:∀{es:List Expr}{ts:List (W L)},RK X es ts->∀(out:Str)(s:Shared)(H:Hp)(Z:Ev),P4 X gV σ H s->aC X.K Pr H σ Z->LZ ts out Z so ->
  wpAny (model X.prog X.w) X.A (joinParts out (evalEach es X.env)) (EL X gV σ Pr so) X.xe s:=by
 intro es ts hs
 induction hs with
 | nil =>
  intro out s H Z I E h;exact joinParts_nil ⟨.str _,H,_,Z,I.tok _,⟨_,rfl⟩,E.cons_d (.str _),h.2⟩ h.1
 | cons he _ ih =>
  intro out s H Z I E h;refine joinParts_cons (P8 (he gV s σ H Pr Z _ I E h) λu s1 h_=>h_.on λv H1 r Z' I1 rv E1 pp=>?_);obtain⟨y,rfl⟩:∃z,r=.d (.str z):=zD pp;obtain⟨hy,pp⟩:=pp;obtain⟨_,e1,p1⟩:=E1.head_d;cases e1;obtain rfl:=QH.inv_str p1;obtain⟨t,rfl⟩:=rv;exact⟨hy,ih _ s1 H1 Z' I1 E1.tail pp⟩
theorem Jm{ts:List (W L)}{t1 t2:W L}(h1:PL X a t1)(h2:PL X b t2)(hs:RK X rest ts):PL X (.JoinedStr (a::b::rest) pos) (LZ (t1::t2::ts) Str.empty) :=
 λgV s σ H Pr Z so I E h=>JoinedStr_many (FD (.cons h1 (.cons h2 hs)) _ s H Z I E h)
end
end L2
namespace L2
open PySem PySem.Spec PyProof.Rows
section
def NN(o:Option L)(P:Prop):Prop:=match o with
 |some (.d (.str _))=>P
 |_=>False
theorem Jn(x:Str)(P:Prop):NN (some (.d (.str x))) P=P:=rfl
end
end L2
namespace L2
open PySem PySem.Spec PyProof.Rows PySem.Builtin.Str
def Pd(x:Str)(d:D)(P:Prop):Prop:=match d with
 |.gf z=>z=x/\P
 |_=>False
theorem Jo(x:Str)(P:Prop):Pd x (.gf x) P=P:=propext ⟨λh=>h.2,λh=>⟨rfl,h⟩⟩
section
variable{o:Expr}
def Pe(o:Option L)(k:Str->Prop):Prop:=match o with
 |some (.d (.str x))=>k x
 |_=>False
theorem Ma(x:Str)(k:Str->Prop):Pe (some (.d (.str x))) k=k x:=rfl
end
end L2
namespace L2
open PySem PySem.Spec PyProof.Rows PySem.Builtin PySem.Builtin.Str
end L2
namespace PySem
open Sem (wp)
open AutoSeq1 (wpAny_loadPart')
section
variable{prog:Program}{w:World}{A:Around}{E:Value->Shared->Prop}{s:Shared}
theorem AS{T newId initId:String}{Bn Bi:Builtin}{args:List Value}{kw:List (Str×Value)}{S:Spec}{Q Q₁:Value->Shared->Prop}(ft:TypeCalled T newId initId)
  (hct:checkTypeCall T ⟨args,kw⟩=pure ()) (hcn:checkBuiltinCall newId ⟨.type T::args,kw⟩=pure ())
  (entryN:entryFor table newId=some Bn) (entryI:entryFor table initId=some Bi) (g:Meets (Bn ⟨.type T::args,kw⟩) S)
  (h:S A.in1 (wants Q₁ E) s)
  (hnext:∀obj s₁,Q₁ obj s₁->s₁.TypeIs obj T/\argsOk initId ⟨obj::args,kw⟩/\∃Si,Meets (Bi ⟨obj::args,kw⟩) Si/\Si A.in1 (wants (λr s₂=>r=.none/\Q obj s₂) E) s₁) :
  wpAny (model prog w) A (call (.type T) args kw) Q E s:=by
 obtain⟨c,tl,hmro⟩:=ft.mro;have hmade:=ft.made;have hsub:=ft.sub;refine Wa (codeAny_of_tree ?_);show wpAny _ _ (callAny (.type T) _) _ _ _;refine Um ⟨Code.quiet_builtin _ y_,codeAny_builtin F.entry_type_call ?_⟩;rw[Around.under_plain (weight_type_call_type T args kw) (units_type_call_type T args kw)];have h1:=ft.notType;have h2:=ft.canCreate
 repeat (any_goals (first|assumption|wp_step))
 refine V8 (VE ft.plain entryN (wpAny_of_eq hcn (g prog w A.in1 _ s h))) λr s₁ hr=>?_
 cases r with
 |error e=>exact hr
 | ok fl =>
  cases fl with
  | ret obj =>
   obtain⟨hT,hok,Si,gi,hsi⟩:=hnext _ _ hr;have hli:=ft.init.lookup;have hbi:=ft.init.bind obj
   repeat (any_goals (first|assumption|wp_step))
   refine V8 (VE ft.init.plain entryI (ft.init.check _ _ _ _ _ _ _ _ hT hok (gi prog w A.in1 _ s₁ hsi))) λr₂ s₂ hr₂=>?_
   cases r₂ with
   |error e=>exact hr₂
   | ok fl₂ =>
    cases fl₂ with
    | ret r =>
     obtain⟨rfl,hq⟩:=hr₂
     repeat (any_goals (first|assumption|wp_step))
    |_=>exact hr₂.elim
  |_=>exact hr.elim
theorem Jp{T newId:String}{self:Value}{rest:List Value}{kw:List (Str×Value)} (hl:typeLookup (.type T) "__init__"=pure (some (.builtin "object.__init__")))
  (hm:Bind.madeBy (.type T)=pure (some newId)) (hne:(some newId != some "object.__new__")=true) (hr:rest≠[]) :
  Meets (Builtin.«object.__init__» ⟨self::rest,kw⟩) (λ_ R s=>s.TypeIs self T/\R (.ok (.ret .none)) s):=by
 refine Meets.of_wp λprog w A R s hs=>?_;obtain⟨hT,hq⟩:=hs
 cases rest with
 |nil=>exact absurd rfl hr
 | cons a rest =>
  repeat (any_goals (first|assumption|wp_step))
  exact⟨_,rfl,hq⟩
theorem CH(l:Addr)(items:Array Value)(n:Nat)(dct:Option Addr)(sl:Array (Option Value))(t:Tok) :
  Meets (Builtin.«enumerate.__new__» ⟨[.type "enumerate",.ref l],[(Str.ofString "start",.int 1 t)]⟩) (λ_ R s=>s.heap.get? l=some {cls:=.type "list",dict:=dct,data:=.seq items n,slots:=sl} /\
   R (.ok (.ret (.ref (s.heap.push {cls:=.type "list_iterator",data:=.fields #[.ref l,.int 0 0] }).objs.size)))
    {s with heap:=(s.heap.push {cls:=.type "list_iterator",data:=.fields #[.ref l,.int 0 0] }).push {cls:=.type "enumerate",data:=.fields #[.none,.bool false,.ref s.heap.objs.size,rawInt 1,.none,.none] } }) :=
 .of_wp λprog w A R s h=>by
  obtain⟨hp,g,d,tk,os⟩:=s;obtain⟨hl,h⟩:=h;have hsub:=sub_enumerate;have hL:Heap.IsList (Shared.heap ⟨hp,g,d,tk,os⟩) l items:=⟨_,hl,rfl,n,rfl⟩
  wp_walk using wpAny_loadPart' hl
  refine wpAny_stack_any λst=>Um ?_;split
  .
   rename_i c _ _ _ _ _;cases(c == Value.type "enumerate")
   .
    wp_walk using wpAny_loadPart' hl,wpAny_pyIter_list hL
    exact⟨_,rfl,h⟩
   .
    wp_walk using wpAny_loadPart' hl,wpAny_pyIter_list hL
    exact⟨_,rfl,h⟩
  .
   wp_walk using wpAny_loadPart' hl,wpAny_pyIter_list hL
   exact⟨_,rfl,h⟩
end
theorem Draws.up{prog:Program}{w:World}{A:Around}{it:Addr}{fp:List Addr}{n:Nat}{P:Nat->Value->Prop}{St:Nat->Heap->Prop}(D:Draws prog w A it fp n P St):Draws prog w A it fp (n+1) (λi v=>∃j,i=j+1/\P j v) (λi h=>∃j,i=j+1/\St j h) where
 live:=λ_ _ ⟨_,_,st⟩=>D.live _ _ st
 frame:=λ_ _ _ ⟨j,e,st⟩ hk=>⟨j,e,D.frame _ _ _ st hk⟩
 item:=λi s Q E hi ⟨j,e,st⟩ hQ=>by subst e;exact D.item j s Q E xL st λx h' tk hp hs hb=>hQ x h' tk ⟨j,rfl,hp⟩ ⟨j+1,rfl,hs⟩ hb
 done:=λs Q E ⟨j,e,st⟩ hE=>by
  have:j=n:=by omega
  subst this;exact D.done s Q E st hE
section
variable{prog:Program}{w:World}{A:Around}{E:Value->Shared->Prop}{s:Shared}
theorem AU{l:Addr}{items:Array Value}{t:Tok}{Q:Value->Shared->Prop}(hL:s.heap.IsList l items)
  (h:∀h',IsEnum h' (s.heap.objs.size+1) s.heap.objs.size 1 .none->h'.IsListIter s.heap.objs.size l 0->h'.objs.size=s.heap.objs.size+2 ->
   (∀b o,s.heap.get? b=some o->h'.get? b=some o)->Q (.ref (s.heap.objs.size+1)) {s with heap:=h' }) :
  wpAny (model prog w) A (call (.type "enumerate") [.ref l] [(Str.ofString "start",.int 1 t)]) Q E s:=by
 obtain⟨⟨c,dct,dt,sl⟩,hl,hc,n,hd⟩:=hL;replace hc:c=.type "list":=hc;replace hd:dt=.seq items n:=hd;subst hc hd;have hok:∀ obj:Value,argsOk "object.__init__" ⟨[obj,.ref l],[(Str.ofString "start",.int 1 t)]⟩:=λobj=>by unfold argsOk; rw[signature?_of (id:="object.__init__") (n:=['_','_','t','i','n','i','_','_']) (o:=['t','c','e','j','b','o']) z_ F.owner_object]; kernel_rfl
 have hct:checkTypeCall "enumerate" ⟨[.ref l],[(Str.ofString "start",.int 1 t)]⟩=pure ():=by kernel_rfl
 have hcn:checkBuiltinCall "enumerate.__new__" ⟨[.type "enumerate",.ref l],[(Str.ofString "start",.int 1 t)]⟩=pure ():=by kernel_rfl
 refine AS F.called_enumerate hct hcn F.entry_enumerate_new F.entry_object_init (CH l items n dct sl t) (Q₁:=λobj s₁=>s₁.TypeIs obj "enumerate"/\Q obj s₁) ⟨hl,?_⟩ λobj s₁ hq=>⟨hq.1,hok obj,_,Jp F.called_enumerate.init.lookup F.called_enumerate.made x_ v6,hq.1,rfl,hq.2⟩;have hz:(s.heap.push {cls:=.type "list_iterator",data:=.fields #[.ref l,.int 0 0] }).objs.size=s.heap.objs.size+1:=Heap.size_push ..;show _/\_;rw[hz]
 have he:IsEnum ((s.heap.push {cls:=.type "list_iterator",data:=.fields #[.ref l,.int 0 0] }).push
   {cls:=.type "enumerate",data:=.fields #[.none,.bool false,.ref s.heap.objs.size,rawInt 1,.none,.none] }) (s.heap.objs.size+1) s.heap.objs.size 1 .none:=by
  have:=UH (s.heap.push {cls:=.type "list_iterator",data:=.fields #[.ref l,.int 0 0] })
   (o:={cls:=.type "enumerate",data:=.fields #[.none,.bool false,.ref s.heap.objs.size,rawInt 1,.none,.none] }) rfl
  rw[hz]at this;exact this
 refine⟨⟨_,he,rfl⟩,h _ he ⟨_,Ug _ (UH _ rfl),rfl,rfl⟩ (by rw[Heap.size_push,hz]) λb o x=>Ug _ (Ug _ x)⟩
end
end PySem
namespace L2
open PySem PySem.Spec PyProof.Rows PySem.Builtin.Str
section
variable{X:Cx}{e a b c:Expr}{es rest:List Expr}{pos p p2 apos cpos:Pos}{ta:W L}{x y:Str}
noncomputable def OA(K:W.Frag)(a:Addr):It :=
 ⟨λi H=>∃xs x,Qa K H a xs/\xs[i]?=some x,λi H v H'=>∃p x,v=.ref p/\H p=none/\H'=PR H p (.tup [.int ((i+1:Nat):Int),x])/\∀xs,Qa K H a xs->xs[i]?=some x,λi H=>∃xs,Qa K H a xs/\xs.length<=i⟩
theorem AV{P:Program}{w:World}{K:W.Frag}{k:Nat}(q it a:Addr)(hne:q≠it):GC P w K (.Tuple es k pos) (OA K a) [q,it] q (λi h=>(∃old,IsEnum h q it ((i+1:Nat):Int) old)/\h.IsListIter it a i) where
 mem:=by simp
 obj:=λi h st b hb=>by
  obtain⟨⟨old,he⟩,o,e,c,d⟩:=st;rcases Uo.mp hb with rfl|hb
  .
   exact⟨_,he,λv z=>by
    have z':Data.fields _=Data.cell v:=z
    cases z'⟩
  .
   have e':b=it:=by simpa using hb
   subst e';exact⟨o,e,λv z=>by rw[d]at z;cases z⟩
 keep:=λi h h' st kk=>⟨let ⟨old,he⟩:=st.1;⟨old,kk q v6 _ he⟩,st.2.at λo e=>kk it v6 o e⟩
 item:=by
  intro X hP hw hK hc i gV s σ H E I hf st hg;subst hP hw hK;obtain⟨xs,x,hq,hx⟩:=hg;obtain⟨its,rv,p,hz⟩:=I.list hq;obtain⟨u,hu,ru⟩:=rv.get hx;obtain⟨⟨old,he⟩,hit⟩:=st;have hai:a≠it:=λz=>by subst z;obtain⟨o,e,c,d⟩:=hit;obtain⟨o',e',c',_⟩:=p.isList;rw[e]at e';cases e';rw[c]at c';exact absurd c' v6
  have hqa:q≠a:=λz=>by subst z;obtain⟨o',e',c',_⟩:=p.isList;rw[he]at e';cases e';exact absurd c' v6
  have D:=(Draws.list (prog:=X.prog) (w:=X.w) (A:=X.A.in1) (I.ok.hd hc) it a hai its.toArray).up;have hlt:i<its.toArray.size:=by rw[UB];exact(Uh.mp hu).1
  refine wpAny_pyNext_enum_itemD (i:=i+1) D he ⟨i,rfl,hit,p.isList⟩ (Nat.succ_lt_succ hlt) hne (by simp[hne,hqa]) λx' h' tk hPx hout hst' htup hsz hk=>?_;obtain⟨j0,ej,hPx⟩:=hPx;have ej:i=j0:=Nat.succ.inj ej;subst ej;obtain⟨j1,ej1,hst'⟩:=hst';have ej1:i+1=j1:=Nat.succ.inj ej1;subst ej1
  have hx':x'=u:=by
   have:its.toArray[i]?=some u:=by simpa using hu
   rw[this]at hPx;exact(UM hPx).symm
  subst hx';refine⟨.ref s.heap.objs.size,rfl,wpAny_letOwnedTupleGo_enum (s:={s with heap:=h',toks:=tk+1}) hout λh'' he'' hs''=>?_⟩;have qlt:q<s.heap.objs.size:=Up he;have ilt:it<s.heap.objs.size:=by obtain⟨o,e,_⟩:=hit;exact Up e
  have I1:P4 X gV σ (PR H s.heap.objs.size (.tup [.int ((i+1:Nat):Int),x])) {s with heap:=s.heap.push {cls:=.type "tuple",data:=.seq #[.int ((i+1:Nat):Int) tk,x'] },toks:=tk} :=
   I.laid (λb ob q=>Ug _ q) (Ul _) ⟨by show 2<=sizeLine;decide,[.int ((i+1:Nat):Int) tk,x'],.cons ⟨tk,rfl⟩ (.cons ru .nil),⟨_,UH _ rfl,rfl,_,rfl⟩⟩
  have hf1:∀b∈[q,it],Bm X gV (PR H s.heap.objs.size (.tup [.int ((i+1:Nat):Int),x])) b:=λb hb=>by
   refine⟨?_,(hf b hb).2⟩;rw[ay ?_]
   . exact(hf b hb).1
   .
    rcases Uo.mp hb with rfl|hb
    . exact UI qlt
    . rw[Ux.mp hb];exact UI ilt
  have I2:=I1.turnedL (h':=h'') (t':=tk+1) (fp:=[q,it]) (λb o hb e=>by
   have hbq:b≠q:=λz=>hb (by simp[z]);have hbi:b≠it:=λz=>hb (by simp[z]);refine(hs''.2 b hbq).trans ?_;rcases Heap.get?_push_cases e with⟨rfl,rfl⟩|e
   . exact htup
   .
    exact hk b o hbq hbi e) hf1
  refine⟨.ref s.heap.objs.size,_,I2,rfl,⟨_,x,rfl,I.fresh,rfl,λys hy=>by rw[I.list_inj hy hq];exact hx⟩,⟨⟨_,by simpa using he''⟩,hst'.1.extBut hs''.extBut (Vn hne)⟩,λb hb=>(hf1 b hb).1⟩
 done:=by
  intro X hP hw hK hc i gV s σ H E I hf st hg;subst hP hw hK;obtain⟨xs,hq,hx⟩:=hg;obtain⟨its,rv,p,hz⟩:=I.list hq;obtain⟨⟨old,he⟩,hit⟩:=st;have hai:a≠it:=λz=>by subst z;obtain⟨o,e,c,d⟩:=hit;obtain⟨o',e',c',_⟩:=p.isList;rw[e]at e';cases e';rw[c]at c';exact absurd c' v6
  have hl:=rv.length;have hT:s.TypeIs (.ref q) "enumerate":=⟨_,he,rfl⟩;unfold pyNext
  refine kS (wpAny_attempt (wpAny_callSpecial?_slot (name:=Str.ofString "__next__") hT F.slot_enumerate_next
   (wpAny_call_entry F.slot_enumerate_next hT F.entry_enumerate_next ?_ (F.args_enumerate_next_1 _))))
  show wpAny _ _ (field (.ref q) 2 >>= _) _ _ _;refine kS (VX he rfl (x:=.ref it) rfl ?_);refine kS (wpAny_nextOf_list_end (I.ok.hd hc) hit p.isList (by simp;omega) λh' x he' hx'=>?_);obtain⟨o,ho,hcc⟩:=hx';refine kS (wpAny_isInstance (T:="StopIteration") (b:=true) ⟨o,ho,hcc⟩ isSubtype_stop ?_);refine Um ⟨rfl,?_⟩;exact I.turnedL (t':=s.toks) (fp:=[q,it]) (λb o hb e=>he' b o (λz=>hb (by simp[z])) e) hf
 self:=λ_ _ _ _ _ st h=>let ⟨_,he⟩:=st.1;wpAny_pyIter_enum he h
noncomputable def lG(xs:List D):List D:=xs.zipIdx.map λp=>.tup [.int ((p.2+1:Nat):Int),p.1]
theorem yf{K:W.Frag}{H:Hp}{a:Addr}{vs:List V}{xs:List D}(h:QG K H a vs)(r:bC K H vs xs):xM K H (OA K a) (lG xs):=λH' p=>by
 have h':=(h.pres p).l;have kz:(lG xs).length=vs.length:=by rw[r.length];simp[lG]
 refine⟨λi x e=>?_,⟨vs,h',by rw[kz];exact Ul _⟩⟩;have hi:i<vs.length:=by rw[<- kz];exact(Uh.mp e).1
 have hi2:i<xs.length:=by rw[<- r.length];exact hi
 have ex:x=.tup [.int ((i+1:Nat):Int),xs[i]]:=by
  have:(lG xs)[i]?=some (.tup [.int ((i+1:Nat):Int),xs[i]]):=by simp[lG,hi2]
  rw[this]at e;exact(UM e).symm
 obtain⟨v,ev,rv⟩:=r.get (i:=i) (Uu hi2);refine⟨⟨vs,v,h',ev⟩,λw H2 ⟨q,y,e1,e2,e3,e4⟩=>?_⟩;have e5:=e4 vs h';rw[ev]at e5;cases e5;subst e1 e3 ex;refine⟨.inr ⟨_,_,e2,rfl⟩,.tup (.inl (.inl (aT ..))) (.cons (.int _) (.cons ((rv.pres p).new e2) .nil))⟩
def CI(t:W L):W (List D):=λZ so=>t Z λr Z1=>QN r λd=>match d with
 |.lst xs=>so (lG xs) Z1
 |_=>False
theorem FE{M:Model}{A:Around}{E:Value->Shared->Prop}{s:Shared}{env:Env}{pos:Pos}{T:String}{e:Expr}{rest:List Expr}{kws:List Keyword}{Q:Value->Shared->Prop}
  (h:wpAny M A (spliced (backTo pos (starEach (e::rest) env))) (λvs s₁=>wpAny M A (evalAll ((backToKw pos (keywordEach kws env)).map (·.2)))
   (λkvs s₂=>wpAny M A (call (.type T) vs (((backToKw pos (keywordEach kws env)).filterMap (·.1)).zip kvs)) Q E s₂) E s₁) E s)
  (he:backTo pos (starEach (e::rest) env)=(false,eval e env)::backTo pos (starEach rest env))
  (hplain:(backTo pos (starEach (e::rest) env)).any (·.1)=false)
  (hall:(backToKw pos (keywordEach kws env)).all (·.1.isSome)=true)
  (hkw:(backToKw pos (keywordEach kws env)).any (·.1.isNone)=false) :
  wpAny M A (callWith pos (.type T) [] (backTo pos (starEach (e::rest) env)) (backToKw pos (keywordEach kws env))) Q E s:=by
 unfold callWith;refine kS (Vz (U8 (show wpAny M A (evalArgs (.type T) true _ _) (λa s₁=>wpAny M A (call (.type T) ([]++a.pos) a.kw) Q E s₁) E s from by rw[he]at h ⊢;exact evalArgs_kwB hall h) (λa s₁ h₁=>kS (We ?_)) λ_ _ x=>x));simp only[hplain,hkw,Wd];refine kS (Um ?_);exact kS (U8 h₁ (λr s₂ hr=>kS (Vz (wpAny_point (Um hr)))) λ_ _ x=>x)
theorem CJ{k j:Nat}{kpos pz:Pos}{t:W L} (hg:Gl X "enumerate") (hm:X.mg "enumerate"=none) (ha:PL X a t) (hs:starEach [a] X.env=[(false,eval a X.env)]:=by rfl):QZ X (.Tuple es k apos) (.Call (.Name "enumerate" p) [a] [⟨some "start",.Constant (.int 1) j pz,kpos⟩] pos) (CI t):=by
 intro gV s σ H Pr Z so I E h;refine Ve (mV I hg hm boot_enumerate ?_)
 refine FE (e:=a) (rest:=[]) (kws:=[⟨some "start",.Constant (.int 1) j pz,kpos⟩]) (P8 (ae (aA ha) ag hs pos gV s σ H Pr Z (λls Z1=>match ls with
  |[.d (.lst xs)]=>so (lG xs) Z1
  |_=>False) I E ?_) λus s1 ⟨vs,H1,ls,Z1,I1,r1,hl,hb,E1,_,q1⟩=>?_) (by rw[hs];rfl) (by rw[hs];rfl) rfl rfl
 .
  show t Z _
  have e:(λr Z1=>QN r λd=>match d with | .lst xs=>so (lG xs) Z1|_=>False)=(λr Z1=>QN r λx=>aQ Z1 λxs Z2=>match L.d x::xs with | [.d (.lst xs)]=>so (lG xs) Z2|_=>False):=by
   funext r Z1
   cases r with
   |un=>rfl
   |d d=>cases d<;>rfl
   |own=>rfl
   | bx b ls =>
    show dC (bK (.bx b ls)) _=dC (bK (.bx b ls)) _
    cases bK (.bx b ls)with
    |none=>rfl
    |some d=>cases d<;>rfl
   |dic b ls=>rfl
  rw[<- e];exact h
 .
  (try dsimp only at q1)
  split at q1
  .
   rename_i xs
   cases vs with
   |nil=>exact absurd hl v6
   | cons v vs =>
    have:vs=[]:=by
     have:vs.length=0:=by simpa using hl
     exact VD.mp this
    subst this;obtain⟨_,e1,p1⟩:=aC.head_d (σ:=σ) (Z:=Z1) E1;cases e1;obtain⟨_,_,rfl,hz,rs⟩:=QH.inv_lst p1;obtain⟨u,rfl,ru⟩:=r1.one;cases ru;refine kws_cons (P8 (GB gV s1 σ _ (λv' H'=>v'=.int 1/\H'=_) I1 ⟨rfl,rfl⟩) λu2 s2 ⟨x2,H2,I2,rx2,ex2,e2⟩=>kws_nil ?_);subst ex2 e2;obtain⟨tk,rfl⟩:=rx2;obtain⟨its,rv,pl,hz'⟩:=I2.list hz.l;show wpAny _ _ (call (.type "enumerate") [.ref _] [(Str.ofString "start",.int 1 tk)]) _ _ s2;refine AU pl.isList λh' hE hI hsz hk=>?_;refine wpAny_pyIter_enum (s:={s2 with heap:=h' }) hE ?_;have E2:aC X.K Pr _ σ Z1:=aC.tail (σ:=σ) (Z:=Z1) E1;refine⟨s2.heap.objs.size+1,[s2.heap.objs.size+1,s2.heap.objs.size],_,_,_,_,Z1,rfl,I2.kept (t':=s2.toks) hk,AV _ _ _ (Nat.succ_ne_self _),⟨⟨_,hE⟩,hI⟩,λb hb=>?_,E2,yf hz rs,q1⟩
    have hb':s2.heap.objs.size<=b:=by
     rcases Uo.mp hb with rfl|hb
     . exact Nat.le_succ _
     . rw[Ux.mp hb];exact Ul _
    exact I2.fpOk hb' (I2.hok.fresh hb')
  . exact q1.elim
def Mb:V->List V->Hp->VK->Prop:=λx vs H Q=>∃z,x=.str z/\vs=[]/\z.length<=5592405/\Q (.str (Txt.upper z)) H
theorem FF:Qw X "str.upper" Mb:=by intro gV s σ H x vs v us Q I rx rv h;obtain⟨z,rfl,rfl,hz,q⟩:=h;obtain⟨t,rfl⟩:=rx;cases rv;exact SC.upper (PyProof.Rows.fit_upper hz) ⟨.str _,H,I.tok _,⟨_,rfl⟩,q⟩
def zF(to:W L):W L:=λZ so=>to Z λr Z1=>match r with
 |.d (.str x)=>x.length<=5592405/\so (.d (.str (Txt.upper x))) Z1
 |_=>False
theorem FG{o:Expr}{to:W L}(ho:PL X o to) (hbase:attributeBase o "upper" X.env (eval o X.env)=eval o X.env:=by rfl) (hline:(apos.endLine == cpos.line)=true:=by rfl) :
  PL X (.Call (.Attribute o "upper" apos) [] [] cpos) (zF to):=by
 refine PL.of (KZ PySem.F.plainAttrs_str PySem.F.slot_str_upper PySem.F.type_str_upper FF ho.pe (hbase:=hbase) (hline:=hline)) λσ H Pr Z so E h=>?_;refine⟨Pr,Z,_,E,h,λv H' r Z' E' pp=>?_⟩;obtain⟨z,rfl⟩:∃z,r=.d (.str z):=zD pp;obtain⟨hz,pp⟩:=pp;obtain⟨_,e1,p1⟩:=E'.head_d;cases e1;obtain rfl:=QH.inv_str p1;exact⟨rfl,z,rfl,rfl,hz,_,_,E'.tail.cons_d (.str _),pp⟩
theorem CK(items:Array Value):slicePick items none (some 0) (some (-1))=((items.toList.drop 1).reverse).toArray:=by
 have hr:=W.krv_pick items;unfold slicePick at hr ⊢;rw[W.krv_bounds,show(sliceRange ((items.size:Int)-1) (-1) (-1))=_ from W.krv_sliceRange items.size]at hr;have hr:=Vy Array.toList hr;rw[List.toList_toArray,List.toList_toArray]at hr;by_cases hz:items.size=0
 . have he:items.toList=[]:=List.eq_nil_of_length_eq_zero (by rw[VG];exact hz);rw[he,hz];rfl
 .
  have eb:sliceBounds none (some 0) (some (-1)) items.size=((items.size:Int)-1,0,-1):=by
   show((items.size:Int)-1,(if(-1:Int) > 0 then _ else max (-1) (min (if(0:Int)<0 then _ else 0) ((items.size:Int)-1))),(-1:Int))=_
   rw[if_neg (by decide),if_neg (by decide)];refine Prod.ext rfl (Prod.ext ?_ rfl);show max (-1:Int) (min 0 ((items.size:Int)-1))=0;omega
  rw[eb]
  have es:sliceRange ((items.size:Int)-1) 0 (-1)=(List.range (items.size-1)).map λk=>items.size-1-k:=by
   unfold sliceRange;have h1:¬((-1:Int) > 0):=by decide
   have ec:(if(-1:Int) > 0 then(if((items.size:Int)-1)<0 then(0-((items.size:Int)-1)+(-1)-1) / (-1)else 0)else(if((items.size:Int)-1) > 0 then(((items.size:Int)-1)-0-(-1)-1) / (- -1)else 0)).toNat=items.size-1:=by
    rw[if_neg h1];split
    . rw[show(- -1:Int)=1 by decide,Int.ediv_one];omega
    . omega
   show(List.range _).map _=_;rw[ec];apply List.map_congr_left;intro k hk;have:=Wh.mp hk;omega
  show((sliceRange ((items.size:Int)-1) 0 (-1)).filterMap (items[·]?)).toArray=_;rw[es]
  congr 1
  obtain⟨n,hn⟩:∃n,items.size=n+1:=⟨items.size-1,xL⟩;have e1:(List.range items.size).map (λk=>items.size-1-k)=(List.range (items.size-1)).map (λk=>items.size-1-k)++[0]:=by rw[hn,Nat.add_sub_cancel,List.range_succ,Vg,List.map_singleton,Nat.sub_self]
  have hr:((List.range items.size).map λk=>items.size-1-k).filterMap (items[·]?)=items.toList.reverse:=hr;rw[e1,List.filterMap_append]at hr
  have e2:items.toList=items[0]'(by omega)::items.toList.drop 1:=by
   have hl:0<items.toList.length:=by rw[VG];omega
   have:=VH (l:=items.toList) (i:=0) hl;rw[List.drop_zero]at this;simpa using this
  have e3:[0].filterMap (items[·]?)=[items[0]'(by omega)]:=by have:items[0]?=some (items[0]'(by omega)):=Array.getElem?_eq_getElem xL;simp[this]
  rw[e3]at hr
  have e4:items.toList.reverse=(items.toList.drop 1).reverse++[items[0]'(by omega)]:=by
   conv=>lhs;rw[e2,List.reverse_cons]
  rw[e4]at hr;exact List.append_cancel_right hr
def Jq(ta:W L):W L:=λZ so=>ta Z λr Z1=>QN r λd=>match d with
 |.lst xs=>∀a,so (.own a (xs.drop 1).reverse) Z1
 |_=>False
theorem bT.drop1:∀{vs:List V}{us:List Value},bT vs us->bT (vs.drop 1) (us.drop 1)
 |_,_,.nil=>.nil
 |_,_,.cons _ t=>t
theorem bC.drop1{K:W.Frag}{H:Hp}:∀{vs:List V}{ds:List D},bC K H vs ds->bC K H (vs.drop 1) (ds.drop 1)
 |_,_,.nil=>.nil
 |_,_,.cons _ t=>t
theorem Jr{p3 p4 p5:Pos}{k3 k4:Nat}(ha:PL X a ta):PL X (.Subscript a (.Slice none (some (.Constant (.int 0) k3 p5)) (some (.UnaryOp .USub (.Constant (.int 1) k4 p3) p4)) p2) pos) (Jq ta):=by
 intro gV s σ H Pr Z so I E h;refine Subscript_ (P8 (ha gV s σ H Pr Z _ I E h) λv s1 q=>?_)
 obtain⟨x,H1,d,Z1,I1,r1,E1,q1⟩:=EL.frz (so:=λd Z1=>match d with
  |.lst xs=>∀a,so (.own a (xs.drop 1).reverse) Z1
  |_=>False) q
 refine wpAny_Slice ?_;rw[evalPart_none];refine Um ?_;rw[evalPart_some];refine P8 (ah (X:=X) (i:=0) gV s1 σ H1 _ Z1 (λr Z2=>r=.d (.int 0)/\Z2=Z1) I1 E1.tail.wide ⟨rfl,rfl⟩) λu0 s2 ⟨z0,H2,r0,Z2,I2,rz0,E2,er0,eρ0⟩=>?_;subst er0 eρ0;obtain⟨_,e0,p0⟩:=E2.head_d;cases e0;obtain rfl:=QH.inv_int p0;obtain⟨t0,rfl⟩:=rz0;have F1:aC X.K Pr H2 (some x::σ) (.d d::Z2):=aC.step (τ:=[some x]) (lam:=[.d d]) (w:=[]) (μ:=[]) E1 rfl E2.tail rfl;rw[evalPart_some];refine P8 (GI (X:=X) (ah (i:=1)) gV s2 σ H2 _ Z2 (λr Z3=>r=.d (.int (-1))/\Z3=Z2) I2 F1.tail.wide ⟨rfl,rfl⟩) λu s3 ⟨z,H3,r,Z3,I3,rz,E3,er,eρ⟩=>?_;subst er eρ;obtain⟨_,e1,p1⟩:=E3.head_d;cases e1;obtain rfl:=QH.inv_int p1;obtain⟨t,rfl⟩:=rz;have F2:aC X.K Pr H3 (some x::σ) (.d d::Z3):=aC.step (τ:=[some x]) (lam:=[.d d]) (w:=[]) (μ:=[]) F1 rfl E3.tail rfl;have I4:P4 X gV σ H3 {s3 with heap:=s3.heap.push {cls:=.type "slice",data:=.fields #[.none,.int 0 t0,.int (-1) t] } }:=I3.kept (t':=s3.toks) λb ob q=>Ug _ q;obtain⟨_,e1,p1⟩:=F2.head_d;cases e1
 cases p1 with
 | @lst l0 vs0 ds0 hz rs =>
  cases r1;obtain⟨its,r,pl,hzz⟩:=I4.list hz.l;have kz:=r.length;show wpAny (model X.prog X.w) X.A (subscriptTail a _ (.ref _) (.ref s3.heap.objs.size)) (EL X gV σ Pr so) X.xe {s3 with heap:=s3.heap.push {cls:=.type "slice",data:=.fields #[.none,.int 0 t0,.int (-1) t] } };refine tail_any pl.isList.typeIs slot_list_getitem.lookup ?_ (by with_unfolding_all rfl);refine wpAny_getItem_list_slice pl.isList (Heap.IsSliceOf.new ..) .none (.int 0 t0) (.int (-1) t) v6 ?_ (by rw[UB];omega);rw[CK];have I5:=I4.lnew (t':=s3.toks) r.drop1.reverse (by rw[UK,Uq];omega);exact⟨.ref _,PR H3 _ (.lst (vs0.drop 1).reverse),_,Z3,I5,rfl,F2.tail.cons_own I4.fresh rs.drop1.reverse,q1 _⟩
 |_=>exact q1.elim
end
end L2
namespace L2
open PySem
theorem ny{g:Tg}{b:W Fl}{so:Fl->Ev->Prop}:∀(xs:List D)(I:Nat->Ev->Prop)(Z:Ev),I 0 Z ->
  (∀j x Z,xs[j]?=some x->I j Z->∀Q:Fl->Ev->Prop,(∀Z',I (j+1) Z'->Q .nx Z')->(∀Z',I (j+1) Z'->Q .ct Z')->(∀Z',so .nx Z'->Q .bk Z')->(∀r Z',so (.rt r) Z'->Q (.rt r) Z')->g x Z λZ1=>b Z1 Q) ->
  (∀Z,I xs.length Z->so .nx Z)->iJ g b xs Z so
 |[],I,Z,h0,_,fin=>fin Z h0
 | x::xs,I,Z,h0,step,fin=>by
  unfold iJ;refine step 0 x Z rfl h0 _ (λZ' h=>?_) (λZ' h=>?_) (λZ' h=>h) (λr Z' h=>h)
  . exact ny xs (λj=>I (j+1)) Z' h (λj y Z e hi=>step (j+1) y Z e hi) fin
  . exact ny xs (λj=>I (j+1)) Z' h (λj y Z e hi=>step (j+1) y Z e hi) fin
theorem FH{α:Type}{enc:α->D}{g:Tg}{b:W Fl}{so:Fl->Ev->Prop}(as:List α)(I:List α->Ev->Prop)(Z:Ev)(h0:I [] Z)
  (step:∀pre a suf Z,as=pre++a::suf->I pre Z->∀Q:Fl->Ev->Prop,(∀Z',I (pre++[a]) Z'->Q .nx Z')->(∀Z',I (pre++[a]) Z'->Q .ct Z')->(∀Z',so .nx Z'->Q .bk Z')->(∀r Z',so (.rt r) Z'->Q (.rt r) Z')->g (enc a) Z λZ1=>b Z1 Q)
  (fin:∀Z,I as Z->so .nx Z):iJ g b (as.map enc) Z so:=by
 refine ny _ (λj Z=>I (as.take j) Z) Z h0 (λj x Z e hi Q h1 h2 h3 h4=>?_) λZ h=>fin Z (by simpa using h);rw[UJ]at e
 cases ea:as[j]? with
 |none=>rw[ea]at e;cases e
 | some a =>
  rw[ea]at e;cases e;obtain⟨hj,ea'⟩:=Uh.mp ea;have es:as.take (j+1)=as.take j++[a]:=by rw[List.take_succ,ea];rfl
  have ed:as=as.take j++a::as.drop (j+1):=by have:=(List.take_append_drop j as).symm;rw[VH hj,ea']at this;exact this
  rw[es]at h1 h2;exact step _ a _ Z ed hi Q h1 h2 h3 h4
theorem zG{g:Tg}{ti:W Bool}{te:W L}{k:List D->Ev->Prop}:∀(xs:List D)(I:Nat->Ev->List D->Prop)(Z:Ev)(acc:List D),I 0 Z acc ->
  (∀j x Z acc,xs[j]?=some x->I j Z acc->∀Q:Ev->List D->Prop,(∀Z' acc',I (j+1) Z' acc'->Q Z' acc')->g x Z λZ1=>ti Z1 λb Z2=>if b=true then te Z2 λr Z3=>QN r λy=>Q Z3 (acc++[y])else Q Z2 acc) ->
  (∀Z acc,I xs.length Z acc->k acc Z)->hJ g ti te xs Z acc k
 |[],I,Z,acc,h0,_,fin=>fin Z acc h0
 | x::xs,I,Z,acc,h0,step,fin=>by unfold hJ;exact step 0 x Z acc rfl h0 (λZ acc=>hJ g ti te xs Z acc k) λZ' acc' h=>zG xs (λj=>I (j+1)) Z' acc' h (λj y Z acc e hi=>step (j+1) y Z acc e hi) fin
theorem hX{α:Type}{enc:α->D}{h:α->Option D}{caps:Ev}{ti:W Bool}{te:W L}{k:List D->Ev->Prop}:∀(as:List α)(acc:List D)(l:L),
  (∀a∈as,∀Q:Ev->Option D->Prop,Q (.d (enc a)::caps) (h a)->ti (.d (enc a)::caps) λb Z2=>if b=true then te Z2 λr Z3=>QN r λy=>Q Z3 (some y)else Q Z2 none) ->
  (∀l',k (acc++as.filterMap h) (l'::caps))->hJ (bL 0) ti te (as.map enc) (l::caps) acc k
 |[],acc,l,_,fin=>by have:=fin l;simpa[hJ]using this
 | a::as,acc,l,step,fin=>by
  show hJ (bL 0) ti te (enc a::as.map enc) (l::caps) acc k;unfold hJ;show ti (.d (enc a)::caps) _
  refine step a Ui (λZ o=>match o with|some y=>hJ (bL 0) ti te (as.map enc) Z (acc++[y]) k|none=>hJ (bL 0) ti te (as.map enc) Z acc k) ?_
  cases e:h a with
  |none=>exact hX as acc _ (λb hb=>step b (Ud _ hb)) (by simpa[Vw,e]using fin)
  |some y=>exact hX as (acc++[y]) _ (λb hb=>step b (Ud _ hb)) (by simpa[Vw,e]using fin)
theorem ff{α:Type}{enc:α->D}{h:α->D}{caps:Ev}{te:W L}{k:List D->Ev->Prop}(as:List α)(acc:List D)(l:L)
  (step:∀a∈as,∀Q:Ev->D->Prop,Q (.d (enc a)::caps) (h a)->te (.d (enc a)::caps) λr Z3=>QN r λy=>Q Z3 y)
  (fin:∀l',k (acc++as.map h) (l'::caps)):hJ (bL 0) g9 te (as.map enc) (l::caps) acc k:=by
 refine hX (h:=λa=>some (h a)) as acc l (λa ha Q q=>?_) (by simpa using fin);simp only[g9,if_true];exact step a ha (λZ y=>Q Z (some y)) q
theorem uI{α:Type}{x:α}{xs:List α}:Qu (x::xs) 0=some x:=lZ (j:=0) rfl
theorem yg{α:Type}{x y:α}{xs:List α}:Qu (x::y::xs) 1=some y:=lZ (j:=1) rfl
theorem Mc{α:Type}{x y z:α}{xs:List α}:Qu (x::y::z::xs) 2=some z:=lZ (j:=2) rfl
theorem Md{α:Type}{x y z w:α}{xs:List α}:Qu (x::y::z::w::xs) 3=some w:=lZ (j:=3) rfl
theorem NO{α:Type}{x y z w v:α}{xs:List α}:Qu (x::y::z::w::v::xs) 4=some v:=lZ (j:=4) rfl
theorem lH{α:Type}{xs:List α}{i:Int}{x:α}(h0:0<=i)(h:xs[i.toNat]?=some x):Qu xs i=some x:=by have:=lZ h;rwa [Int.toNat_of_nonneg h0]at this
theorem Js{α:Type}{f:α->D}{xs:List α}{k:Nat}(h:k<xs.length):Qu (xs.map f) (k:Int)=some (f xs[k]):=lZ (by rw[UJ,Uu h];rfl)
theorem Pf:Qt 3 0=some 0:=by decide
theorem Pg:Qt 3 1=some 1:=by decide
theorem Ph:Qt 3 2=some 2:=by decide
theorem uJ(n:Nat):xl 0 n=(List.range n).map λ(i:Nat)=>D.int (i:Int):=by unfold xl;simp
theorem zH{g:Tg}{b:W Fl}{so:Fl->Ev->Prop}(lo:Int)(n:Nat)(I:Nat->Ev->Prop)(Z:Ev)(h0:I 0 Z)
  (step:∀j Z,j<n->I j Z->∀Q:Fl->Ev->Prop,(∀Z',I (j+1) Z'->Q .nx Z')->(∀Z',I (j+1) Z'->Q .ct Z')->(∀Z',so .nx Z'->Q .bk Z')->(∀r Z',so (.rt r) Z'->Q (.rt r) Z')->g (.int (lo+(j:Int))) Z λZ1=>b Z1 Q)
  (fin:∀Z,I n Z->so .nx Z):iJ g b (xl lo n) Z so:=by
 have hl:(xl lo n).length=n:=by simp[xl]
 refine ny _ I Z h0 (λj x Z hj hi Q h1 h2 h3 h4=>?_) λZ h=>fin Z (by rwa [hl]at h);have hj':j<n:=by rw[<- hl];exact(Uh.mp hj).1
 have e:x=.int (lo+(j:Int)):=by unfold xl at hj;rw[UJ,List.getElem?_range hj']at hj;exact(UM hj).symm
 subst e;exact step j Z hj' hi Q h1 h2 h3 h4
theorem bR{i:Int}(h:i.natAbs<2^200):dB i:=Uj h (U9 x_ x_)
theorem iN(x:Int){m:Int}(h:0<m):0<=x.fmod m/\x.fmod m<m:=by rw[U2 _ xL];exact⟨V7 _ xL,V0 _ h⟩
theorem yh{i:Int}{n:Nat}(h0:0<=i)(h:i<2^n)(hn:n<=1000000):dB i:=by
 have:i.natAbs<2^n:=by
  have e:((2^n:Nat):Int)=(2:Int)^n:=by simp
  omega
 exact Uj this (U9 x_ hn)
theorem NP:(10:Int)^60<2^200:=by decide
theorem wc{i:Int}(h0:0<=i)(h:i<=10^60):i.natAbs<2^9000:=by
 have:i.natAbs<2^200:=by
  have:=NP;have e:((2^200:Nat):Int)=(2:Int)^200:=by decide
  omega
 exact Uj this (U9 x_ x_)
theorem RB.of_divInt{t b:Int}{n:Nat}(h:b≠0)(ht:t.natAbs<2^n)(hb:b.natAbs<2^n):RB n (Rat.divInt t b):=⟨Vi (GM h) ht,Vi (GL h) hb⟩
structure RL where
 nm:Str
 one:Nat
 other:Nat
 size:Rat
structure cD where
 rooms:List Rat
 asks:List RL
noncomputable def cD.n(R:cD):Nat:=R.rooms.length
noncomputable def mT(a:RL):D:=.tup [.str a.nm,.int a.one,.int a.other,Rb a.size]
noncomputable def lj(R:cD):D:=.tup [.lst (R.rooms.map Rb),.lst (R.asks.map mT)]
theorem Me(q:Rat):(q.num:Rat)=q*(q.den:Rat):=by
 have h:=Rat.num_divInt_den q;have hd:(q.den:Rat)≠0:=λw=>by have:=Rat.natCast_pos.mpr q.den_pos;rw[w]at this;exact absurd this x_
 rw[Rat.divInt_eq_div]at h;have e:(((q.den:Nat):Int):Rat)=(q.den:Rat):=rfl;rw[e]at h;have e2:q*(q.den:Rat)=(q.num:Rat) / (q.den:Rat)*(q.den:Rat):=by rw[h]
 rw[e2,Rat.div_mul_cancel hd]
structure yi (n:Nat) (a:RL):Prop where
 one:a.one<n
 other:a.other<n
 ne:a.one≠a.other
 size:0<=a.size
 lt:a.size<((2^300:Nat):Rat)
 nm:PyData.strOk a.nm=true
structure cD.Ok (R:cD):Prop where
 lo:2<=R.n
 hi:R.n<=12
 few:R.asks.length<=20
 room:∀q∈R.rooms,0<q/\RB 60 q
 ask:∀a∈R.asks,yi R.n a
 cd:∃D:Nat,0<D/\D<2^1240/\∀a∈R.asks,a.size.den∣D
theorem fg{α:Type}{n:Nat}{f:α->D}:∀xs:List α,(∀x∈xs,Rc n (f x)=true)->lh n (xs.map f)=true
 |[],_=>rfl
 |x::xs,h=>by simp[lh,h x Ui,fg xs λy hy=>h y (Ud _ hy)]
theorem GZ(n:Nat)(q:Rat):Rc (n+1) (Rb q)=true:=by cases n<;>simp[Rb,Rc,lh]
theorem Jt{n:Nat}{a:RL}(h:yi n a):Rc 2 (mT a)=true:=by simp[mT,Rc,lh,h.nm,GZ]
theorem FI{R:cD}(h:R.Ok):Rc 4 (lj R)=true:=by simp only[lj,Rc,lh,Bool.and_true,UE];exact⟨fg _ λq _=>GZ 1 q,fg _ λa ha=>Jt (h.ask a ha)⟩
def gZ(xs:List D):Prop:=∃(c sd:Int)(t:Bool),xs=[.int c,.int sd,.bl t]/\0<=sd/\sd<2147483647
theorem FJ{t b g:Int}(h:b≠0)(e:g=dD t b):D.tup [.int (t.fdiv g),.int (b.fdiv g)]=Rb (Rat.divInt t b):=by subst e;rw[B4 h,Ie h];rfl
noncomputable def Pi(qs:List Rat):Nat:=(qs.map (·.den)).foldr (·*·) 1
noncomputable def Ju(qs:List Rat):Rat:=qs.foldl (·+·) 0
theorem CL(qs:List Rat):∀acc:Rat,qs.foldl (·+·) acc=acc+Ju qs:=by
 unfold Ju
 induction qs with
 |nil=>intro acc;simp[Rat.add_zero]
 |cons q qs ih=>intro acc;rw[V5,V5,ih,ih (0+q),Rat.zero_add,Rat.add_assoc]
theorem CM(q:Rat)(qs:List Rat):Ju (q::qs)=q+Ju qs:=by show(q::qs).foldl (·+·) 0=_;rw[V5,CL,Rat.zero_add]
theorem cI{α β:Type}(f:α->β)(xs:List α)(l u:Option Int):m9 (xs.map f) l u=(m9 xs l u).map f:=by unfold m9;rw[tu,<- List.map_drop,<- List.map_take]
theorem FK{xs:List D}{i:Int}{k:L->Prop}:bF (.lst xs) (.int i) k=∃v,Qu xs i=some v/\k (.d v):=rfl
theorem FL{xs:List D}{i:Int}{k:L->Prop}:bF (.tup xs) (.int i) k=∃v,Qu xs i=some v/\k (.d v):=rfl
theorem FM{z:Str}{i:Int}{k:L->Prop}:bF (.str z) (.int i) k=(z.length<=sizeLine/\∃c,Qu z.cps.toList i=some c/\k (.d (.str ⟨#[c]⟩))):=rfl
theorem FN{R:cD}{k:L->Prop}:bF (lj R) (.int 0) k=k (.d (.lst (R.rooms.map Rb))):=by show(∃v,Qu _ _=some v/\_)=_;simp only[uI,UX,Vk]
theorem FO{R:cD}{k:L->Prop}:bF (lj R) (.int 1) k=k (.d (.lst (R.asks.map mT))):=by show(∃v,Qu _ _=some v/\_)=_;simp only[yg,UX,Vk]
theorem Jv{a:RL}{k:L->Prop}:bF (mT a) (.int 0) k=k (.d (.str a.nm)):=by show(∃v,Qu _ _=some v/\_)=_;simp only[uI,UX,Vk]
theorem Jw{a:RL}{k:L->Prop}:bF (mT a) (.int 1) k=k (.d (.int a.one)):=by show(∃v,Qu _ _=some v/\_)=_;simp only[yg,UX,Vk]
theorem Jx{a:RL}{k:L->Prop}:bF (mT a) (.int 2) k=k (.d (.int a.other)):=by show(∃v,Qu _ _=some v/\_)=_;simp only[Mc,UX,Vk]
theorem Jy{a:RL}{k:L->Prop}:bF (mT a) (.int 3) k=k (.d (Rb a.size)):=by show(∃v,Qu _ _=some v/\_)=_;simp only[Md,UX,Vk]
theorem Mf{q:Rat}{k:L->Prop}:bF (Rb q) (.int 0) k=k (.d (.int q.num)):=by show(∃v,Qu _ _=some v/\_)=_;simp only[uI,UX,Vk]
theorem Mg{q:Rat}{k:L->Prop}:bF (Rb q) (.int 1) k=k (.d (.int (q.den:Int))):=by show(∃v,Qu _ _=some v/\_)=_;simp only[yg,UX,Vk]
theorem G0(q:Rat):Rf (Rb q)=true:=by simp[Rb,Rf,qo]
theorem nB{α:Type}{f:α->D}:∀(xs:List α),(∀x∈xs,Rf (f x)=true)->qo (xs.map f)=true
 |[],_=>rfl
 |x::xs,h=>by simp[qo,h x Ui,nB xs λy hy=>h y (Ud _ hy)]
theorem zJ(qs:List Rat):qo (qs.map Rb)=true:=nB _ λq _=>G0 q
theorem CN{α:Type}(f:α->Int)(xs:List α):qo (xs.map λx=>D.int (f x))=true:=nB _ λ_ _=>rfl
theorem CO(R:cD):R.rooms.length=R.n:=rfl
noncomputable def Kp(w:Bool):Str:=if w then "on" else "back"
theorem zK:cq (.str "on"):=bq (n:=0) y_ x_
theorem tF:cq (.str "back"):=bq (n:=0) y_ x_
theorem CP(w:Bool):cq (.str (Kp w)):=by
 cases w
 . exact tF
 . exact zK
theorem Mh(w:Bool):(Kp w="on")=(w=true):=by cases w <;> simp[Kp] <;> decide
theorem FP(w:Bool):(Kp w="back")=(w=false):=by cases w <;> simp[Kp] <;> decide
theorem CQ{is:List Nat}{xs:List D}{Z:Ev}{k:Ev->Prop}:m7 is (.tup xs) Z k=jV is xs Z k:=rfl
theorem CS{is:List Nat}{a:RL}{Z:Ev}{k:Ev->Prop}:m7 is (mT a) Z k=jV is [.str a.nm,.int a.one,.int a.other,Rb a.size] Z k:=rfl
theorem FQ{is:List Nat}{q:Rat}{Z:Ev}{k:Ev->Prop}:m7 is (Rb q) Z k=jV is [.int q.num,.int (q.den:Int)] Z k:=rfl
theorem yj{xs:List D}{k:List D->Prop}:iK (.lst xs) k=k xs:=rfl
theorem yk{xs:List D}{k:List D->Prop}:iK (.tup xs) k=k xs:=rfl
theorem AW{q:Rat}{k:List D->Prop}:iK (Rb q) k=k [.int q.num,.int (q.den:Int)]:=rfl
theorem CT{xs:List D}{k:L->Prop}:cg [.lst xs] k=k (.d (.int xs.length)):=rfl
theorem CU{xs:List D}{k:L->Prop}:cg [.tup xs] k=k (.d (.int xs.length)):=rfl
theorem CV{x:Str}{k:L->Prop}:cg [.str x] k=(x.length<=sizeLine/\k (.d (.int x.length))):=rfl
theorem FR{q:Rat}{k:L->Prop}:cg [Rb q] k=k (.d (.int 2)):=rfl
theorem AX{R:cD}{k:L->Prop}:cg [lj R] k=k (.d (.int 2)):=rfl
theorem CW{a:RL}{k:L->Prop}:cg [mT a] k=k (.d (.int 4)):=rfl
theorem yl(q:Rat):mR "tuple" (Rb q)=true:=rfl
theorem ym(q:Rat):mR "list" (Rb q)=false:=rfl
theorem yn(q:Rat):mR "int" (Rb q)=false:=rfl
theorem wd(q:Rat):mR "bool" (Rb q)=false:=rfl
theorem yo(q:Rat):mR "str" (Rb q)=false:=rfl
theorem uK(R:cD):mR "tuple" (lj R)=true:=rfl
noncomputable def RM(n:Nat)(f:Nat->Rat):List D:=(List.range n).map λ(t:Nat)=>Rb (f t)
theorem Jz(n:Nat)(f:Nat->Rat):(RM n f).length=n:=by simp[RM]
theorem JA(n:Nat)(f:Nat->Rat):RM n f=((List.range n).map f).map Rb:=by unfold RM;rw[VW];rfl
theorem FT(n:Nat)(f:Nat->Rat):qo (RM n f)=true:=by rw[JA];exact zJ _
noncomputable def yp(c:Nat×Nat):D:=.tup [.int (c.1:Int),.int (c.2:Int)]
theorem JB{c:Nat×Nat}{k:L->Prop}:bF (yp c) (.int 0) k=k (.d (.int c.1)):=by show(∃v,Qu _ _=some v/\_)=_;simp only[uI,UX,Vk]
theorem JC{c:Nat×Nat}{k:L->Prop}:bF (yp c) (.int 1) k=k (.d (.int c.2)):=by show(∃v,Qu _ _=some v/\_)=_;simp only[yg,UX,Vk]
theorem JD(n:Nat)(c:Nat×Nat):Rc (n+1) (yp c)=true:=by cases n<;>simp[yp,Rc,lh]
theorem CY(c:Nat×Nat):Rf (yp c)=true:=by simp[yp,Rf,qo]
theorem CZ(c:Nat×Nat):cq (yp c):=bq (JD 0 c) x_
theorem JE(c d:Nat×Nat):Q1 (yp c) (yp d)=decide (c=d):=by
 unfold yp;rw[xU,hU,hU,uD,jZ,jZ,Bool.and_true,<- Bool.decide_and,decide_eq_decide];constructor
 . rintro⟨h1,h2⟩;exact Prod.ext xL xL
 . rintro rfl;exact⟨rfl,rfl⟩
noncomputable def gP(g:Rat×(Nat×Nat)):D:=.tup [Rb g.1,yp g.2]
theorem NQ{g:Rat×(Nat×Nat)}{k:L->Prop}:bF (gP g) (.int 0) k=k (.d (Rb g.1)):=by show(∃v,Qu _ _=some v/\_)=_;simp only[uI,UX,Vk]
theorem NS{g:Rat×(Nat×Nat)}{k:L->Prop}:bF (gP g) (.int 1) k=k (.d (yp g.2)):=by show(∃v,Qu _ _=some v/\_)=_;simp only[yg,UX,Vk]
theorem FU(T:String):mR T .non=(T == "NoneType"):=rfl
theorem JF(T:String)(b:Bool):mR T (.bl b)=(T == "bool" ||T == "int"):=rfl
theorem FV(T:String)(i:Int):mR T (.int i)=(T == "int"):=rfl
theorem FW(T:String)(x:Str):mR T (.str x)=(T == "str"):=rfl
theorem FY(T:String)(xs:List D):mR T (.tup xs)=(T == "tuple"):=rfl
theorem FZ(T:String)(xs:List D):mR T (.lst xs)=(T == "list"):=rfl
theorem AY(g:Rat×(Nat×Nat)):mR "tuple" (gP g)=true:=rfl
theorem we(c:Nat×Nat):mR "tuple" (yp c)=true:=rfl
theorem wg(a:RL):mR "tuple" (mT a)=true:=rfl
theorem C0{c:Nat×Nat}{k:L->Prop}:cg [yp c] k=k (.d (.int 2)):=rfl
theorem JG{c:Rat×(Nat×Nat)}{k:L->Prop}:cg [gP c] k=k (.d (.int 2)):=rfl
theorem C1(cs:List (Nat×Nat)):qo (cs.map yp)=true:=nB _ λc _=>CY c
end L2
namespace L2
open PySem PySem.Builtin.Str
theorem JH{x y:Str}(h:x.cps.toList=y.cps.toList):x=y:=by cases x;cases y;exact Vy Str.mk (Array.toList_inj.mp h)
theorem qF{x:Str}{j:Int}(h0:0<=j)(h2:j<=x.length):(Txt.slice x none (some j)).cps.toList=x.cps.toList.take j.toNat:=by have:=eq_of_beq (PyProof.Rows.slice_closes_toL h0 h2);rw[this];simp
theorem tG{x:Str}{i:Int}(h0:0<=i)(h2:i<=x.length):(Txt.slice x (some i) none).cps.toList=x.cps.toList.drop i.toNat:=by
 rw[PyProof.Rows.slice_from_eq h0 h2 rfl];have e:x.cps.toList.length=x.length:=by simp[Str.length]
 rw[VT];rw[Uq,e];omega
theorem nC(x y:Str):(x++y).cps.toList=x.cps.toList++y.cps.toList:=by show(x.cps++y.cps).toList=_;simp
theorem kX(x:Str):x.length=x.cps.toList.length:=by simp[Str.length]
def oZ(c:Nat):Prop:=97<=c/\c<=122
structure zL (z:Str):Prop where
 lo:1<=z.cps.toList.length
 hi:z.cps.toList.length<=8
 let_:∀c∈z.cps.toList,oZ c
theorem zL.ok{z:Str}(h:zL z):PyData.strOk z=true:=by unfold PyData.strOk;rw[<- Wi,US];intro c hc;have:=h.let_ c hc;unfold oZ at this;simp;omega
noncomputable def uL:Str:="abcdefghijklmnopqrstuvwxyz"
theorem wj:uL.cps.toList=(List.range 26).map (·+97):=by decide
theorem tH{i:Int}(h0:0<=i)(h1:i<26):Qu uL.cps.toList i=some (i.toNat+97):=by refine lH h0 ?_;rw[wj,UJ,List.getElem?_range xL];rfl
theorem tI:∀(zs:List Str),(Str.join "" zs).cps.toList=(zs.map λz=>z.cps.toList).flatten
 |[]=>rfl
 |[x]=>by simp[Str.join]
 | x::y::r=>by have ih:=tI (y::r);show(x++("" : Str)++Str.join "" (y::r)).cps.toList=_;rw[nC,nC,ih];show x.cps.toList++[]++_=_;simp
theorem F0(zs:List Str):(Txt.join "" zs).cps.toList=(zs.map λz=>z.cps.toList).flatten:=by rw[eq_of_beq (PyProof.Rows.join_closes (sep:="") (sep':="") (ys:=zs) rfl),tI]
theorem wk:∀cs:List Nat,(cs.map λc=>[c]).flatten=cs
 |[]=>rfl
 |c::cs=>by rw[UC,VP,wk cs];rfl
theorem o4(cs:List Nat):(Txt.join "" (cs.map λc=>(⟨#[c]⟩:Str))).cps.toList=cs:=by rw[F0,VW];exact wk cs
theorem zM:∀cs:List Nat,((cs.map λc=>(⟨#[c]⟩:Str)).map (·.length)).sum=cs.length
 |[]=>rfl
 | c::cs=>by rw[UC,UC,List.sum_cons,zM cs,Uk];show 1+_=_;omega
noncomputable def nameAt(b:Str)(p t k:Nat):Str:=⟨(b.cps.toList.take p++[(t+k) % 26+97]++b.cps.toList.drop (p+1)).toArray⟩
theorem C2{b:Str}{p t k:Nat}(h:zL b)(hp:p<b.cps.toList.length):zL (nameAt b p t k):=by
 have e:(nameAt b p t k).cps.toList=b.cps.toList.take p++[(t+k) % 26+97]++b.cps.toList.drop (p+1):=by simp[nameAt]
 have l:(b.cps.toList.take p++[(t+k) % 26+97]++b.cps.toList.drop (p+1)).length=b.cps.toList.length:=by rw[Ue,Ue,Ut,Uq,Us];omega
 refine⟨by rw[e,l];exact h.lo,by rw[e,l];exact h.hi,λc hc=>?_⟩;rw[e]at hc;rcases Ur.mp hc with hc|hc
 .
  rcases Ur.mp hc with hc|hc
  . exact h.let_ c (U3 hc)
  . rw[Ux.mp hc];unfold oZ;have:=Nat.mod_lt (t+k) (y:=26) x_;omega
 . exact h.let_ c (Vp hc)
theorem AZ{b:Str}{p t j k:Nat}(hp:p<b.cps.toList.length)(hj:j<26)(hk:k<26)(h:nameAt b p t j=nameAt b p t k):j=k:=by
 have e:b.cps.toList.take p++[(t+j) % 26+97]++b.cps.toList.drop (p+1)=b.cps.toList.take p++[(t+k) % 26+97]++b.cps.toList.drop (p+1):=by have:=Vy (λz:Str=>z.cps.toList) h;simpa[nameAt]using this
 rw[UT,UT]at e;have e2:=List.append_cancel_left e;have e3:=(List.cons.inj e2).1;omega
theorem wm{α β:Type}{f:α->β}:∀{xs:List α},xs.Nodup->(∀x∈xs,∀y∈xs,f x=f y->x=y)->(xs.map f).Nodup
 |[],_,_=>Wg
 | x::xs,hn,h=>by rw[UC,UN];obtain⟨h1,h2⟩:=UN.mp hn;refine⟨λhm=>?_,wm h2 λa ha b hb=>h a (Ud _ ha) b (Ud _ hb)⟩;obtain⟨y,hy,e⟩:=UW.mp hm;have:=h y (Ud _ hy) x Ui e;rw[this]at hy;exact h1 hy
theorem F4{q:Rat}(h:RB 60 q):q<((2^300:Nat):Rat):=by
 have h1:=Me q;have hd:(1:Rat)<=(q.den:Rat):=by have:=q.den_pos;exact_mod_cast this
 have h2:(q.num:Rat)<((2^300:Nat):Rat):=by
  have h3:q.num<((2^300:Nat):Int):=by have:=Uj h.1 (U9 (show 0<2 by decide) (show 60<=300 by decide));omega
  exact Rat.intCast_lt_intCast.mpr h3
 have hV:(0:Rat)<((2^300:Nat):Rat):=Rat.natCast_pos.mpr (Nat.pow_pos x_);generalize ((2^300:Nat):Rat)=V at *;refine Rat.not_le.mp λhq=>?_;have h4:V*1<=q*(q.den:Rat):=Rat.le_trans (Rat.mul_le_mul_of_nonneg_left hd (Rat.le_of_lt hV)) (Rat.mul_le_mul_of_nonneg_right hq (by grind));rw[<- h1]at h4;grind
noncomputable def Kq:List RL->Nat
 |[]=>1
 |a::as=>a.size.den*Kq as
theorem zN:∀as,0<Kq as
 |[]=>Nat.one_pos
 |a::as=>Nat.mul_pos a.size.den_pos (zN as)
theorem C3:∀{as:List RL},(∀a∈as,RB 60 a.size)->Kq as<=2^(60*as.length)
 |[],_=>Ul 1
 | a::as,h=>by have h1:=(h a Ui).2;have h2:=C3 (as:=as) λp hp=>h p (Ud _ hp);show a.size.den*Kq as<=2^(60*(as.length+1));rw[Nat.mul_add,Nat.mul_one,Nat.pow_add,Nat.mul_comm (2^_)];exact Nat.mul_le_mul (Nat.le_of_lt h1) h2
theorem zO:∀{as:List RL}{a:RL},a∈as->a.size.den∣Kq as
 | b::as,a,h=>by
  rcases Uo.mp h with rfl|h
  . exact Nat.dvd_mul_right _ _
  . exact Nat.dvd_trans (zO h) (Nat.dvd_mul_left _ _)
theorem NU{as:List RL}(h:∀a∈as,RB 60 a.size)(hl:as.length<=20):∃D:Nat,0<D/\D<2^1240/\∀a∈as,a.size.den∣D:=by refine⟨Kq as,zN as,Vi (C3 h) (Nat.pow_lt_pow_right x_ xL),λa ha=>zO ha⟩
end L2
namespace L2
open PySem
noncomputable def RN(n i j:Nat):List Nat:=(List.range ((j+n-i) % n)).map λs=>(i+s) % n
noncomputable def NV(n i j:Nat):List Nat:=(List.range ((i+n-j) % n)).map λs=>(i+n-1-s) % n
noncomputable def NW(n:Nat)(a:RL)(w:Bool):List Nat:=if w then RN n a.one a.other else NV n a.one a.other
noncomputable def RO(n i j:Nat):Nat:=(j+n-i) % n
noncomputable def NX(n:Nat)(a:RL)(t:Nat):Bool:=decide (RO n a.one t<RO n a.one a.other)
theorem RB.sum{b:Nat}:∀(qs:List Rat),(∀q∈qs,RB b q)->RB (1+(b+1)*qs.length) (Ju qs)
 |[],_=>RB.mono (m:=1) ⟨x_,x_⟩ xL
 | q::qs,h=>by have ih:=RB.sum qs λz hz=>h z (Ud _ hz);rw[CM];refine((h q Ui).add ih).mono ?_;rw[Uk,Nat.mul_succ];omega
noncomputable def NY(n:Nat)(a:RL)(p:Rat)(t:Nat):Rat:=if NX n a t then p else a.size-p
noncomputable def Mi(n:Nat)(as:List RL)(ps:List Rat)(t:Nat):Rat:=Ju ((as.zip ps).map λx=>NY n x.1 x.2 t)
noncomputable def Bl(c:Nat×Nat)(p:Nat):Bool:=decide (c.1<p/\p<=c.2)
noncomputable def apart(c:Nat×Nat)(i j:Nat):Bool:=Bl c i != Bl c j
noncomputable def JI(as:List RL)(c:Nat×Nat):Rat:=Ju ((as.filter λa=>apart c a.one a.other).map (·.size))
noncomputable def cD.room(R:cD)(t:Nat):Rat:=R.rooms.getD t 0
noncomputable def gv(R:cD)(c:Nat×Nat):Rat:=R.room c.1+R.room c.2
noncomputable def OB(R:cD)(c:Nat×Nat):Rat:=JI R.asks c / gv R c
def NZ(n:Nat)(c:Nat×Nat):Prop:=c.1<=c.2/\c.2<n
def N0(qs:List Rat):Prop:=Pi qs<2^9000∨∃D:Nat,0<D/\D<2^4400/\∀q∈qs,q.den∣D
noncomputable def cD.sz(R:cD)(k:Nat):Rat:=(R.asks.map (·.size)).getD k 0
end L2
namespace My
open PySem L2
noncomputable def wo(R:cD)(j:Nat):RL:=(R.asks[j]?).getD ⟨"",0,0,0⟩
noncomputable def RP(R:cD)(j t:Nat):Bool:=NX R.n (wo R j) t
noncomputable def dI(R:cD)(w:Nat->Int)(k g h:Nat):Int:=((List.range (R.asks.length-k)).map λi=>if RP R (k+i) g != RP R (k+i) h then w (k+i)else 0).sum
def Pj(R:cD)(w f:Nat->Int)(k:Nat):Prop:=∀g h,g<R.n->h<R.n->dI R w k g h<=f g+f h/\(f g+f h-dI R w k g h) % 2=0
noncomputable def N1(R:cD)(w f:Nat->Int)(k:Nat)(p:Int)(t:Nat):Int:=f t-if RP R k t then p else w k-p
noncomputable def RQ(i j:Int):Int:=if j<i then j else i
noncomputable def RR(R:cD)(k:Nat):List Nat:=(W.sortI ((NW R.n (wo R k) true).map λ(t:Nat)=>(t:Int))).map Int.toNat
noncomputable def Pk(R:cD)(w f:Nat->Int)(k g h:Nat):Int:=f g+f h-dI R w (k+1) g h
noncomputable def Mj(R:cD)(w f:Nat->Int)(k:Nat)(acc:Int)(g:Nat)(hs:List Nat):Int:=hs.foldl (λt h=>if decide (g<=h)then RQ t (Pk R w f k g h)else t) acc
noncomputable def Ml(R:cD)(w f:Nat->Int)(k:Nat)(gs:List Nat):Int:=gs.foldl (λt g=>Mj R w f k t g (RR R k)) (2*w k)
noncomputable def Mm(R:cD)(w f:Nat->Int)(k:Nat):Int:=(Ml R w f k (RR R k)).fdiv 2
noncomputable def RS(R:cD)(w f:Nat->Int):Nat->Nat->Int
 |0=>f
 |k+1=>N1 R w (RS R w f k) k (Mm R w (RS R w f k) k)
noncomputable def RT(R:cD)(w f:Nat->Int)(k:Nat):Int:=Mm R w (RS R w f k) k
noncomputable def RU(qs:List Rat):Nat:=qs.foldl (λb q=>Nat.lcm b q.den) 1
noncomputable def Mn(u:Nat)(q:Rat):Int:=q.num*((u / q.den:Nat):Int)
noncomputable def Mo(R:cD):List Rat:=R.asks.map (·.size)
noncomputable def N2(R:cD)(q:Rat):List Rat:=R.rooms.map λr=>q*r
noncomputable def RV(R:cD)(q:Rat):Nat:=RU (Mo R++N2 R q)
noncomputable def G1(R:cD)(q:Rat):Nat:=2*RV R q
noncomputable def wI(R:cD)(q:Rat)(j:Nat):Int:=Mn (G1 R q) (wo R j).size
noncomputable def RW(R:cD)(q:Rat)(t:Nat):Int:=Mn (G1 R q) (q*R.room t)
noncomputable def pI(R:cD)(q:Rat)(k:Nat):Int:=RT R (wI R q) (RW R q) k
end My
set_option exponentiation.threshold 2000
namespace L2
open PySem
theorem uM:∀{m n:Nat}(d:D),m<=n->Rc m d=true->Rc n d=true:=by
 intro m n d hmn h
 have:∀(m:Nat),(∀(n:Nat)(d:D),m<=n->Rc m d=true->Rc n d=true)/\∀(n:Nat)(ds:List D),m<=n->lh m ds=true->lh n ds=true:=by
  intro m
  induction m with
  | zero =>
   have h0:∀(n:Nat)(d:D),0<=n->Rc 0 d=true->Rc n d=true:=λn d _ h=>by cases d<;>cases n<;>simp_all [Rc]
   refine⟨h0,λn ds hn h=>?_⟩
   induction ds with
   |nil=>simp[lh]
   |cons x xs ih=>simp only[lh,UE]at h ⊢;exact⟨h0 n x hn h.1,ih h.2⟩
  | succ m ih =>
   have h0:∀(n:Nat)(d:D),m+1<=n->Rc (m+1) d=true->Rc n d=true:=λn d hn h=>by
    obtain⟨k,rfl⟩:∃k,n=k+1:=⟨n-1,xL⟩;cases d<;>simp_all [Rc]
    all_goals exact ih.2 k _ xL h
   refine⟨h0,λn ds hn h=>?_⟩
   induction ds with
   |nil=>simp[lh]
   |cons x xs ihx=>simp only[lh,UE]at h ⊢;exact⟨h0 n x hn h.1,ihx h.2⟩
 exact(this m).1 n d hmn h
end L2
set_option exponentiation.threshold 5000
namespace My
open PySem L2
structure LB (R:cD) (ps:List Rat):Prop where
 p:∀p∈ps,RB 4100 p
 ld:∀k t,RB 4100 (Mi R.n (R.asks.take k) (ps.take k) t)
 st:∀(k:Nat)(h1:k<R.asks.length)(h2:k<ps.length)(t:Nat),RB 4100 (NY R.n R.asks[k] ps[k] t)
 sm:∀t,N0 ((R.asks.zip ps).map λx=>NY R.n x.1 x.2 t)
theorem LB.all{R:cD}{ps:List Rat}(h:LB R ps)(hl:ps.length=R.asks.length)(t:Nat):RB 4100 (Mi R.n R.asks ps t):=by have:=h.ld R.asks.length t;rwa [VT (Ul _),VT xL]at this
noncomputable def zI(R:cD)(q:Rat)(t j:Nat):Int:=if NX R.n (wo R j) t then pI R q j else wI R q j-pI R q j
noncomputable def mU:D->Bool
 |.tup [.int i,.int j]=>decide (1<=j) && decide ((Int.gcd i j:Int)=1)
 |_=>false
theorem uN{d:D}(h:∀i j,d≠.tup [.int i,.int j]):mU d=false:=by
 unfold mU;split
 . rename_i i j;exact absurd rfl (h i j)
 . rfl
theorem JJ{i j:Int}(hj:0<j):((Rat.divInt i j).num=i/\((Rat.divInt i j).den:Int)=j)↔(Int.gcd i j:Int)=1:=by
 have hn:=Rat.num_divInt i j;have hd:=Rat.den_divInt i j;constructor
 .
  rintro⟨h1,h2⟩;have hc:=(Rat.divInt i j).reduced;unfold Nat.Coprime at hc;rw[h1]at hc;have:(Rat.divInt i j).den=j.natAbs:=by omega
  rw[this]at hc;show((Nat.gcd i.natAbs j.natAbs:Nat):Int)=1;rw[hc];rfl
 .
  intro h;have h1:Int.gcd i j=1:=by omega
  have e:Rat.divInt i j=(⟨i,j.natAbs,xL,by unfold Nat.Coprime;exact h1⟩:Rat):=by
   rw[Rat.mk_eq_divInt]
   congr 1
   omega
  rw[e];exact⟨rfl,by show((j.natAbs:Nat):Int)=j;omega⟩
noncomputable def iO(c:Nat):Bool:=iM "a" ⟨#[c]⟩ && iM ⟨#[c]⟩ "z"
noncomputable def sH:D->Bool
 |.str x=>(decide (1<=x.cps.size) && decide (x.cps.size<=8)) && x.cps.toList.all iO
 |_=>false
def OC(d:D):Prop:=∀x,d=.str x->x.cps.all (· < 128)=true/\x.cps.size<1000000
theorem Mp{x:Str}(h:x.cps.all (· < 128)=true):PyData.strOk x=true:=by unfold PyData.strOk;rw[Array.all_eq_true]at h ⊢;intro i hi;have:=h i hi;simp at this ⊢;omega
theorem JK{x:Str}(h:x.cps.all (· < 128)=true){c:Nat}(hc:c∈x.cps.toList):(⟨#[c]⟩:Str).cps.all (· < 128)=true:=by rw[Array.all_eq_true]at h;obtain⟨i,hi,rfl⟩:=List.mem_iff_getElem.mp hc;have:=h i (by simpa using hi);simpa using this
theorem F5(x:Str):x.length=x.cps.size:=by simp[Str.length]
theorem uO(ys:List D):Q1 (.lst ys) (.lst [])=ys.isEmpty:=by rw[Ig];cases ys<;>rfl
mutual
noncomputable def C4:D->Nat
 |.tup xs=>max xs.length (yq xs)
 |.lst xs=>max xs.length (yq xs)
 |_=>0
noncomputable def yq:List D->Nat
 |[]=>0
 |x::xs=>max (C4 x) (yq xs)
end
theorem zQ{n:Nat}:∀{xs:List D},(∀x∈xs,C4 x<=n)->yq xs<=n
 |[],_=>VC _
 | y::ys,h=>by simp only[yq];have:=h y Ui;have:=zQ (xs:=ys) λx hx=>h x (Ud _ hx);omega
theorem JL(q:Rat):C4 (Rb q)=2:=by simp[Rb,C4,yq]
theorem F6(a:RL):C4 (mT a)=4:=by have:=JL a.size;simp[mT,C4,yq,this]
theorem C5{as:List RL}{n:Nat}(h:as.length<=n)(h2:4<=n):C4 (.lst (as.map mT))<=n:=by
 simp only[C4,tu];have:=zQ (n:=4) (xs:=as.map mT) λx hx=>by obtain⟨q,_,rfl⟩:=UW.mp hx;rw[F6];exact Ul _
 omega
structure RX (n:Nat) (d:D):Prop where
 dep:zi d<n
 wid:C4 d<=99
theorem RX.mono{n m:Nat}{d:D}(h:RX n d)(hm:n<=m):RX m d:=⟨Uj h.dep hm,h.wid⟩
theorem JM(q:Rat):zi (Rb q)=1:=by simp[Rb,zi,x9]
theorem F7(a:RL):zi (mT a)=2:=by have:=JM a.size;simp[mT,zi,x9,this]
theorem F8{xs:List D}{n:Nat}(h:∀x∈xs,zi x<=n):zi (.lst xs)<=n+1:=by simp only[zi];have:=zj h;omega
theorem C6(as:List RL):zi (.lst (as.map mT))<=3:=F8 λx hx=>by obtain⟨q,_,rfl⟩:=UW.mp hx;rw[F7];exact Ul _
theorem RX.asks{as:List RL}(h:as.length<=99):RX 4 (.lst (as.map mT)):=⟨by have:=C6 as;omega,C5 h x_⟩
mutual
theorem uM:∀(n:Nat)(d:D),Rc n d=true->Rc (n+1) d=true
 |_,.non,_=>by simp[Rc]
 |_,.bl _,_=>by simp[Rc]
 |_,.int _,_=>by simp[Rc]
 |_,.str x,h=>by simpa[Rc]using h
 |0,.tup _,h=>by simp[Rc]at h
 |0,.lst _,h=>by simp[Rc]at h
 | n+1,.tup xs,h=>by
  simp only[Rc]at h ⊢
  exact rq n xs h
 | n+1,.lst xs,h=>by
  simp only[Rc]at h ⊢
  exact rq n xs h
 |_,.dct _,h=>by simp[Rc]at h
 |_,.exc _ _ _,h=>by simp[Rc]at h
 |_,.fn _ _,h=>by simp[Rc]at h
 |_,.dk _ _,h=>by simp[Rc]at h
 |_,.gf _,h=>by simp[Rc]at h
theorem rq:∀(n:Nat)(ds:List D),lh n ds=true->lh (n+1) ds=true
 |_,[],_=>rfl
 | n,d::ds,h=>by
  simp only[lh,UE]at h ⊢
  exact⟨uM n d h.1,rq n ds h.2⟩
end
theorem Mq{n m:Nat}{d:D}(h:Rc n d=true)(hm:n<=m):Rc m d=true:=by
 obtain⟨k,rfl⟩:=Nat.exists_eq_add_of_le hm
 induction k with
 |zero=>exact h
 |succ k ih=>exact uM _ _ (ih xL)
end My
set_option exponentiation.threshold 5000
namespace My
open PySem L2
structure Pl where
 top:Rat
 strict:Bool
 elder:List (Option Bool)
 most:Nat
noncomputable def Mr(x:Option Bool×Option Bool):Bool:=match x.1 with
 |none=>false
 |some a=>x.2 == some (!a)
noncomputable def N3(el ws:List (Option Bool)):List Nat:=((el.zip ws).zipIdx.filter λx=>Mr x.1).map (·.2)
noncomputable def N4(st:Bool)(load bound:Int):Bool:=decide (bound<load) ||(st && decide (load=bound))
end My
set_option exponentiation.threshold 5000
namespace My
open PySem L2
noncomputable def OD:Nat->(Nat->Int)->Int
 |0,_=>0
 |n+1,f=>OD n f+f n
inductive Tr where
 |turned
 |cut (c:Nat×Nat)
 |split (k:Nat) (a b:Tr)
noncomputable def RY(R:cD)(fixed:List (Option Bool))(c:Nat×Nat)(i:Nat):Int:=match fixed.getD i none with
 |none=>if apart c (wo R i).one (wo R i).other then 1 else 0
 |some b=>(if RP R i c.1 == b then 1 else 0)+if RP R i c.2 == b then 1 else 0
noncomputable def N5(R:cD)(q:Rat)(fixed:List (Option Bool))(c:Nat×Nat):Int:=OD R.asks.length λi=>wI R q i*RY R fixed c i
def Tr.Ok(R:cD)(w:Pl):List (Option Bool)->Tr->Prop
 |fixed,.turned=>w.most<(N3 w.elder fixed).length
 |fixed,.cut c=>NZ R.n c/\N4 w.strict (N5 R w.top fixed c) (RW R w.top c.1+RW R w.top c.2)=true
 |fixed,.split k a b=>k<fixed.length/\fixed.getD k none=none/\Tr.Ok R w (fixed.set k (some true)) a/\Tr.Ok R w (fixed.set k (some false)) b
end My
set_option exponentiation.threshold 5000
namespace My
open PySem L2
structure N6 where
 k:Nat
 kw:Bool
 l:Nat
 lw:Bool
 am:Rat
noncomputable def RZ(R:cD)(ps:List Rat)(k:Nat)(w:Bool):Rat:=if w then R.sz k-ps.getD k 0 else ps.getD k 0
noncomputable def R0(R:cD)(ps:List Rat)(k:Nat)(kw:Bool)(l:Nat)(lw:Bool):Rat:=if RZ R ps l lw<RZ R ps k kw then RZ R ps l lw else RZ R ps k kw
noncomputable def N7(n:Nat)(a:RL)(aw:Bool)(b:RL)(bw:Bool):Bool:=!((NW n a aw).any λt=>decide (t∈NW n b bw))
end My
set_option exponentiation.threshold 5000
namespace My
open PySem L2
end My
set_option exponentiation.threshold 5000
namespace My
open PySem L2
noncomputable def Q7(R:cD)(ps:List Rat)(s:N6):Bool:=!decide (s.k=s.l) && (N7 R.n (wo R s.k) s.kw (wo R s.l) s.lw && (decide (0<s.am) && !decide (R0 R ps s.k s.kw s.l s.lw<s.am)))
end My
set_option exponentiation.threshold 5000
namespace My
open PySem L2
end My
set_option exponentiation.threshold 5000
namespace My
open PySem L2
noncomputable def Tr.nodes:Tr->Nat
 |.turned=>1
 |.cut _=>1
 |.split _ a b=>a.nodes+b.nodes+1
noncomputable def Tr.dep:Tr->Nat
 |.turned=>0
 |.cut _=>0
 |.split _ a b=>max a.dep b.dep+1
noncomputable def C7(f:Tr->Nat)(ts:List Tr):Nat:=(ts.map f).sum
theorem Ga(f:Tr->Nat)(as bs:List Tr):C7 f (as++bs)=C7 f as+C7 f bs:=by simp[C7]
theorem Gb(f:Tr->Nat)(t:Tr):C7 f [t]=f t:=by simp[C7]
structure Pt (n:Nat) (d:D):Prop where
 dep:zi d<=n
 wid:C4 d<=99
 same:Cv (20+n) d=true
theorem Pt.int(i:Int):Pt 0 (.int i):=⟨by simp[zi],by simp[C4],by simp[Cv]⟩
end My
set_option exponentiation.threshold 5000
namespace My
open PySem L2
noncomputable def Pn:D->Option Nat
 |.int i=>if 0<=i then some i.toNat else none
 |_=>none
theorem zR(q:Rat):mU (Rb q)=true:=by unfold Rb mU;have h1:=q.den_pos;have h2:=q.reduced;unfold Nat.Coprime at h2;rw[UE,U4,U4];refine⟨xL,?_⟩;show((Nat.gcd q.num.natAbs ((q.den:Int)).natAbs:Nat):Int)=1;rw[U6,h2];rfl
noncomputable def fG(d:D)(n:Int):Bool:=match d with
 |.int i=>decide (0<=i/\i<n)
 |_=>false
noncomputable def R1:D->Bool
 |.tup [.int i,.int j]=>mU (.tup [.int i,.int j]) && decide (0<i)
 |_=>false
theorem Ms{d:D}(h:∀i j,d≠.tup [.int i,.int j]):R1 d=false:=by
 unfold R1;split
 . exact absurd rfl (h _ _)
 . rfl
noncomputable def NR(p:Str)(n:D):Xc:=⟨"NoRing",["part","number"],[.str p,n]⟩
noncomputable def Mt:Option Nat->D
 |none=>.non
 |some i=>.int i
noncomputable def bZ:D->Option (Option Nat)
 |.lst rs=>if 2<=rs.length/\rs.length<=12 then(rs.findIdx? λr=>!R1 r).map some else some none
 |_=>some none
noncomputable def Kr:D->Bool
 |.tup (.int i::_)=>decide (0<=i)
 |_=>false
noncomputable def me(n:Int):D->Bool
 |.tup [a,b,c,s]=>sH a && mU s && (fG b n && fG c n) && (!(Q1 b c) && Kr s)
 |_=>false
noncomputable def gw:D->Str
 |.tup (.str x::_)=>x
 |_=>""
noncomputable def d7(n:Int):List D->List Str->Nat->Option Nat
 |[],_,_=>none
 |a::r,tk,i=>if me n a=true/\gw a∉tk then d7 n r (gw a::tk) (i+1)else some i
noncomputable def o5(n:Int):D->Option (Option Nat)
 |.lst as=>(d7 n as [] 0).map some
 |_=>some none
noncomputable def j6(n:Int):D->Option (Option Nat)
 |.lst as=>if 20<as.length then some none else o5 n (.lst as)
 |d=>o5 n d
noncomputable def M7:D->Int
 |.lst xs=>(xs.length:Int)
 |_=>0
noncomputable def fH:D->Option (Str×Option Nat)
 | .tup [r,a]=>match bZ r with
  |some k=>some ("rooms",k)
  |none=>(j6 (M7 r) a).map λk=>("asks",k)
 |_=>some ("ring",none)
def Ks(d:D):Prop:=∀xs,d=.tup xs->∀a,xs[0]?=some a->OC a
def Gc(d:D):Prop:=∀as,d=.lst as->as.length<=1000/\∀a∈as,Ks a
theorem N8(n:Int)(a b c s:D):me n (.tup [a,b,c,s])=(sH a && mU s && (fG b n && fG c n) && (!(Q1 b c) && Kr s)):=rfl
theorem zS{d:D}{n:Int}(h:fG d n=true):∃i,d=.int i:=by
 cases d with
 |int i=>exact⟨i,rfl⟩
 |_=>cases h
theorem yr{n:Int}{d:D}(h:me n d=true):∃x i j s,d=.tup [.str x,.int i,.int j,s]/\sH (.str x)=true/\mU s=true:=by
 unfold me at h;split at h
 .
  rename_i a b c s;simp only[UE]at h;obtain⟨⟨⟨h1,h2⟩,h3,h4⟩,_⟩:=h
  have e1:∃x,a=.str x:=by
   cases a with
   |str x=>exact⟨x,rfl⟩
   |_=>cases h1
  have e2:∃i,b=.int i:=by
   cases b with
   |int i=>exact⟨i,rfl⟩
   |_=>cases h3
  have e3:∃i,c=.int i:=by
   cases c with
   |int i=>exact⟨i,rfl⟩
   |_=>cases h4
  obtain⟨x,rfl⟩:=e1;obtain⟨i,rfl⟩:=e2;obtain⟨j,rfl⟩:=e3;exact⟨x,i,j,s,rfl,h1,h2⟩
 . cases h
theorem zT{d:D}(h:mU d=true):∃i j,d=.tup [.int i,.int j]:=by
 unfold mU at h;split at h
 . exact⟨_,_,rfl⟩
 . cases h
theorem wq{c:Nat}(h:oZ c):iO c=true:=by
 have all:∀c:Fin 123,97<=c.val->iO c.val=true:=by decide +kernel
 exact all ⟨c,by have:=h.2;omega⟩ h.1
theorem Gd{z:Str}(h:zL z):sH (.str z)=true:=by have h1:=h.lo;have h2:=h.hi;rw[VG]at h1 h2;simp only[sH,UE,U4,US];exact⟨⟨h1,h2⟩,λc hc=>wq (h.let_ c hc)⟩
theorem Mu{q:Rat}(h:0<q):R1 (Rb q)=true:=by
 show(mU (Rb q) && decide (0<q.num))=true;rw[zR,Vr];have h0:=Rat.num_nonneg.mpr (Rat.le_of_lt h);have h1:q.num≠0:=λz=>by have:q=0:=Rat.num_eq_zero.mp z;rw[this]at h;exact absurd h x_
 exact Uw xL
theorem JN{n:Nat}{a:RL}(h:yi n a)(hz:zL a.nm):me (n:Int) (mT a)=true:=by
 have h1:=h.one;have h2:=h.other;have h3:=h.ne;have e:Q1 (.int a.one) (.int a.other)=false:=by show decide ((a.one:Int)=(a.other:Int))=false;exact Uy xL
 show(sH (.str a.nm) && mU (Rb a.size) && (fG (.int a.one) n && fG (.int a.other) n) && (!(Q1 (.int a.one) (.int a.other)) && decide (0<=a.size.num)))=true;rw[Gd hz,zR,e,show fG (.int a.one) n=true from Uw xL,show fG (.int a.other) n=true from Uw xL,Uw (Rat.num_nonneg.mpr h.size)];rfl
theorem uP{qs:List Rat}(h:∀q∈qs,0<q)(h1:2<=qs.length)(h2:qs.length<=12):bZ (.lst (qs.map Rb))=none:=by
 unfold bZ;dsimp only;rw[if_pos (by rw[tu];exact⟨h1,h2⟩)];have e:(qs.map Rb).findIdx? (λr=>!R1 r)=none:=by rw[List.findIdx?_eq_none_iff];intro x hx;obtain⟨q,hq,rfl⟩:=UW.mp hx;rw[Mu (h q hq)];rfl
 rw[e];rfl
noncomputable def wu(i:Nat)(xs:List D):List D:=(xs.zipIdx i).map λp=>.tup [.int (p.2:Int),p.1]
theorem tJ(xs:List D):sE xs=wu 0 xs:=rfl
theorem o6(i:Nat)(x:D)(xs:List D):wu i (x::xs)=.tup [.int (i:Int),x]::wu (i+1) xs:=rfl
theorem o7{g:Tg}{b:W Fl}{x:D}{xs:List D}{Z:Ev}{so:Fl->Ev->Prop}:iJ g b (x::xs) Z so=g x Z λZ1=>b Z1 λf Z2=>match f with
  |.nx=>iJ g b xs Z2 so
  |.ct=>iJ g b xs Z2 so
  |.bk=>so .nx Z2
  |.rt r=>so (.rt r) Z2:=rfl
noncomputable def R3(zs:List Str):List (PQ×D):=zs.map λx=>(.inr x,.bl true)
theorem zU{x:Str}:∀zs:List Str,(zA (R3 zs) (.inr x)).isSome=decide (x∈zs)
 |[]=>by simp[R3,zA]
 | z::zs=>by
  have ih:=zU (x:=x) zs;unfold R3 at ih ⊢;rw[UC];unfold zA;by_cases e:z=x
  . subst e;simp
  . have e1:¬((Sum.inr z:PQ)=.inr x):=λq=>e (Sum.inr.inj q);simp only[e1,if_false,Uo,show(x=z)=False from by simp[Vn e],false_or];exact ih
theorem Ge{x:Str}{zs:List Str}(h:x∉zs):IT (R3 zs) (.inr x) (.bl true)=R3 (zs++[x]):=by
 unfold IT;have e:((R3 zs).any λp=>decide (p.1=.inr x))=false:=by rw[List.any_eq_false];intro p hp;obtain⟨z,hz,rfl⟩:=UW.mp hp;simp only[U4];intro q;exact h (by rw[<- Sum.inr.inj q];exact hz)
 rw[e];simp[R3]
theorem JO(zs:List Str):(R3 zs).length=zs.length:=by simp[R3]
theorem wx{n:Int}:∀(as:List D)(t1 t2:List Str)(i:Nat),(∀x,x∈t1↔x∈t2)->d7 n as t1 i=d7 n as t2 i
 |[],_,_,_,_=>rfl
 | a::as,t1,t2,i,h=>by
  have e:=wx (n:=n) as (gw a::t1) (gw a::t2) (i+1) λx=>by rw[Uo,Uo,h]
  simp only[d7,e,h]
structure G2 (R:cD):Prop where
 ok:R.Ok
 hi:R.n<=12
 few:R.asks.length<=20
 nms:(∀a∈R.asks,zL a.nm)/\(R.asks.map (·.nm)).Nodup
 tt:∀a∈R.asks,RB 60 a.size
theorem G2.all{R:cD}(h:G2 R):∀a∈R.asks,yi R.rooms.length a/\zL a.nm/\RB 60 a.size:=λa ha=>⟨h.ok.ask a ha,h.nms.1 a ha,h.tt a ha⟩
def R4(xs:List D):Prop:=∀x∈xs,x=.non∨∃w,x=.str (Kp w)
theorem R4.ok{xs:List D}(h:R4 xs):Rc 1 (.lst xs)=true:=by
 simp only[Rc]
 have:=fg (f:=id) (n:=0) xs λx hx=>by
  rcases h x hx with rfl|⟨w,rfl⟩
  . rfl
  . cases w<;>decide +kernel
 rwa [List.map_id]at this
end My
set_option exponentiation.threshold 5000
namespace My
open PySem L2 PyProof.Rows
noncomputable def cM(n:Int):Str:=Str.ofString (toString n)
noncomputable def mf(m:Nat):List Nat:=(Nat.toDigits 10 m).map Char.toNat
theorem mh{x y:Str}(h:x.cps.toList=y.cps.toList):x=y:=by cases x with|mk a=>cases y with|mk b=>exact Vy Str.mk (by simpa using h)
theorem uQ(m:Nat):(cM (m:Int)).cps.toList=mf m:=W.KIN.signs_num m
theorem C8(m:Nat):(cM (-((m+1:Nat):Int))).cps.toList=45::mf (m+1):=by unfold cM mf;rw[show toString (-((m+1:Nat):Int))="-"++Nat.repr (m+1)from rfl,signs_ofString,String.toList_append,Vg,Nat.toList_repr];rfl
theorem eF(m:Nat):NumText.AllDigits (mf m):=λc hc=>by obtain⟨ch,hch,e⟩:=UW.mp hc;rw[<- e];exact digit_range (Nat.isDigit_of_mem_toDigits x_ x_ hch)
theorem wy(m:Nat):mf m≠[]:=λe=>by have:=Nat.length_toDigits_pos (b:=10) (n:=m);rw[List.map_eq_nil_iff.mp e]at this;cases this
theorem C9(m:Nat):NumText.digitsVal (mf m)=m:=W.KIN.val_back m
theorem iP{m k:Nat}(hk:0<k):(mf m).length<=k↔m<10^k:=by unfold mf;rw[tu];exact Nat.length_toDigits_le_iff x_ hk
theorem zV{m:Nat}(h:10<=m):mf m=mf (m / 10)++[48+m % 10]:=by
 unfold mf;rw[Nat.toDigits_of_base_le x_ h,Vg];have:∀d,d<10->(Nat.digitChar d).toNat=48+d:=by decide
 rw[List.map_singleton,this _ (Nat.mod_lt _ x_)]
theorem Da{m:Nat}(h:m<10):mf m=[48+m]:=by
 have:∀d,d<10->mf d=[48+d]:=by decide
 exact this m h
theorem d8(n:Int):(∃m:Nat,n=m/\(cM n).cps.toList=mf m)∨∃m:Nat,n=-((m+1:Nat):Int)/\(cM n).cps.toList=45::mf (m+1):=by
 rcases Int.lt_or_le n 0 with h|h
 .
  refine .inr ⟨n.natAbs-1,xL,?_⟩;have e:n=-((n.natAbs-1+1:Nat):Int):=by omega
  have:=C8 (n.natAbs-1);rw[<- e]at this;exact this
 . obtain⟨m,rfl⟩:=UV h;exact .inl ⟨m,rfl,uQ m⟩
theorem bf(x:Str):x.length=x.cps.toList.length:=by show x.cps.size=_;simp
theorem wz{n:Int}(h:n.natAbs<10^600):intText? (cM n)=some n/\(cM n).length<=640:=by
 rcases d8 n with⟨m,rfl,e⟩|⟨m,rfl,e⟩
 .
  have l:(mf m).length<=600:=(iP x_).mpr xL;have l':(cM (m:Int)).length<=640:=by rw[bf,e];omega
  have:=PySem.intText_digits (x:=cM (m:Int)) (by rw[e];exact eF m) (by rw[e];exact wy m) xL;rw[e,C9]at this;exact⟨this,l'⟩
 .
  have l:(mf (m+1)).length<=600:=(iP x_).mpr xL;have l':(cM (-((m+1:Nat):Int))).length<=640:=by rw[bf,e,Uk];omega
  have:=PySem.intText_neg (x:=cM (-((m+1:Nat):Int))) e (eF _) (wy _) xL;rw[C9]at this;exact⟨this,l'⟩
noncomputable def aI(x:Str):Option Int:=match intText? x with
 |some n=>if cM n=x/\n.natAbs<10^60 then some n else none
 |none=>none
noncomputable def R5:Option Int->D
 |some n=>.int n
 |none=>.non
theorem tK{n:Int}(h:n.natAbs<10^60):aI (cM n)=some n:=by unfold aI;rw[(wz (Uj h y_)).1];exact if_pos ⟨rfl,h⟩
theorem j7{x:Str}{n:Int}(h:aI x=some n):x=cM n/\n.natAbs<10^60:=by
 unfold aI at h
 cases e:intText? x with
 |none=>rw[e]at h;cases h
 | some m =>
  rw[e]at h;dsimp only at h;split at h
  . rename_i c;cases h;exact⟨c.1.symm,c.2⟩
  . cases h
noncomputable def gn(cs:List Nat):List Nat:=if cs.head?=some 45 then cs.tail else cs
theorem zW(m:Nat):(mf m).head?≠some 45:=λe=>by have:=eF m 45 (List.mem_of_head? e);omega
theorem Gf{n:Int}(h:n.natAbs<10^60):NumText.AllDigits (gn (cM n).cps.toList)/\gn (cM n).cps.toList≠[]/\(gn (cM n).cps.toList).length<=60:=by
 rcases d8 n with⟨m,rfl,e⟩|⟨m,rfl,e⟩
 . rw[e];unfold gn;rw[if_neg (zW m)];exact⟨eF m,wy m,(iP x_).mpr xL⟩
 . rw[e];unfold gn;rw[if_pos (show(45::mf (m+1)).head?=some 45 from rfl)];exact⟨eF _,wy _,(iP x_).mpr xL⟩
theorem o8{x:Str}(h:¬(NumText.AllDigits (gn x.cps.toList)/\gn x.cps.toList≠[]/\(gn x.cps.toList).length<=60)):aI x=none:=by
 cases e:aI x with
 |none=>rfl
 | some n =>
  obtain⟨rfl,hn⟩:=j7 e;exact absurd (Gf hn) h
theorem Dc{x:Str}(h1:NumText.AllDigits (gn x.cps.toList))(h2:gn x.cps.toList≠[])(h3:(gn x.cps.toList).length<=60) :
  ∃n,intText? x=some n/\x.length<=640/\n.natAbs<10^60/\aI x=if cM n=x then some n else none:=by
 have key:∀n,intText? x=some n->n.natAbs<10^60->aI x=if cM n=x then some n else none:=λn e hn=>by
  unfold aI;rw[e];dsimp only;by_cases c:cM n=x
  . rw[if_pos ⟨c,hn⟩,if_pos c]
  . rw[if_neg (λz=>c z.1),if_neg c]
 have dv:∀cs:List Nat,NumText.AllDigits cs->cs.length<=60->NumText.digitsVal cs<10^60:=by
  have dv':∀cs:List Nat,NumText.AllDigits cs->∀a,cs.foldl (λacc c=>acc*10+(c-48)) a<(a+1)*10^cs.length:=by
   intro cs
   induction cs with
   |nil=>intro _ a;simp
   | cons c cs ih =>
    intro hd a;have h0:=hd c Ui;have:=ih (λd h=>hd d (Ud _ h)) (a*10+(c-48));rw[V5,Uk,Nat.pow_succ];refine Uj this ?_;rw[Nat.mul_comm (10^cs.length) 10,<- Nat.mul_assoc];exact Nat.mul_le_mul_right _ xL
  intro cs h l;have:=dv' cs h 0;rw[Nat.zero_add,Nat.one_mul]at this;exact Uj this (U9 x_ l)
 have hl:x.length<=640:=by
  rw[bf];unfold gn at h3;split at h3
  . rw[List.length_tail]at h3;omega
  . omega
 by_cases c:x.cps.toList.head?=some 45
 .
  have e:x.cps.toList=45::gn x.cps.toList:=by
   unfold gn;rw[if_pos c]
   revert c
   cases x.cps.toList with
   |nil=>intro c;cases c
   |cons a cs=>intro c;cases c;rfl
  have r:=intText_neg e h1 h2 xL;have b:=dv _ h1 h3;exact⟨_,r,hl,xL,key _ r xL⟩
 .
  have e:x.cps.toList=gn x.cps.toList:=by unfold gn;rw[if_neg c]
  have r:=intText_digits (x:=x) (by rw[e];exact h1) (by rw[e];exact h2) xL;have b:=dv _ h1 h3;rw[<- e]at b;exact⟨_,r,hl,xL,key _ r xL⟩
theorem JP(x:Str):Txt.startswith x (Str.ofString "-")=decide (x.cps.toList.head?=some 45):=by
 have e:Str.ofString "-"=⟨#[45]⟩:=by decide +kernel
 rw[e];obtain⟨⟨l⟩⟩:=x
 cases l with
 |nil=>rfl
 | cons a cs =>
  show(decide (0+1<=(a::cs).length) && ((a::cs).toArray.extract 0 (0+1) == #[45]))=decide (some a=some 45);have h1:decide (0+1<=(a::cs).length)=true:=Uw v6;have h2:(a::cs).toArray.extract 0 (0+1)=#[a]:=by simp
  rw[h1,h2,Vr];by_cases c:a=45
  . subst c;decide
  . rw[Uy (by simpa using c)];simp[c]
theorem wB{x:Str}(h:x.cps.toList.head?=some 45):(Txt.slice x (some 1) none).cps.toList=gn x.cps.toList:=by
 have hl:1<=x.cps.toList.length:=by
  revert h
  cases x.cps.toList with
  |nil=>intro h;cases h
  |cons a cs=>intro _;simp
 rw[tG x_ (by rw[bf];omega)];unfold gn;rw[if_pos h];exact List.drop_one
theorem zX{x:Str}(h:¬x.cps.toList.head?=some 45):x.cps.toList=gn x.cps.toList:=by unfold gn;rw[if_neg h]
noncomputable def tM(c:Nat):Bool:=iM (Str.ofString "0") ⟨#[c]⟩ && iM ⟨#[c]⟩ (Str.ofString "9")
theorem G3(c:Nat):tM c=true↔48<=c/\c<=57:=by
 have e0:(Str.ofString "0").cps.toList=[48]:=by decide +kernel
 have e9:(Str.ofString "9").cps.toList=[57]:=by decide +kernel
 have l:∀a b:Nat,([a] < [b])↔a<b:=λa b=>by rw[List.cons_lt_cons_iff];simp
 unfold tM iM;rw[e0,e9,UE];show(!decide ([c] < [48]))=true/\(!decide ([57] < [c]))=true↔_;rw[Bool.not_eq_true',Bool.not_eq_true',decide_eq_false_iff_not,decide_eq_false_iff_not,l,l];omega
theorem uR(cs:List Nat):cs.all tM=true↔NumText.AllDigits cs:=by rw[US];exact⟨λh c hc=>(G3 c).mp (h c hc),λh c hc=>(G3 c).mpr (h c hc)⟩
theorem Gg{i:Int}(h:i.natAbs<10^60):i.natAbs.log2<1920:=by
 rcases Nat.eq_zero_or_pos i.natAbs with e|e
 . rw[e];decide
 . exact Nat.lt_trans ((Nat.log2_lt xL).mpr (Nat.lt_trans h (show 10^60<2^200 by decide))) x_
theorem zY:∀(m:Nat),(mf m).head?=some 48->m=0:=by
 intro m
 induction m using Nat.strongRecOn with
 | _ m ih =>
  intro h;by_cases c:m<10
  . rw[Da c]at h;simp at h;omega
  .
   rw[zV xL]at h;have ne:=wy (m / 10)
   have h':(mf (m / 10)).head?=some 48:=by
    revert h
    cases e:mf (m / 10)with
    |nil=>exact absurd e ne
    |cons a l=>intro h;simpa using h
   have:=ih (m / 10) xL h';omega
theorem Gh:∀(k:Nat)(cs:List Nat),cs.length=k+1->NumText.AllDigits cs->(cs.head?=some 48->k=0)->mf (NumText.digitsVal cs)=cs:=by
 intro k
 induction k with
 | zero =>
  intro cs hl hd _;obtain⟨c,rfl⟩:=List.length_eq_one_iff.mp hl;have:=hd c Ui;show mf (0*10+(c-48))=[c];rw[Da xL];exact Vy (λz=>[z]) xL
 | succ k ih =>
  intro cs hl hd hz;obtain⟨ds,c,rfl⟩:∃ds c,cs=ds++[c]:=⟨cs.dropLast,cs.getLast (λe=>by rw[e]at hl;cases hl),(List.dropLast_concat_getLast _).symm⟩;have hl':ds.length=k+1:=by simpa using hl
  have hc:=hd c v6
  have hne:ds.head?≠some 48:=λe=>by
   have:(ds++[c]).head?=some 48:=by
    revert e
    cases ds with
    |nil=>intro e;cases e
    |cons a l=>intro e;simpa using e
   exact absurd (hz this) xL
  have hb:=ih ds hl' (λd h=>hd d (by simp[h])) λe=>absurd e hne;rw[NumText.digitsVal_snoc];have pos:NumText.digitsVal ds≠0:=λe=>by rw[e]at hb;rw[<- hb]at hne;exact hne rfl
  rw[zV xL,show(NumText.digitsVal ds*10+(c-48)) / 10=NumText.digitsVal ds by omega,hb];exact Vy (λz=>ds++[z]) xL
theorem uS:cM 0=Str.ofString "0":=by decide +kernel
theorem Dd{x:Str}(h:(gn x.cps.toList).head?=some 48) (hx:x≠Str.ofString "0"):aI x=none:=by
 cases e:aI x with
 |none=>rfl
 | some n =>
  obtain⟨rfl,hn⟩:=j7 e;rcases d8 n with⟨m,rfl,en⟩|⟨m,rfl,en⟩
  . rw[en]at h;unfold gn at h;rw[if_neg (zW m)]at h;have:=zY m h;subst this;exact absurd uS hx
  . rw[en]at h;unfold gn at h;rw[if_pos (show(45::mf (m+1)).head?=some 45 from rfl)]at h;have:=zY (m+1) h;omega
theorem Mv{x:Str}(h1:NumText.AllDigits (gn x.cps.toList))(h2:gn x.cps.toList≠[])(h3:(gn x.cps.toList).length<=60) (h4:(gn x.cps.toList).head?=some 48->x=Str.ofString "0") :
  ∃n,intText? x=some n/\x.length<=640/\n.natAbs<10^60/\aI x=some n:=by
 by_cases z:x=Str.ofString "0"
 . subst z;refine⟨0,by rw[<- uS];exact(wz y_).1,y_,y_,by rw[<- uS];exact tK y_⟩
 .
  obtain⟨n,r1,r2,r3,r4⟩:=Dc h1 h2 h3;refine⟨n,r1,r2,r3,?_⟩;rw[r4,if_pos];have hb:=Gh ((gn x.cps.toList).length-1) _ (by have:=List.length_pos_iff.mpr h2;omega) h1 λe=>absurd (h4 e) z;by_cases c:x.cps.toList.head?=some 45
  .
   have e:x.cps.toList=45::gn x.cps.toList:=by
    unfold gn;rw[if_pos c]
    revert c
    cases x.cps.toList with
    |nil=>intro c;cases c
    |cons a cs=>intro c;cases c;rfl
   have r:=intText_neg e h1 h2 xL;rw[r]at r1;cases r1;generalize hv:NumText.digitsVal (gn x.cps.toList)=v at *
   cases v with
   | zero =>
    rw[<- hb]at h4;exact absurd (h4 rfl) z
   | succ m =>
    refine mh ?_;rw[C8 m,hb,<- e]
  .
   have e:x.cps.toList=gn x.cps.toList:=by unfold gn;rw[if_neg c]
   have r:=intText_digits (x:=x) (by rw[e];exact h1) (by rw[e];exact h2) xL;rw[r]at r1;cases r1;refine mh ?_;rw[uQ];rw[<- e]at hb;exact hb
theorem fJ{x:Str}(h:∀c∈x.cps.toList,c<128):cq (.str x):=bq (n:=0) (by
 show PyData.strOk x=true;unfold PyData.strOk;simp only[Array.all_eq_true_iff_forall_mem];intro c hc;have:=h c (Array.mem_toList_iff.mpr hc);simp
 omega) x_
theorem De(x:Str):Txt.slice x none (some 1)=Str.ofString "-"↔x.cps.toList.head?=some 45:=by
 have e:(Str.ofString "-").cps.toList=[45]:=by decide +kernel
 cases hx:x.cps.toList with
 | nil =>
  constructor
  .
   intro h;have:x.length=0:=by rw[bf,hx];rfl
   have h2:(Txt.slice x none (some 1)).cps.toList=(Str.ofString "-").cps.toList:=by rw[h]
   have sl:(Txt.slice x none (some 1)).cps.toList.length=0:=by obtain⟨⟨l⟩⟩:=x;cases hx;decide +kernel
   rw[h2,e]at sl;cases sl
  . intro h;cases h
 | cons a cs =>
  have sl:=qF (x:=x) (j:=1) x_ (by rw[bf,hx,Uk];omega);rw[hx]at sl;have sl:(Txt.slice x none (some 1)).cps.toList=[a]:=sl;constructor
  . intro h;rw[h,e]at sl;cases sl;rfl
  . intro h;cases h;exact mh (by rw[sl,e])
theorem Df{x:Str}(h:∀c∈x.cps.toList,c<128):∀c∈(Txt.slice x none (some 1)).cps.toList,c<128:=by
 cases hx:x.cps.toList with
 | nil =>
  obtain⟨⟨l⟩⟩:=x;cases hx;decide +kernel
 | cons a cs =>
  have sl:=qF (x:=x) (j:=1) x_ (by rw[bf,hx,Uk];omega);rw[sl];intro c hc;exact h c (U3 hc)
theorem G4{x:Str}(h:x.length<=100000):Fy x (Str.ofString "/"):=by
 have e:sizeLine=16777216:=by decide
 have:=split_le x (Str.ofString "/");exact⟨y_,xL,xL⟩
theorem JQ{x p:Str} (h:Txt.split x (Str.ofString "/")=[p]):x=p:=by have:=StrLaws.join_split x (Str.ofString "/");rw[h]at this;exact this.symm
theorem JR{x p q:Str} (h:Txt.split x (Str.ofString "/")=[p,q]):x=p++Str.ofString "/"++q:=by have:=StrLaws.join_split x (Str.ofString "/");rw[h]at this;exact this.symm
theorem uT(y:Str):∀(ps:List Str)(p:Str),p∈ps->∀c∈p.cps.toList,c∈(Str.join y ps).cps.toList
 |[],p,hp,c,hc=>by cases hp
 | [q],p,hp,c,hc=>by rw[Ux.mp hp]at hc;exact hc
 | q::r::ps,p,hp,c,hc=>by
  show c∈(q.cps++y.cps++(Str.join y (r::ps)).cps).toList;rw[UR,UR];rcases Uo.mp hp with rfl|hp
  . exact Uz _ (Uz _ hc)
  . exact UD _ (uT y (r::ps) p hp c hc)
theorem zZ{x:Str}(h:∀ c∈x.cps.toList,c < 128):∀ p∈Txt.split x (Str.ofString "/"),∀ c∈p.cps.toList,c < 128:=λp hp c hc=>by refine h c ?_;have:=uT (Str.ofString "/") _ p hp c hc;rwa [StrLaws.join_split]at this
end My
namespace My
open PySem L2 PySem.Builtin.Str
structure As (n:Nat) (x:Str):Prop where
 len:x.length<=n
 asc:∀c∈x.cps.toList,c<128
theorem As.mono{n m:Nat}{x:Str}(h:As n x)(k:n<=m):As m x:=⟨Uv h.len k,h.asc⟩
theorem As.app{n m:Nat}{x y:Str}(h:As n x)(g:As m y):As (n+m) (x++y):=by
 refine⟨by rw[Vl];exact Nat.add_le_add h.len g.len,λc hc=>?_⟩;have hc:c∈(x.cps++y.cps).toList:=hc;rw[UR]at hc;rcases Ur.mp hc with e|e
 . exact h.asc c e
 . exact g.asc c e
theorem Dg(x:Str)(l u:Option Int):∀c∈(Txt.slice x l u).cps.toList,c∈x.cps.toList:=by
 intro c;unfold Txt.slice;split
 . exact id
 . intro hc;have hc:c∈((strSliceIndices l u 1 x.length).filterMap (x.cps[·]?)).toArray.toList:=hc;rw[List.toList_toArray]at hc;obtain⟨i,_,e⟩:=List.mem_filterMap.mp hc;exact Array.mem_toList_iff.mpr (Array.mem_of_getElem? e)
theorem As.slice{n:Nat}{x:Str}(h:As n x)(l u:Option Int):As n (Txt.slice x l u) :=
 ⟨Uv (Txt.slice_le x l u) h.len,λc hc=>h.asc c (Dg x l u c hc)⟩
theorem a7{n:Nat}{x:Str}(h:(decide (x.length<=n) && x.cps.toList.all (· < 128))=true):As n x:=by obtain⟨a,b⟩:=VM.mp h;exact⟨of_decide_eq_true a,λc hc=>of_decide_eq_true (US.mp b c hc)⟩
theorem Mw{ds:List D}{P:D->Prop}(h:∀d∈ds,P d){k:Int}(k0:0<=k)(k1:k<ds.length):∃v,Qu ds k=some v/\P v:=by
 have hk:k.toNat<ds.length:=by omega
 exact⟨ds[k.toNat],lH k0 (Uu hk),h _ (Vm hk)⟩
def TS(P:Str->Prop)(t:W L)(Z:Ev):Prop:=∀so:L->Ev->Prop,(∀x,P x->so (.d (.str x)) Z)->t Z so
theorem TS.mono{P Q:Str->Prop}{t:W L}{Z:Ev}(h:TS P t Z)(k:∀x,P x->Q x):TS Q t Z:=λso hp=>h so λx hx=>hp x (k x hx)
theorem jy{P:Str->Prop}{Z:Ev}{i:Nat}{x:Str}(e:Z[i]?=some (.d (.str x)))(h:P x):TS P (aj i) Z:=λso hp=>by unfold aj;rw[e];exact hp x h
theorem cG{P:Str->Prop}{Z:Ev}{x:Str}(h:P x):TS P (wC (.str x)) Z:=λso hp=>hp x h
theorem hZ{P:Str->Prop}{Z:Ev}{t:W L}(h:TS P t Z):TS P (br t) Z:=λso hp=>h _ λx hx=>hp x hx
theorem lI{n m:Nat}{Z:Ev}{a b:W L}(ha:TS (As n) a Z)(hb:TS (As m) b Z)(k:n+m<=1000000):TS (As (n+m)) (aG aW a b) Z:=λso hp=>by
 refine ha _ λx hx=>hb _ λy hy=>?_;have e:sizeLine=16777216:=by decide
 exact⟨by have:=hx.len;have:=hy.len;omega,hp _ (hx.app hy)⟩
def R6(o:Option (W L))(Z:Ev):Prop:=∀k:Option Int->Ev->Prop,(∀v,k v Z)->xQ o Z k
theorem o9{Z:Ev}:R6 none Z:=λk h=>h none
theorem z6{Z:Ev}{i:Nat}{n:Int}(e:Z[i]?=some (.d (.int n))):R6 (some (aj i)) Z:=λk h=>by show aj i Z _;unfold aj;rw[e];exact h _
theorem G5{Z:Ev}{i:Nat}{n m:Int}(e:Z[i]?=some (.d (.int n))):R6 (some (aG aW (aj i) (wC (.int m)))) Z:=λk h=>by show aG aW (aj i) (wC (.int m)) Z _;unfold aG aj;rw[e];exact h _
theorem A0{n:Nat}{Z:Ev}{a:W L}{l u:Option (W L)}(ha:TS (As n) a Z)(hl:R6 l Z)(hu:R6 u Z)(k:n<=1000000):TS (As n) (gH a l u) Z:=λso hp=>by
 refine ha _ λx hx=>hl _ λi=>hu _ λj=>?_;have e:sizeLine=16777216:=by decide
 exact⟨by have:=hx.len;omega,hp _ (hx.slice _ _)⟩
theorem Dh{x:Str}(h:∀c∈x.cps.toList,c<128)(n:Nat):∀c∈(FC x n).cps.toList,c<128:=by
 have key:∀(n:Nat)(acc:Array Nat),(∀c∈acc.toList,c<128)->∀c∈((List.replicate n x.cps).foldl (·++·) acc).toList,c<128:=by
  intro n
  induction n with
  |zero=>exact λacc h=>h
  | succ n ih =>
   intro acc ha;rw[U1,V5];refine ih _ λc hc=>?_;rw[UR]at hc;rcases Ur.mp hc with e|e
   . exact ha c e
   . exact h c e
 exact key n #[] (λc hc=>by cases hc)
theorem Di(x:Str)(n:Nat):(FC x n).length=x.length*n:=by show((List.replicate n x.cps).foldl (·++·) #[]).size=_;rw[uH];simp[Str.length]
theorem z7{n:Nat}{Z:Ev}{x:Str}{i:Int}(hx:As n x)(h1:1<=x.length)(h2:2<=i)(h3:i<=1000)(k:n<=1000):TS (As (n*i.toNat)) (aG lF (wC (.str x)) (wC (.int i))) Z:=λso hp=>by refine⟨h2,h3,h1,Uv hx.len k,hp _ ⟨?_,Dh hx.asc _⟩⟩;rw[Di];exact Nat.mul_le_mul_right _ hx.len
def R7(P:Str->Prop)(k:Nat)(t:W (List L))(Z:Ev):Prop:=∀so:List L->Ev->Prop,(∀xs:List Str,xs.length=k->(∀x∈xs,P x)->so (xs.map λx=>.d (.str x)) Z)->t Z so
theorem uU{P:Str->Prop}{Z:Ev}:R7 P 0 aQ Z:=λso h=>h [] rfl (λx hx=>by cases hx)
theorem ba{P:Str->Prop}{Z:Ev}{k:Nat}{a:W L}{r:W (List L)}(ha:TS P a Z)(hr:R7 P k r Z):R7 P (k+1) (aE a r) Z:=λso h=>by
 refine ha _ λx hx=>hr _ λxs hl hp=>h (x::xs) (by rw[Uk,hl]) λy hy=>?_;rcases Uo.mp hy with rfl|hy
 . exact hx
 . exact hp y hy
theorem wD:∀(xs:List Str)(k:List D->Prop),k (xs.map D.str)->D3 (xs.map λx=>L.d (.str x)) k
 |[],_,h=>h
 |x::xs,k,h=>wD xs (λys=>k (.str x::ys)) h
def TL(P:Str->Prop)(k:Nat)(t:W L)(Z:Ev):Prop:=∀so:L->Ev->Prop,(∀(a:Addr)(xs:List Str),xs.length=k->(∀x∈xs,P x)->so (.own a (xs.map D.str)) Z)->t Z so
def TF(P:Str->Prop)(k:Nat)(t:W L)(Z:Ev):Prop:=∀so:L->Ev->Prop,(∀(xs:List Str),xs.length=k->(∀x∈xs,P x)->so (.d (.lst (xs.map D.str))) Z)->t Z so
theorem Aa{P:Str->Prop}{Z:Ev}{k:Nat}{r:W (List L)}(h:R7 P k r Z)(hk:k<=1000):TL P k (jo r) Z:=λso hp=>h _ λxs hl hx=>by
 refine wD xs _ ⟨?_,λa=>hp a xs hl hx⟩;have e:sizeLine=16777216:=by decide
 rw[tu];omega
theorem Mx{P:Str->Prop}{Z:Ev}{k:Nat}{t:W L}(h:TL P k t Z):TF P k (br t) Z:=λso hp=>h _ λ_ xs hl hx=>hp xs hl hx
theorem Mz{P:Str->Prop}{Z:Ev}{i k:Nat}{t:W L}{ys:List Str}(e:Z[i]?=some (.d (.lst (ys.map D.str))))(hy:∀y∈ys,P y)(h:TL P k t Z)(hk:ys.length+k<=1000):TF P (ys.length+k) (br (aG aW (aj i) t)) Z:=λso hp=>by
 unfold br aG aj;rw[e];refine h _ λa xs hl hx=>⟨?_,λ_=>?_⟩
 .
  have e:sizeLine=16777216:=by decide
  rw[tu,tu];omega
 . have:=hp (ys++xs) (by rw[Ue,hl]) λx hx'=>(Ur.mp hx').elim (hy x) (hx x);rw[Vg]at this;exact this
theorem Dj{P:Str->Prop}{Z:Ev}{i k:Nat}{t:W L}{u:W Fl}{so:Fl->Ev->Prop}(h:TF P k t Z)(hu:∀xs:List Str,xs.length=k->(∀x∈xs,P x)->u (Z.set i (.d (.lst (xs.map D.str)))) so):a8 (bP i t) u Z so :=
 h _ hu
end My
namespace My
open PySem L2 PySem.Builtin PySem.Builtin.Str PySem.StrLaws
def Dk(y q:List Nat):Prop:=∀k,(q.drop k).take y.length≠y
noncomputable def jn(y:List Nat):List (List Nat)->List Nat
 |[]=>[]
 |[p]=>p
 |p::q::r=>p++y++jn y (q::r)
theorem mi{y p:List Nat}{r:List (List Nat)}(h:r≠[]):jn y (p::r)=p++(y++jn y r):=by
 cases r with
 |nil=>exact absurd rfl h
 |cons q r=>exact UT _ _ _
theorem Ab{α:Type}{p y r:List α}:((p++(y++r)).drop p.length).take y.length=y:=by rw[List.drop_left,List.take_left]
theorem Dl{c:Nat}{z p q r s:List Nat}(hc:c∉z)(hp:c∉p)(hq:Dk (c::z) q)(e:p++(c::z++r)=q++(c::z++s)):p=q/\r=s:=by
 have hl:p.length=q.length:=by
  rcases Nat.lt_trichotomy p.length q.length with l|l|l
  .
   exfalso;by_cases m:p.length+(c::z).length<=q.length
   . refine hq p.length ?_;have:=Ab (p:=p) (y:=c::z) (r:=r);rw[e]at this;rw[List.drop_append_of_le_length xL,List.take_append_of_le_length (by rw[Uq];omega)]at this;exact this
   .
    have e2:(p++(c::z++r))[q.length]?=some c:=by rw[e,UG (Ul _),Nat.sub_self];rfl
    rw[UG xL]at e2;obtain⟨j,hj⟩:∃j,q.length-p.length=j+1:=⟨q.length-p.length-1,xL⟩;rw[hj,Wf,VO,UF (by simp at m;omega)]at e2;exact hc (Vh e2)
  . exact l
  .
   exfalso;have e2:(q++(c::z++s))[q.length]?=some c:=by rw[UG (Ul _),Nat.sub_self];rfl
   rw[<- e,UF l]at e2;exact hp (Vh e2)
 obtain⟨e1,e2⟩:=List.append_inj e hl;exact⟨e1,(List.append_inj e2 rfl).2⟩
theorem G6{c:Nat}{z:List Nat}(hc:c∉z):∀(ps qs:List (List Nat)),ps≠[]->qs≠[]->(∀p∈ps,c∉p)->(∀q∈qs,Dk (c::z) q)->jn (c::z) ps=jn (c::z) qs->ps=qs
 |[],_,h,_,_,_,_=>absurd rfl h
 |_,[],_,h,_,_,_=>absurd rfl h
 |[p],[q],_,_,_,_,e=>by rw[show p=q from e]
 | [p],q::q2::qs,_,_,hp,_,e=>by
  rw[show jn (c::z) [p]=p from rfl,mi (r:=q2::qs) v6]at e;have e2:p[q.length]?=some c:=by rw[show p=_ from e,UG (Ul _),Nat.sub_self];rfl
  exact absurd (Vh e2) (hp p v6)
 | p::p2::ps,[q],_,_,_,hq,e=>by rw[mi (r:=p2::ps) v6,show jn (c::z) [q]=q from rfl]at e;have:=Ab (p:=p) (y:=c::z) (r:=jn (c::z) (p2::ps));rw[e]at this;exact absurd this (hq q v6 p.length)
 | p::p2::ps,q::q2::qs,_,_,hp,hq,e=>by rw[mi (r:=p2::ps) v6,mi (r:=q2::qs) v6]at e;obtain⟨e1,e2⟩:=Dl hc (hp p v6) (hq q v6) e;rw[e1,G6 hc (p2::ps) (q2::qs) v6 v6 (λa ha=>hp a (Ud _ ha)) (λa ha=>hq a (Ud _ ha)) e2]
theorem ka(y:Str):∀ps:List Str,(Str.join y ps).cps.toList=jn y.cps.toList (ps.map (·.cps.toList))
 |[]=>rfl
 |[p]=>rfl
 | p::q::r=>by show(p.cps++y.cps++(Str.join y (q::r)).cps).toList=_;rw[UR,UR,ka y (q::r)];rfl
theorem rC{x y:Str}{a b:Nat}(hy:1<=y.length)(hb:b<=x.length)(hn:∀k,a<=k->k<b->¬At x y x.length k):Dk y.cps.toList (strSub x a b).cps.toList:=by intro k e;rw[strSub_toList]at e;have hl:y.cps.toList.length=y.length:=(bf y).symm;have hx:x.cps.toList.length=x.length:=(bf x).symm;have kz:=Vy List.length e;rw[Ut,Uq,Ut,Uq]at kz;rw[hl,hx]at kz;refine hn (a+k) xL xL ⟨xL,?_⟩;rw[subAt_eq];rw[Wj,<- e,List.drop_take,List.take_take,List.drop_drop,hl,Nat.min_eq_left xL]
theorem rD{x y:Str}(hy:1<=y.length):∀(cuts:List Nat)(a f:Nat),ChainG x y x.length a cuts f->(∀k,f<=k->¬At x y x.length k)->∀p∈partsFrom x y.length a cuts,Dk y.cps.toList p.cps.toList
 | [],a,f,h,hn,p,hp=>by have e:f=a:=h;subst e;rw[Ux.mp hp];exact rC hy (Ul _) λk h1 _=>hn k h1
 | d::r,a,f,h,hn,p,hp=>by
  rcases Uo.mp hp with rfl|hp'
  . exact rC hy (by have:=h.2.1.1;omega) h.2.2.1
  . exact rD hy r _ f h.2.2.2 hn p hp'
theorem Gi(x:Str):1<=Str.strKind x:=by
 unfold Str.strKind;split
 . exact Ul _
 . split<;>decide
theorem yt{x y:Str}(hy:1<=y.length)(hk:Str.strKind y=1):∀p∈Txt.split x y,Dk y.cps.toList p.cps.toList:=by
 obtain⟨f,hG,hn⟩:=occ_tight x y hy;unfold Txt.split;split
 . rename_i hc;intro p hp;rw[Ux.mp hp];rw[Bool.or_eq_true,U4,U4]at hc;have:=Gi x;intro k e;have kz:=Vy List.length e;rw[Ut,Uq,<- bf,<- bf]at kz;omega
 .
  split
  . rename_i he;intro p hp;rw[Ux.mp hp];have e0:occurrences x y 0 x.length (x.length+1)=[]:=List.isEmpty_iff.mp he;rw[e0]at hG;have ef:f=0:=hG;subst ef;have:=rC (x:=x) (a:=0) hy (Ul _) λk h1 _=>hn k h1;rwa [sub_whole]at this
  . rw[partsBetween_eq];exact rD hy _ 0 f hG hn
theorem nD(x y:Str):Txt.split x y≠[]:=by
 unfold Txt.split;split
 . simp
 .
  split
  . simp
  . rw[partsBetween_eq];obtain⟨p,r,e⟩:=partsFrom_ne x y.length 0 (occurrences x y 0 x.length (x.length+1));rw[e];simp
structure R8 (y:Str) (c:Nat):Prop where
 z:∃z,y.cps.toList=c::z/\c∉z
 kind:Str.strKind y=1
theorem ia{y:Str}{c:Nat}(hy:R8 y c){ps:List Str}(h:ps≠[])(hf:∀p∈ps,c∉p.cps.toList):Txt.split (Str.join y ps) y=ps:=by
 obtain⟨z,ez,hz⟩:=hy.z;have hl:1<=y.length:=by rw[bf,ez,Uk];omega
 have e:=Vy (·.cps.toList) (join_split (Str.join y ps) y);rw[ka,ka y ps,ez]at e
 have key:=G6 hz (ps.map (·.cps.toList)) ((Txt.split (Str.join y ps) y).map (·.cps.toList)) (by simpa using h) (by simpa using nD _ _) (λp hp=>by
  obtain⟨q,hq,rfl⟩:=UW.mp hp
  exact hf q hq) (λp hp=>by
  obtain⟨q,hq,rfl⟩:=UW.mp hp;have:=yt hl hy.kind q hq
  rwa [ez]at this) e.symm
 refine(List.map_inj_right (λa b hab=>mh hab)).mp key.symm
theorem wF:R8 (Str.ofString " ") 32:=⟨⟨[],y_,v6⟩,y_⟩
theorem JS:R8 (Str.ofString "\n") 10:=⟨⟨[],y_,v6⟩,y_⟩
theorem tN:R8 (Str.ofString "/") 47:=⟨⟨[],y_,v6⟩,y_⟩
theorem tj(z:Str)(zs:List Str):Txt.join z zs=Str.join z zs:=eq_of_beq (PyProof.Rows.join_plain_closes z zs)
theorem Dm{y:List Nat}:∀{ps:List (List Nat)}{c:Nat},c∈jn y ps->c∈y∨∃p∈ps,c∈p
 |[],c,h=>by cases h
 |[p],c,h=>.inr ⟨p,v6,h⟩
 | p::q::r,c,h=>by
  rw[mi v6]at h;rcases Ur.mp h with h|h
  . exact .inr ⟨p,v6,h⟩
  .
   rcases Ur.mp h with h|h
   . exact .inl h
   .
    rcases Dm h with h|⟨a,ha,h⟩
    . exact .inl h
    . exact .inr ⟨a,Ud _ ha,h⟩
theorem G7{y:List Nat}{n:Nat}:∀{ps:List (List Nat)},(∀p∈ps,p.length<=n)->(jn y ps).length<=(n+y.length)*ps.length
 |[],_=>VC _
 |[p],h=>by have:=h p v6;show p.length<=(n+y.length)*1;omega
 | p::q::r,h=>by have h1:=h p v6;have h2:=G7 (y:=y) (ps:=q::r) λa ha=>h a (Ud _ ha);rw[mi v6,Ue,Ue,Uk (a:=p),Nat.mul_succ];omega
theorem uV{y:Str}{n m:Nat}{zs:List Str}(hy:As m y)(h:∀z∈zs,As n z):As ((n+m)*zs.length) (Str.join y zs):=by
 constructor
 .
  rw[bf,ka];have:=G7 (y:=y.cps.toList) (n:=n) (ps:=zs.map (·.cps.toList)) λp hp=>by obtain⟨z,hz,rfl⟩:=UW.mp hp;rw[<- bf];exact(h z hz).len
  rw[tu]at this;refine Uv this (Nat.mul_le_mul_right _ ?_);rw[<- bf];exact Nat.add_le_add_left hy.len _
 .
  intro c hc;rw[ka]at hc;rcases Dm hc with h1|⟨p,hp,h1⟩
  . exact hy.asc c h1
  . obtain⟨z,hz,rfl⟩:=UW.mp hp;exact(h z hz).asc c h1
theorem wG{y:Str}{zs:List Str}{c:Nat}(hy:c∉y.cps.toList)(h:∀z∈zs,c∉z.cps.toList):c∉(Str.join y zs).cps.toList:=by
 intro hc;rw[ka]at hc;rcases Dm hc with h1|⟨p,hp,h1⟩
 . exact hy h1
 . obtain⟨z,hz,rfl⟩:=UW.mp hp;exact h z hz h1
theorem fK{x y:Str}{n:Nat}(h:As n x):∀p∈Txt.split x y,As n p:=λp hp=>by refine⟨Uv (PyProof.Rows.part_short hp) h.len,λc hc=>?_⟩;have:=uT y _ p hp c hc;rw[StrLaws.join_split]at this;exact h.asc c this
theorem pZ{x y:Str}{n:Nat}(h:As n x)(hn:n<=1000000)(hy:(y.length == 0)=false):Fy x y:=by
 have e:sizeLine=16777216:=by decide
 have:=PyProof.Rows.split_le x y;have:=h.len;exact⟨hy,xL,xL⟩
theorem MA{t:W Bool}{a b u:W Fl}{Z:Ev}{so:Fl->Ev->Prop}(ht:∀k:Bool->Ev->Prop,k false Z->t Z k)(h:a8 b u Z so):a8 (QV t a b) u Z so:=ht _ h
theorem JT{u:W Fl}{Z:Ev}{so:Fl->Ev->Prop}(h:u Z so):a8 bu u Z so:=h
end My
set_option exponentiation.threshold 5000
namespace My
open PySem L2 PySem.Builtin PySem.Builtin.Str PySem.StrLaws
theorem Dn(x y:Str):(x++y).cps.toList=x.cps.toList++y.cps.toList:=UR
noncomputable abbrev cC:List Nat:=[99,117,116]
noncomputable abbrev cS:List Nat:=[115,112,108,105,116]
def M8:Tr->Prop
 |.turned=>True
 |.cut c=>c.1<12/\c.2<12
 |.split k a b=>k<20/\M8 a/\M8 b
theorem JU{k:Nat}(h:k<100):(mf k).length<=2:=(iP x_).mpr xL
theorem Gj{k c:Nat}(h:c∈mf k):48<=c/\c<=57:=eF k c h
theorem eS:(Str.ofString "split").cps.toList=cS:=by decide +kernel
theorem As.ok{n:Nat}{x:Str}(h:As n x):PyData.strOk x=true:=by unfold PyData.strOk;simp only[Array.all_eq_true_iff_forall_mem];intro c hc;have:=h.asc c (Array.mem_toList_iff.mpr hc);simp;omega
theorem Do{n:Nat}{zs:List Str}(h:∀z∈zs,As n z):cq (.lst (zs.map D.str)):=bq (n:=1) (by
 show lh 0 (zs.map D.str)=true
 exact fg zs λz hz=>by simpa[Rc]using(h z hz).ok) x_
theorem wH{n:Nat}{x:Str}(h:As n x):cq (.str x):=fJ h.asc
theorem G8:As 3 (Str.ofString "ask"):=a7 y_
noncomputable def zi(t:Tr):D:=.int (t.dep:Int)
structure G9 (m:Nat) (ts:List Tr):Prop where
 one:0<ts.length
 all:∀t∈ts,M8 t/\t.dep<=20
 sum:C7 Tr.nodes ts+ts.length<=m
theorem Dp(f:Tr->Nat)(t:Tr)(ts:List Tr):C7 f (t::ts)=f t+C7 f ts:=by simp[C7]
theorem G9.mono{m n:Nat}{ts:List Tr}(h:G9 m ts)(k:m<=n):G9 n ts:=⟨h.one,h.all,Uv h.sum k⟩
theorem G9.add{m:Nat}{ts:List Tr}{t:Tr}(h:ts=[]∨G9 m ts)(hn:t.nodes=1)(hd:t.dep=0)(ok:M8 t):G9 (m+2) (ts++[t]):=by
 refine⟨v6,λu hu=>?_,?_⟩
 .
  rcases Ur.mp hu with hu|hu
  .
   rcases h with rfl|h
   . cases hu
   . exact h.all u hu
  . rw[Ux.mp hu];exact⟨ok,xL⟩
 .
  rw[Ga,Gb,hn,Ue];rcases h with rfl|h
  . show 0+1+(0+1)<=m+2;omega
  . have:=h.sum;simp only[Uk,UA];omega
theorem G9.nodes{m:Nat}{ts:List Tr}{t:Tr}(h:G9 m ts)(ht:t∈ts):t.nodes<=m:=by
 have hs:=h.sum
 have:t.nodes<=C7 Tr.nodes ts:=by
  clear h hs
  induction ts with
  |nil=>cases ht
  | cons u ts ih =>
   rw[Dp];rcases Uo.mp ht with rfl|ht
   . omega
   . have:=ih ht;omega
 omega
theorem Dq{α:Type}{enc:α->D}{te:W L}{k:List D->Ev->Prop}(I:Ev->Prop)(P:D->Prop):∀(as:List α)(acc:List D)(l:L)(caps:Ev),I caps->(∀y∈acc,P y) ->
  (∀a∈as,∀caps,I caps->∀Q:Ev->D->Prop,(∀caps' y,I caps'->P y->Q (.d (enc a)::caps') y)->te (.d (enc a)::caps) λr Z3=>QN r λy=>Q Z3 y) ->
  (∀l' caps' ys,I caps'->(∀y∈ys,P y)->ys.length=acc.length+as.length->k ys (l'::caps'))->hJ (bL 0) g9 te (as.map enc) (l::caps) acc k
 |[],acc,l,caps,hi,ha,_,fin=>fin l caps acc hi ha v6
 | a::as,acc,l,caps,hi,ha,step,fin=>by
  show g9 (.d (enc a)::caps) λb Z2=>if b=true then te Z2 λr Z3=>QN r λy=>hJ (bL 0) g9 te (as.map enc) Z3 (acc++[y]) k else hJ (bL 0) g9 te (as.map enc) Z2 acc k
  simp only[g9,if_true];refine step a Ui caps hi _ λcaps' y hi' hy=>Dq I P as (acc++[y]) _ caps' hi' (λz hz=>?_) (λb hb=>step b (Ud _ hb)) λl' caps'' ys h1 h2 h3=>fin l' caps'' ys h1 h2 ?_
  .
   rcases Ur.mp hz with hz|hz
   . exact ha z hz
   . rw[Ux.mp hz];exact hy
  . rw[h3,Ue,Us,Uk];omega
theorem qG{α:Type}(xs:List α)(k:Nat):m9 xs none (some (k:Int))=xs.take k:=by unfold m9;rw[HT.sIx_none,HT.sIx_nat,Nat.sub_zero,List.drop_zero,List.take_eq_take_iff];omega
theorem uW{α:Type}(xs:List α)(k:Nat):m9 xs (some (k:Int)) none=xs.drop k:=by
 unfold m9;rw[HT.sIx_none,HT.sIx_nat,VT (by rw[Uq];exact Ul _)];by_cases c:k<=xs.length
 . rw[Nat.min_eq_left c]
 . rw[Nat.min_eq_right xL,List.drop_eq_nil_of_le (Ul _),List.drop_eq_nil_of_le xL]
theorem Ha{x:Str}{n k:Nat}(h:As n x):As (n*k) (FC x k):=⟨by rw[Di];exact Nat.mul_le_mul_right _ h.len,Dh h.asc k⟩
noncomputable def vw(ws:List Str):Nat:=(ws.map (·.length)).sum
theorem Gk(a b:List Str):vw (a++b)=vw a+vw b:=by simp[vw]
theorem wJ(a:Str)(b:List Str):vw (a::b)=a.length+vw b:=by simp[vw]
theorem uX(y:Str):∀ws:List Str,ws≠[]->(Str.join y ws).length+y.length=vw ws+ws.length*y.length
 |[],h=>absurd rfl h
 | [p],_=>by show p.length+y.length=_;rw[wJ];simp[vw]
 | p::q::r,_=>by
  have ih:=uX y (q::r) v6;have e:(Str.join y (p::q::r)).length=p.length+y.length+(Str.join y (q::r)).length:=by rw[bf,bf p,bf y,bf (Str.join y (q::r))];show(p.cps++y.cps++(Str.join y (q::r)).cps).toList.length=_;rw[UR,UR,Ue,Ue]
  rw[e,wJ,Uk,Nat.succ_mul];omega
theorem JV(y:Str)(ws:List Str):(Str.join y ws).length<=vw ws+ws.length*y.length:=by
 by_cases h:ws=[]
 . subst h;exact VC _
 . have:=uX y ws h;omega
theorem Dr{x:Str}:vw (Txt.split x (Str.ofString " "))+(Txt.split x (Str.ofString " ")).length=x.length+1:=by have:=uX (Str.ofString " ") _ (nD x (Str.ofString " "));rw[join_split,show(Str.ofString " ").length=1 by decide +kernel,Nat.mul_one]at this;exact this.symm
theorem Ac{y:Str}{n m n':Nat}{ws:List Str}(hy:As m y)(h:∀z∈ws,As n z)(k:vw ws+ws.length*m<=n'):As n' (Str.join y ws) :=
 ⟨Uv (JV y ws) (Uv (Nat.add_le_add_left (Nat.mul_le_mul_left _ hy.len) _) k),(uV hy h).asc⟩
noncomputable def R9(ws:List Str):Nat:=vw ws+ws.length
theorem pd(a b:List Str):R9 (a++b)=R9 a+R9 b:=by unfold R9;rw[Gk,Ue];omega
theorem JW(z:Str):R9 [z]=z.length+1:=by simp[R9,vw]
theorem qH(ws:List Str)(k:Nat):R9 (ws.take k)+R9 (ws.drop k)=R9 ws:=by rw[<- pd,List.take_append_drop]
theorem rE(ws:List Str)(l u:Option Int):R9 (m9 ws l u)<=R9 ws/\∀z∈m9 ws l u,z∈ws:=by unfold m9;generalize HT.sIx ws.length 0 l=a;generalize HT.sIx ws.length ws.length u-a=b;have h1:=qH ws a;have h2:=qH (ws.drop a) b;exact⟨xL,λz hz=>Vp (U3 hz)⟩
theorem qI{ws:List Str}{n m:Nat}(h:∀ z∈ws,As n z)(k:R9 ws<=m)(hm:m<=1000000):((ws.map (·.length)).sum+ws.length*(Str.ofString " ").length<=16777216)/\As m (Txt.join (Str.ofString " ") ws):=by
 have e1:(Str.ofString " ").length=1:=by decide +kernel
 rw[e1,tj];unfold R9 vw at k;exact⟨xL,Ac (m:=1) (a7 y_) h (by unfold vw;omega)⟩
theorem JX{P:Str->Prop}{Z:Ev}{i k:Nat}{t:W L}{u:W Fl}{so:Fl->Ev->Prop}(h:TL P k t Z)(hu:∀(a:Addr) (xs:List Str),xs.length=k->(∀x∈xs,P x)->u (Z.set i (.own a (xs.map D.str))) so):a8 (bP i t) u Z so:=h _ hu
theorem JY{P:Str->Prop}{Z:Ev}{i k:Nat}{t:W L}{u:W Fl}{a:Addr}{ys:List Str}{so:Fl->Ev->Prop}(e:Z[i]?=some (.own a (ys.map D.str)))(hy:∀y∈ys,P y)(h:TL P k t (Z.set i (.d (.lst (ys.map D.str)))))(hk:ys.length+k<=1000)
  (hu:∀(b:Addr)(xs:List Str),xs.length=ys.length+k->(∀x∈xs,P x)->u (Z.set i (.own b (xs.map D.str))) so):a8 (bP i (aG aW (aj i) t)) u Z so:=by
 show aG aW (aj i) t Z _;unfold aG aj;rw[e];refine h _ λb xs hl hx=>⟨?_,λc=>?_⟩
 .
  have e0:sizeLine=16777216:=by decide
  rw[tu,tu];omega
 . have:=hu c (ys++xs) (by rw[Ue,hl]) λx hx'=>(Ur.mp hx').elim (hy x) (hx x);rw[Vg]at this;show u ((Z.set i _).set i (.own c (ys.map D.str++xs.map D.str))) so;rw[VA];exact this
end My
set_option exponentiation.threshold 1000
namespace Hd
open PySem PySem.W PyProof.Rows
noncomputable abbrev pr:Program:=PySem.Challenge.pw_ringloads_k75_ring_texts_refused
noncomputable def top(i:Nat):Stmt:=pr.main.body.getD i (.Pass ⟨0,0,0,0⟩)
noncomputable def inCls(st:Stmt)(j:Nat):Stmt:=match st with
 |.ClassDef _ _ _ b ..=>b.getD j (.Pass ⟨0,0,0,0⟩)
 |_=>.Pass ⟨0,0,0,0⟩
noncomputable def Ds(s:Stmt):Str:=match s with
 |.FunctionDef n ..=>n
 |_=>""
noncomputable def MB(s:Stmt):Arguments:=match s with
 |.FunctionDef _ a _ _ _ _ _ _ _ _=>a
 |_=>{posonlyargs:=[],args:=[],vararg:=none,kwonlyargs:=[],kw_defaults:=[],kwarg:=none,defaults:=[] }
noncomputable def N9(s:Stmt):List Stmt:=match s with
 |.FunctionDef _ _ b _ _ _ _ _ _ _=>b
 |_=>[]
noncomputable def MC(s:Stmt):Scope:=match s with
 |.FunctionDef _ _ _ _ _ _ sc _ _ _=>sc
 |_=>{kind:=.function,names:=[],isGenerator:=false,isCoroutine:=false}
noncomputable def OE(s:Stmt):Pos:=match s with
 |.FunctionDef _ _ _ _ _ _ _ _ _ p=>p
 |_=>⟨0,0,0,0⟩
noncomputable def Bg (st:Stmt) (q:Str) (g:Addr) (md cd:Value):FuncData:={ name:=Ds st,qualname:=q,params:=MB st,body:=.stmts (N9 st),scope:=MC st,globals:=g,closure:=[],defaults:=.none,kwdefaults:=.none,doc:=.none,pyModule:=md,annotations:=none,code:=cd,closureTuple:=.none,builtins:=0 }
noncomputable def kh(P:Params)(x:Str):Int:=PySem.PyData.keyHash P x
noncomputable abbrev XI(P:Params)(x:Str)(n:Nat)(v:Value):DictEntry:=⟨kh P x,.str x n,v⟩
noncomputable abbrev XJ(l:Array Value):Obj:=⟨.type "tuple",none,.seq l 0,#[]⟩
noncomputable abbrev XM(x:String)(l:Array Value):Obj:=⟨.type x,none,.fields l,#[]⟩
noncomputable abbrev XN(l:Array Value):Obj:=⟨.none,none,.fields l,#[]⟩
noncomputable abbrev XQ(l:Array DictEntry)(n:Nat):Obj:=⟨.type "dict",none,.dict l n,#[]⟩
noncomputable abbrev XZ(n:Nat):Value:=.str "/claim/cut.py" n
noncomputable def MD(vs:List Value):Obj:=⟨.type "tuple",none,.seq vs.toArray 0,#[]⟩
noncomputable def A1(vs:List Value):Obj:=⟨.none,none,.fields vs.toArray,#[]⟩
noncomputable def OF:Nat->List Str->List Value
 |_,[]=>[]
 |t,x::r=>.str x t::OF (t+1) r
noncomputable def ME(st:Stmt)(a t:Nat)(v1 v2:Value)(tm u:Nat):Obj:=⟨.type "code",none,.fields #[.str (Ds st) t,.str (Ds st) (t+1),.str "/claim/cut.py" (t+2),.int (OE st).line 0,.int (MB st).args.length 0,.int 0 0,.int 0 0,.int 3 0,.ref a,.bool true,.int 181 0,.ref (a+1),.none,v1,v2,.ref tm,.int u 0,.int (OE st).line 0,.str "/claim/cut.py" (u+1)],#[]⟩
noncomputable def Sb(st:Stmt)(md:Value)(cd:Nat):Obj:=⟨.type "function",none,.func (Bg st (Ds st) 3 md (.ref cd)),#[]⟩
noncomputable def Sd(st:Stmt):Obj:=⟨.none,none,.func (Bg st (Ds st) 0 .none .none),#[]⟩
noncomputable def d9(st:Stmt)(a t:Nat)(vs:List Str)(md:Value):List Obj:=[MD [],A1 [],MD (OF (t+3) vs),MD [],Sd st,ME st a t (.ref (a+2)) (.ref (a+3)) (a+4) (t+3+vs.length),Sb st md (a+5)]
noncomputable def qp(st:Stmt)(a t:Nat)(md:Value):List Obj:=[MD [],A1 [],Sd st,ME st a t .none .none (a+2) (t+3),Sb st md (a+3)]
noncomputable def uY (P:Params) (nm:Value) (es:List DictEntry) (n:Nat):Obj:=⟨.type "dict",none,.dict (([⟨kh P "__name__",.str "__name__" 165,nm⟩,⟨kh P "__doc__",.str "__doc__" 166,.none⟩,⟨kh P "__package__",.str "__package__" 167,.none⟩,⟨kh P "__loader__",.str "__loader__" 168,.builtin "__main__.__loader__#opaque"⟩,⟨kh P "__spec__",.str "__spec__" 169,.none⟩,⟨kh P "__annotations__",.str "__annotations__" 170,.ref 6⟩,⟨kh P "__builtins__",.str "__builtins__" 171,.ref 4⟩,⟨kh P "__file__",.str "__file__" 173,.str "/claim/cut.py" 172⟩,⟨kh P "__cached__",.str "__cached__" 174,.none⟩]:List DictEntry)++es).toArray n,#[]⟩
noncomputable def Po:Obj:=⟨.type "code",none,.fields #[.str "<module>" 182,.str "<module>" 183,.str "/claim/cut.py" 184,.int 1 0,.int 0 0,.int 0 0,.int 0 0,.int 0 0,.ref 11,.bool false,.int 181 0,.ref 12,.none,.none,.none,.none,.int 185 0,.int 1 0,.str "/claim/cut.py" 186],#[]⟩
noncomputable def Pp:Obj:=⟨.type "frame",none,.plain,#[some (.ref 13),some (.ref 3),some (.ref 3),none,some (.str "__main__" 164),none,some (.ref 0)]⟩
noncomputable def JZ(P:Params):List Obj:=[boot_o_0 P,boot_o_1 P,boot_o_2 P,boot_o_3 P,boot_o_4 P,boot_o_5 P,boot_o_6 P,boot_o_7 P,boot_o_8 P,boot_o_9 P,boot_o_10 P,MD [],A1 [],Po,Pp]
noncomputable def pf:Life:=⟨[],[],[],0,[],[],false,#[],[],0,false,false,false,0,[2000,10,10],false,0,true,[],[],0,false⟩
noncomputable def Oa(l:List (Nat×Obj))(b:Nat):Option Obj:=@List.rec (Nat×Obj) (λ_=>Option Obj) none (λx _ ih=>bif Nat.beq x.1 b then some x.2 else ih) l
noncomputable def MF(P:Params)(ob:Params->Nat->Obj)(b:Nat):Obj:=bif b.blt 15 then(JZ P).getD b default else ob P b
noncomputable def Pq(l:List Nat)(b:Nat):Bool:=@List.rec Nat (λ_=>Bool) false (λx _ ih=>@Bool.rec (λ_=>Bool) ih true (Nat.beq x b)) l
noncomputable def D7(ks:List Nat)(P:Params)(ov:List (Nat×Obj))(ob:Params->Nat->Obj)(b j:Nat):Obj:=@Bool.rec (λ_=>Obj) (MF P ob b) ((Oa ov b).getD default) (Pq ks b)
noncomputable def L0(n:Nat)(f:Nat->Obj)(a b j:Nat):BT:=.nil
noncomputable def X0(g:Nat->(Nat->Obj)->Nat->Nat->Nat->BT)(n:Nat)(f:Nat->Obj)(a b j:Nat):BT:=@Bool.rec (λ_=>BT) .nil (.node (f b) (g n f (2*a) (a+b) j) (g n f (2*a) (2*a+b) j)) (b.blt n)
noncomputable def L1:=X0 L0
noncomputable def L2:=X0 L1
noncomputable def L3:=X0 L2
noncomputable def L4:=X0 L3
noncomputable def L5:=X0 L4
noncomputable def L6:=X0 L5
noncomputable def L7:=X0 L6
noncomputable def L8:=X0 L7
noncomputable def L9:=X0 L8
noncomputable def Se:=X0 L9
noncomputable def Sf:=X0 Se
noncomputable def Sg:=X0 Sf
theorem nE{p:Program}{w:World}{m:Nat}{ann:Option Value}{b n:Nat}{s:SharedT}{t:Thread}{r:Option (Flow×SharedT×Code×Pos)}(h:Fast.tw10110043849684766642 Fast.tw14364793385576792824 p w m ann b n s t=r):segRunT treeTable p w m ann b n s t=r:=by rw[Fast.te10110043849684766642,VU];exact h
theorem MG{p:Program}{w:World}{m:Nat}{ann:Option Value}{n:Nat}{s:Shared}{t:Thread}{r:Option Shared}(h:Fast.tw14082659384304107361 Fast.tw14364793385576792824 p w m ann n s t=r):topRun treeTable p w m ann n s t=r:=by rw[Fast.te14082659384304107361,VU];exact h
theorem MH:denote treeTable=Fast.tw11892475500146522536 Fast.tw14364793385576792824:=by rw[<- Fast.te11892475500146522536,<- VU]
theorem Ob{p:Program}{w:World}{m:Nat}{ann:Option Value}{n:Nat}{s:Shared}{t:Thread}{r:Option (Shared×Thread)}(h:Fast.tw15667345088766844465 Fast.tw14364793385576792824 p w m ann n s t=r):topGo treeTable p w m ann n s t=r:=by rw[Fast.te15667345088766844465,VU];exact h
theorem J0{b b':List Stmt}(e:b=b'){tb:String->Option Builtin}{p:Program}{w:World}{m:Nat}{ann:Option Value}{n:Nat}{s:Shared}{env:Env}{c:Code}{ps:Pos}{B:List Frame}{r:Option Shared}(h:topRun tb p w m ann n s (restOf b' env c ps B)=r):topRun tb p w m ann n s (restOf b env c ps B)=r:=by rw[e];exact h
noncomputable def f1(P:Params):List Obj:=[(XJ #[(.type "ValueError")]),
 (XM "builtin_function_or_method" #[(.builtin "type.__prepare__"),(.type "type")]),
 (XQ #[(XI P "__module__" 196 XR),(XI P "__qualname__" 198 XW),(XI P "__firstlineno__" 200 (.int 2 199)),(XI P "__init__" 208 (.ref 28)),(XI P "__static_attributes__" 209 (.ref 29))] 5),
 (XJ #[]),
 (XN #[(.int 4 0),(.int 4 0),(.ref 27)]),
 (XM "code" #[(.str "LoadError" 191),(.str "LoadError" 192),(XZ 193),(.int 2 0),(.int 0 0),(.int 0 0),(.int 0 0),(.int 0 0),(.ref 18),(.bool false),(.int 181 0),(.ref 19),.none,.none,.none,.none,(.int 194 0),(.int 2 0),(XZ 195)]),
 (.mk (.type "frame") none .plain #[(some (.ref 20)),(some (.ref 3)),(some (.ref 17)),none,(some XR),none,(some (.ref 0))]),
 (XJ #[]),
 (XN #[]),
 (XJ #[(.str "self" 204),(.str "text" 205)]),
 (XJ #[]),
 (.mk .none none (.func (Bg (inCls (top 1) 0) "LoadError.__init__" 0 .none .none)) #[]),
 (XM "code" #[(.str "__init__" 201),(.str "LoadError.__init__" 202),(XZ 203),(.int 4 0),(.int 2 0),(.int 0 0),(.int 0 0),(.int 3 0),(.ref 22),(.bool true),(.int 181 0),(.ref 23),.none,(.ref 24),(.ref 25),(.ref 26),(.int 206 0),(.int 4 0),(XZ 207)]),
 (.mk (.type "function") none (.func (Bg (inCls (top 1) 0) "LoadError.__init__" 3 XR (.ref 27))) #[]),
 (XJ #[]),
 (XQ #[(XI P "__module__" 196 XR),(XI P "__firstlineno__" 200 (.int 2 199)),(XI P "__init__" 208 (.ref 28)),(XI P "__static_attributes__" 209 (.ref 29)),(XI P "__weakref__" 211 (.ref 32)),(XI P "__doc__" 212 .none)] 3),
 (.mk (.type "type") none (.cls (.mk "LoadError" [(.type "ValueError")] [(.ref 31),(.type "ValueError"),(.type "Exception"),(.type "BaseException"),(.type "object")] 30 "LoadError" true [] [(.ref 44),(.ref 63),(.ref 82),(.ref 101),(.ref 113)] false none false)) #[(some (.ref 15)),none,(some (.str "LoadError" 189)),(some XW),(some (.builtin "ValueError.__new__")),(some (.bool true))]),
 (XM "getset_descriptor" #[(.str "__weakref__" 210),(.ref 31),(.builtin "ExceptionGroup.__weakref__"),.none]),
 (XM "super" #[(.ref 31),(.ref 31),(.ref 31)]),
 (XM "builtin_function_or_method" #[(.builtin "object.__init_subclass__"),(.ref 31)])]
noncomputable def f2(P:Params):List Obj:=[(XJ #[(.ref 31)]),
 (XM "builtin_function_or_method" #[(.builtin "type.__prepare__"),(.type "type")]),
 (XQ #[(XI P "__module__" 222 XR),(XI P "__qualname__" 224 (.str "NoNumber" 223)),(XI P "__firstlineno__" 226 (.int 6 225)),(XI P "__static_attributes__" 227 (.ref 42))] 4),
 (XJ #[]),
 (XN #[]),
 (XM "code" #[(.str "NoNumber" 217),(.str "NoNumber" 218),(XZ 219),(.int 6 0),(.int 0 0),(.int 0 0),(.int 0 0),(.int 0 0),(.ref 38),(.bool false),(.int 181 0),(.ref 39),.none,.none,.none,.none,(.int 220 0),(.int 6 0),(XZ 221)]),
 (.mk (.type "frame") none .plain #[(some (.ref 40)),(some (.ref 3)),(some (.ref 37)),none,(some XR),none,(some (.ref 0))]),
 (XJ #[]),
 (XQ #[(XI P "__module__" 222 XR),(XI P "__firstlineno__" 226 (.int 6 225)),(XI P "__static_attributes__" 227 (.ref 42)),(XI P "__doc__" 228 .none)] 2),
 (.mk (.type "type") none (.cls (.mk "NoNumber" [(.ref 31)] [(.ref 44),(.ref 31),(.type "ValueError"),(.type "Exception"),(.type "BaseException"),(.type "object")] 43 "NoNumber" true [] [] false none false)) #[(some (.ref 35)),none,(some (.str "NoNumber" 215)),(some (.str "NoNumber" 223)),(some (.builtin "ValueError.__new__")),(some (.bool true))]),
 (XM "super" #[(.ref 44),(.ref 44),(.ref 44)]),
 (XM "builtin_function_or_method" #[(.builtin "object.__init_subclass__"),(.ref 44)])]
noncomputable def f3(P:Params):List Obj:=[(XJ #[(.ref 31)]),
 (XM "builtin_function_or_method" #[(.builtin "type.__prepare__"),(.type "type")]),
 (XQ #[(XI P "__module__" 238 XR),(XI P "__qualname__" 240 (.str "NoRing" 239)),(XI P "__firstlineno__" 242 (.int 8 241)),(XI P "__init__" 251 (.ref 60)),(XI P "__static_attributes__" 254 (.ref 61))] 5),
 (XJ #[]),
 (XN #[(.int 10 0),(.int 4 0),(.ref 59)]),
 (XM "code" #[(.str "NoRing" 233),(.str "NoRing" 234),(XZ 235),(.int 8 0),(.int 0 0),(.int 0 0),(.int 0 0),(.int 0 0),(.ref 50),(.bool false),(.int 181 0),(.ref 51),.none,.none,.none,.none,(.int 236 0),(.int 8 0),(XZ 237)]),
 (.mk (.type "frame") none .plain #[(some (.ref 52)),(some (.ref 3)),(some (.ref 49)),none,(some XR),none,(some (.ref 0))]),
 (XJ #[]),
 (XN #[]),
 (XJ #[(.str "self" 246),(.str "part" 247),(.str "number" 248)]),
 (XJ #[]),
 (.mk .none none (.func (Bg (inCls (top 3) 0) "NoRing.__init__" 0 .none .none)) #[]),
 (XM "code" #[(.str "__init__" 243),(.str "NoRing.__init__" 244),(XZ 245),(.int 10 0),(.int 3 0),(.int 0 0),(.int 0 0),(.int 3 0),(.ref 54),(.bool true),(.int 181 0),(.ref 55),.none,(.ref 56),(.ref 57),(.ref 58),(.int 249 0),(.int 10 0),(XZ 250)]),
 (.mk (.type "function") none (.func (Bg (inCls (top 3) 0) "NoRing.__init__" 3 XR (.ref 59))) #[]),
 (XJ #[(.str "number" 252),(.str "part" 253)]),
 (XQ #[(XI P "__module__" 238 XR),(XI P "__firstlineno__" 242 (.int 8 241)),(XI P "__init__" 251 (.ref 60)),(XI P "__static_attributes__" 254 (.ref 61)),(XI P "__doc__" 255 .none)] 2),
 (.mk (.type "type") none (.cls (.mk "NoRing" [(.ref 31)] [(.ref 63),(.ref 31),(.type "ValueError"),(.type "Exception"),(.type "BaseException"),(.type "object")] 62 "NoRing" true [] [] false none false)) #[(some (.ref 47)),none,(some (.str "NoRing" 231)),(some (.str "NoRing" 239)),(some (.builtin "ValueError.__new__")),(some (.bool true))]),
 (XM "super" #[(.ref 63),(.ref 63),(.ref 63)]),
 (XM "builtin_function_or_method" #[(.builtin "object.__init_subclass__"),(.ref 63)])]
noncomputable def f4(P:Params):List Obj:=[(XJ #[(.ref 31)]),
 (XM "builtin_function_or_method" #[(.builtin "type.__prepare__"),(.type "type")]),
 (XQ #[(XI P "__module__" 265 XR),(XI P "__qualname__" 267 (.str "NoTree" 266)),(XI P "__firstlineno__" 269 (.int 14 268)),(XI P "__init__" 277 (.ref 79)),(XI P "__static_attributes__" 279 (.ref 80))] 5),
 (XJ #[]),
 (XN #[(.int 16 0),(.int 4 0),(.ref 78)]),
 (XM "code" #[(.str "NoTree" 260),(.str "NoTree" 261),(XZ 262),(.int 14 0),(.int 0 0),(.int 0 0),(.int 0 0),(.int 0 0),(.ref 69),(.bool false),(.int 181 0),(.ref 70),.none,.none,.none,.none,(.int 263 0),(.int 14 0),(XZ 264)]),
 (.mk (.type "frame") none .plain #[(some (.ref 71)),(some (.ref 3)),(some (.ref 68)),none,(some XR),none,(some (.ref 0))]),
 (XJ #[]),
 (XN #[]),
 (XJ #[(.str "self" 273),(.str "way" 274)]),
 (XJ #[]),
 (.mk .none none (.func (Bg (inCls (top 4) 0) "NoTree.__init__" 0 .none .none)) #[]),
 (XM "code" #[(.str "__init__" 270),(.str "NoTree.__init__" 271),(XZ 272),(.int 16 0),(.int 2 0),(.int 0 0),(.int 0 0),(.int 3 0),(.ref 73),(.bool true),(.int 181 0),(.ref 74),.none,(.ref 75),(.ref 76),(.ref 77),(.int 275 0),(.int 16 0),(XZ 276)]),
 (.mk (.type "function") none (.func (Bg (inCls (top 4) 0) "NoTree.__init__" 3 XR (.ref 78))) #[]),
 (XJ #[(.str "way" 278)]),
 (XQ #[(XI P "__module__" 265 XR),(XI P "__firstlineno__" 269 (.int 14 268)),(XI P "__init__" 277 (.ref 79)),(XI P "__static_attributes__" 279 (.ref 80)),(XI P "__doc__" 280 .none)] 2),
 (.mk (.type "type") none (.cls (.mk "NoTree" [(.ref 31)] [(.ref 82),(.ref 31),(.type "ValueError"),(.type "Exception"),(.type "BaseException"),(.type "object")] 81 "NoTree" true [] [] false none false)) #[(some (.ref 66)),none,(some (.str "NoTree" 258)),(some (.str "NoTree" 266)),(some (.builtin "ValueError.__new__")),(some (.bool true))]),
 (XM "super" #[(.ref 82),(.ref 82),(.ref 82)]),
 (XM "builtin_function_or_method" #[(.builtin "object.__init_subclass__"),(.ref 82)])]
noncomputable def f5(P:Params):List Obj:=[(XJ #[(.ref 31)]),
 (XM "builtin_function_or_method" #[(.builtin "type.__prepare__"),(.type "type")]),
 (XQ #[(XI P "__module__" 290 XR),(XI P "__qualname__" 292 (.str "NoText" 291)),(XI P "__firstlineno__" 294 (.int 19 293)),(XI P "__init__" 302 (.ref 98)),(XI P "__static_attributes__" 304 (.ref 99))] 5),
 (XJ #[]),
 (XN #[(.int 21 0),(.int 4 0),(.ref 97)]),
 (XM "code" #[(.str "NoText" 285),(.str "NoText" 286),(XZ 287),(.int 19 0),(.int 0 0),(.int 0 0),(.int 0 0),(.int 0 0),(.ref 88),(.bool false),(.int 181 0),(.ref 89),.none,.none,.none,.none,(.int 288 0),(.int 19 0),(XZ 289)]),
 (.mk (.type "frame") none .plain #[(some (.ref 90)),(some (.ref 3)),(some (.ref 87)),none,(some XR),none,(some (.ref 0))]),
 (XJ #[]),
 (XN #[]),
 (XJ #[(.str "self" 298),(.str "row" 299)]),
 (XJ #[]),
 (.mk .none none (.func (Bg (inCls (top 5) 0) "NoText.__init__" 0 .none .none)) #[]),
 (XM "code" #[(.str "__init__" 295),(.str "NoText.__init__" 296),(XZ 297),(.int 21 0),(.int 2 0),(.int 0 0),(.int 0 0),(.int 3 0),(.ref 92),(.bool true),(.int 181 0),(.ref 93),.none,(.ref 94),(.ref 95),(.ref 96),(.int 300 0),(.int 21 0),(XZ 301)]),
 (.mk (.type "function") none (.func (Bg (inCls (top 5) 0) "NoText.__init__" 3 XR (.ref 97))) #[]),
 (XJ #[(.str "row" 303)]),
 (XQ #[(XI P "__module__" 290 XR),(XI P "__firstlineno__" 294 (.int 19 293)),(XI P "__init__" 302 (.ref 98)),(XI P "__static_attributes__" 304 (.ref 99)),(XI P "__doc__" 305 .none)] 2),
 (.mk (.type "type") none (.cls (.mk "NoText" [(.ref 31)] [(.ref 101),(.ref 31),(.type "ValueError"),(.type "Exception"),(.type "BaseException"),(.type "object")] 100 "NoText" true [] [] false none false)) #[(some (.ref 85)),none,(some (.str "NoText" 283)),(some (.str "NoText" 291)),(some (.builtin "ValueError.__new__")),(some (.bool true))]),
 (XM "super" #[(.ref 101),(.ref 101),(.ref 101)]),
 (XM "builtin_function_or_method" #[(.builtin "object.__init_subclass__"),(.ref 101)])]
noncomputable def f6(P:Params):List Obj:=[(XJ #[(.ref 31)]),
 (XM "builtin_function_or_method" #[(.builtin "type.__prepare__"),(.type "type")]),
 (XQ #[(XI P "__module__" 315 XR),(XI P "__qualname__" 317 (.str "NoRow" 316)),(XI P "__firstlineno__" 319 (.int 24 318)),(XI P "__static_attributes__" 320 (.ref 111))] 4),
 (XJ #[]),
 (XN #[]),
 (XM "code" #[(.str "NoRow" 310),(.str "NoRow" 311),(XZ 312),(.int 24 0),(.int 0 0),(.int 0 0),(.int 0 0),(.int 0 0),(.ref 107),(.bool false),(.int 181 0),(.ref 108),.none,.none,.none,.none,(.int 313 0),(.int 24 0),(XZ 314)]),
 (.mk (.type "frame") none .plain #[(some (.ref 109)),(some (.ref 3)),(some (.ref 106)),none,(some XR),none,(some (.ref 0))]),
 (XJ #[]),
 (XQ #[(XI P "__module__" 315 XR),(XI P "__firstlineno__" 319 (.int 24 318)),(XI P "__static_attributes__" 320 (.ref 111)),(XI P "__doc__" 321 .none)] 2),
 (.mk (.type "type") none (.cls (.mk "NoRow" [(.ref 31)] [(.ref 113),(.ref 31),(.type "ValueError"),(.type "Exception"),(.type "BaseException"),(.type "object")] 112 "NoRow" true [] [] false none false)) #[(some (.ref 104)),none,(some (.str "NoRow" 308)),(some (.str "NoRow" 316)),(some (.builtin "ValueError.__new__")),(some (.bool true))]),
 (XM "super" #[(.ref 113),(.ref 113),(.ref 113)]),
 (XM "builtin_function_or_method" #[(.builtin "object.__init_subclass__"),(.ref 113)])]
noncomputable def f8(P:Params):List Obj:=d9 (top 8) 116 326 ["one","other","rest"] (.str "ringloads.divisors" 324)
noncomputable def Sh(P:Params):List Obj:=d9 (top 11) 123 339 ["thing"] XX
noncomputable def Sj(P:Params):List Obj:=d9 (top 12) 130 346 ["thing","many"] XX
noncomputable def Sl(P:Params):List Obj:=d9 (top 13) 137 354 ["thing"] XX
noncomputable def Sm(P:Params):List Obj:=d9 (top 14) 144 361 ["thing"] XX
noncomputable def Sn(P:Params):List Obj:=qp (top 15) 151 368 XX
noncomputable def So(P:Params):List Obj:=d9 (top 20) 156 382 ["thing"] XY
noncomputable def Sq(P:Params):List Obj:=d9 (top 21) 163 389 ["thing"] XY
noncomputable def Sr(P:Params):List Obj:=d9 (top 22) 170 396 ["rooms","number","room"] XY
noncomputable def Ss(P:Params):List Obj:=[(XJ #[]),
 (XN #[]),
 (XJ #[(.str "asks" 408),(.str "places" 409)]),
 (XJ #[(.str "places" 410)]),
 (.mk .none none (.func (Bg (top 23) "look_at_asks" 0 .none .none)) #[]),
 (XM "code" #[(.str "look_at_asks" 405),(.str "look_at_asks" 406),(XZ 407),(.int 68 0),(.int 2 0),(.int 0 0),(.int 0 0),(.int 3 0),(.ref 177),(.bool true),(.int 181 0),(.ref 178),.none,(.ref 179),(.ref 180),(.ref 181),(.int 411 0),(.int 68 0),(XZ 412)]),
 (.mk (.type "function") none (.func (Bg (top 23) "look_at_asks" 3 XY (.ref 182))) #[])]
noncomputable def Su(P:Params):List Obj:=d9 (top 24) 184 414 ["asks","is_end","taken","number","ask"] XY
noncomputable def Sv(P:Params):List Obj:=d9 (top 25) 191 425 ["thing","is_end"] XY
noncomputable def Sw(P:Params):List Obj:=d9 (top 30) 198 441 ["one","top","bottom"] XU
noncomputable def Sx(P:Params):List Obj:=qp (top 31) 205 450 XU
noncomputable def Sy(P:Params):List Obj:=qp (top 32) 210 456 XU
noncomputable def Sz(P:Params):List Obj:=d9 (top 33) 215 462 ["text","rows","ring","number","row"] XU
noncomputable def SA(P:Params):List Obj:=qp (top 34) 222 473 XU
noncomputable def SB(P:Params):List Obj:=d9 (top 35) 227 479 ["row","words"] XU
noncomputable def SD(P:Params):List Obj:=d9 (top 37) 234 489 ["_law_script","_law_k","_law_cell"] XS
noncomputable def SE(P:Params):List Obj:=d9 (top 38) 241 498 ["_law_state","_law_many_here","_law_digit","_law_drawn","_law_turn"] XS
noncomputable def SG(P:Params):List Obj:=d9 (top 39) 248 509 ["_law_top","_law_bottom","_law_one","_law_share"] XS
noncomputable def SH(P:Params):List Obj:=d9 (top 40) 255 519 ["_law_state","_law_least","_law_kind","_law_bottom","_law_top"] XS
noncomputable def SI(P:Params):List Obj:=qp (top 41) 262 530 XS
noncomputable def SJ(P:Params):List Obj:=d9 (top 42) 267 536 ["_law_state","_law_ties","_law_kind","_law_alike","_law_one","_law_rooms_here","_law_more"] XS
noncomputable def SK(P:Params):List Obj:=d9 (top 43) 274 549 ["_law_state","_law_shape","_law_places","_law_k","_law_one","_law_other"] XS
noncomputable def SL(P:Params):List Obj:=d9 (top 44) 281 561 ["_law_script","_law_at","_law_most","_law_count","_law_state","_law_places","_law_many_here","_law_kinds","_law_shape","_law_names_here","_law_rooms_here","_law_asks","_law_k","_law_one","_law_other"] XS
noncomputable def SN(P:Params):List Obj:=d9 (top 45) 288 582 ["_law_one"] XS
noncomputable def SO(P:Params):List Obj:=d9 (top 46) 295 589 ["_law_text","_law_due","_law_error","e"] XS
noncomputable def SQ(P:Params):List Obj:=qp (top 47) 302 599 XS
noncomputable def SR(P:Params):List Obj:=qp (top 48) 307 605 XS
noncomputable def SS(P:Params):List Obj:=qp (top 49) 312 611 XS
noncomputable def SU(P:Params):List Obj:=qp (top 50) 317 617 XS
noncomputable def SV(P:Params):List Obj:=qp (top 51) 322 623 XS
noncomputable def SW(P:Params):List Obj:=qp (top 52) 327 629 XS
noncomputable def SX(P:Params):List Obj:=d9 (top 53) 332 635 ["_law_text","_law_due","_law_number"] XS
noncomputable def SY(P:Params):List Obj:=d9 (top 54) 339 644 ["_law_state","_law_row","_law_words","_law_at","_law_word","_law_plain","_law_sign","_law_odd","_law_some"] XS
noncomputable def SZ(P:Params):List Obj:=qp (top 55) 346 659 XS
noncomputable def Ta(P:Params):List Obj:=d9 (top 56) 351 665 ["_law_state","_law_rows_here","_law_at","_law_way","_law_other"] XS
noncomputable def Tb(P:Params):List Obj:=d9 (top 57) 358 676 ["_law_script","_law_ring_here","_law_rows_here","_law_at","_law_state","_law_bent_here","_law_thing"] XS
noncomputable def Pu(P:Params)(b:Nat):Obj:=(bif b.blt 104 then(bif b.blt 47 then(bif b.blt 35 then(f1 P).getD (b-15) default else(f2 P).getD (b-35) default)else(bif b.blt 66 then(f3 P).getD (b-47) default else(bif b.blt 85 then(f4 P).getD (b-66) default else(f5 P).getD (b-85) default)))else(bif b.blt 130 then(bif b.blt 116 then(f6 P).getD (b-104) default else(bif b.blt 123 then(f8 P).getD (b-116) default else(Sh P).getD (b-123) default))else(bif b.blt 137 then(Sj P).getD (b-130) default else(bif b.blt 144 then(Sl P).getD (b-137) default else(Sm P).getD (b-144) default))))
noncomputable def Pv(P:Params)(b:Nat):Obj:=(bif b.blt 184 then(bif b.blt 163 then(bif b.blt 156 then(Sn P).getD (b-151) default else(So P).getD (b-156) default)else(bif b.blt 170 then(Sq P).getD (b-163) default else(bif b.blt 177 then(Sr P).getD (b-170) default else(Ss P).getD (b-177) default)))else(bif b.blt 205 then(bif b.blt 191 then(Su P).getD (b-184) default else(bif b.blt 198 then(Sv P).getD (b-191) default else(Sw P).getD (b-198) default))else(bif b.blt 210 then(Sx P).getD (b-205) default else(bif b.blt 215 then(Sy P).getD (b-210) default else(Sz P).getD (b-215) default))))
noncomputable def Tc(P:Params)(b:Nat):Obj:=bif b.blt 151 then Pu P b else Pv P b
noncomputable def Pw(P:Params)(b:Nat):Obj:=(bif b.blt 255 then(bif b.blt 234 then(bif b.blt 227 then(SA P).getD (b-222) default else(SB P).getD (b-227) default)else(bif b.blt 241 then(SD P).getD (b-234) default else(bif b.blt 248 then(SE P).getD (b-241) default else(SG P).getD (b-248) default)))else(bif b.blt 274 then(bif b.blt 262 then(SH P).getD (b-255) default else(bif b.blt 267 then(SI P).getD (b-262) default else(SJ P).getD (b-267) default))else(bif b.blt 281 then(SK P).getD (b-274) default else(bif b.blt 288 then(SL P).getD (b-281) default else(SN P).getD (b-288) default))))
noncomputable def Px(P:Params)(b:Nat):Obj:=(bif b.blt 327 then(bif b.blt 312 then(bif b.blt 302 then(SO P).getD (b-295) default else(bif b.blt 307 then(SQ P).getD (b-302) default else(SR P).getD (b-307) default))else(bif b.blt 317 then(SS P).getD (b-312) default else(bif b.blt 322 then(SU P).getD (b-317) default else(SV P).getD (b-322) default)))else(bif b.blt 346 then(bif b.blt 332 then(SW P).getD (b-327) default else(bif b.blt 339 then(SX P).getD (b-332) default else(SY P).getD (b-339) default))else(bif b.blt 351 then(SZ P).getD (b-346) default else(bif b.blt 358 then(Ta P).getD (b-351) default else(Tb P).getD (b-358) default))))
noncomputable def Td(P:Params)(b:Nat):Obj:=bif b.blt 295 then Pw P b else Px P b
noncomputable def ob(P:Params)(b:Nat):Obj:=bif b.blt 222 then Tc P b else Td P b
noncomputable def Gm(P:Params):List DictEntry:=[(XI P "LoadError" 214 (.ref 31)),
 (XI P "NoNumber" 230 (.ref 44)),
 (XI P "NoRing" 257 (.ref 63)),
 (XI P "NoTree" 282 (.ref 82)),
 (XI P "NoText" 307 (.ref 101)),
 (XI P "NoRow" 323 (.ref 113)),
 (XI P "greatest_shared" 334 (.ref 122)),
 (XI P "LONGEST_NAME" 338 (.int 8 337)),
 (XI P "is_whole" 345 (.ref 129)),
 (XI P "is_number_below" 353 (.ref 136)),
 (XI P "are_two_wholes" 360 (.ref 143)),
 (XI P "is_ratio" 367 (.ref 150)),
 (XI P "is_name" 373 (.ref 155)),
 (XI P "FEWEST_TIES" 377 (.int 2 376)),
 (XI P "MOST_TIES" 379 (.int 12 378)),
 (XI P "MOST_ASKS" 381 (.int 20 380)),
 (XI P "look_at_ring" 388 (.ref 162)),
 (XI P "is_ring" 395 (.ref 169)),
 (XI P "look_at_rooms" 404 (.ref 176)),
 (XI P "look_at_asks" 413 (.ref 183)),
 (XI P "look_at_each_ask" 424 (.ref 190)),
 (XI P "is_ask" 432 (.ref 197)),
 (XI P "MOST_FIGURES" 436 (.int 60 435)),
 (XI P "ROOMS" 438 (.str "rooms" 437)),
 (XI P "ASK" 440 (.str "ask" 439)),
 (XI P "shown_ratio" 449 (.ref 204)),
 (XI P "whole_in" 455 (.ref 209)),
 (XI P "ratio_in" 461 (.ref 214)),
 (XI P "read_ring" 472 (.ref 221)),
 (XI P "rooms_in" 478 (.ref 226)),
 (XI P "ask_in" 486 (.ref 233)),
 (XI P "_law_begun" 497 (.ref 240)),
 (XI P "_law_take" 508 (.ref 247)),
 (XI P "_law_low" 518 (.ref 254)),
 (XI P "_law_amount" 529 (.ref 261)),
 (XI P "_law_names" 535 (.ref 266)),
 (XI P "_law_rooms" 548 (.ref 273)),
 (XI P "_law_ends" 560 (.ref 280)),
 (XI P "_law_ring" 581 (.ref 287)),
 (XI P "_law_ratio" 588 (.ref 294)),
 (XI P "_law_refused" 598 (.ref 301)),
 (XI P "_law_rows" 604 (.ref 306)),
 (XI P "_law_whole" 610 (.ref 311)),
 (XI P "_law_fraction" 616 (.ref 316)),
 (XI P "_law_room_row" 622 (.ref 321)),
 (XI P "_law_ask_row" 628 (.ref 326)),
 (XI P "_law_read" 634 (.ref 331)),
 (XI P "_law_right" 643 (.ref 338)),
 (XI P "_law_bent_row" 658 (.ref 345)),
 (XI P "_law_many" 664 (.ref 350)),
 (XI P "_law_bent" 675 (.ref 357)),
 (XI P "law" 688 (.ref 364))]
noncomputable def Te:List Value:=[(.int 2 0),(.int 0 0),(.ref 20),(.int 6 0),(.int 0 0),(.ref 40),(.int 8 0),(.int 0 0),(.ref 52),(.int 14 0),(.int 0 0),(.ref 71),(.int 19 0),(.int 0 0),(.ref 90),(.int 24 0),(.int 0 0),(.ref 109),(.int 27 0),(.int 0 0),(.ref 121),(.int 35 0),(.int 0 0),(.ref 128),(.int 37 0),(.int 0 0),(.ref 135),(.int 39 0),(.int 0 0),(.ref 142),(.int 41 0),(.int 0 0),(.ref 149),(.int 43 0),(.int 0 0),(.ref 154),(.int 51 0),(.int 0 0),(.ref 161),(.int 56 0),(.int 0 0),(.ref 168),(.int 62 0),(.int 0 0),(.ref 175),(.int 68 0),(.int 0 0),(.ref 182),(.int 72 0),(.int 0 0),(.ref 189),(.int 80 0),(.int 0 0),(.ref 196),(.int 92 0),(.int 0 0),(.ref 203),(.int 98 0),(.int 0 0),(.ref 208),(.int 104 0),(.int 0 0),(.ref 213),(.int 109 0),(.int 0 0),(.ref 220),(.int 121 0),(.int 0 0),(.ref 225),(.int 124 0),(.int 0 0),(.ref 232),(.int 130 0),(.int 0 0),(.ref 239),(.int 135 0),(.int 0 0),(.ref 246),(.int 146 0),(.int 0 0),(.ref 253),(.int 154 0),(.int 0 0),(.ref 260),(.int 158 0),(.int 0 0),(.ref 265),(.int 164 0),(.int 0 0),(.ref 272),(.int 174 0),(.int 0 0),(.ref 279),(.int 184 0),(.int 0 0),(.ref 286),(.int 198 0),(.int 0 0),(.ref 293),(.int 202 0),(.int 0 0),(.ref 300),(.int 213 0),(.int 0 0),(.ref 305),(.int 218 0),(.int 0 0),(.ref 310),(.int 227 0),(.int 0 0),(.ref 315),(.int 235 0),(.int 0 0),(.ref 320),(.int 243 0),(.int 0 0),(.ref 325),(.int 257 0),(.int 0 0),(.ref 330),(.int 269 0),(.int 0 0),(.ref 337),(.int 274 0),(.int 0 0),(.ref 344),(.int 288 0),(.int 0 0),(.ref 349),(.int 293 0),(.int 0 0),(.ref 356),(.int 310 0),(.int 0 0),(.ref 363)]
noncomputable def Tf(P:Params):List (Nat×Obj):=[(12,A1 (Te.take 0))]
noncomputable def T0(P:Params):BT:=Sg 15 (λb=>D7 [12] P (Tf P) ob b 0) 1 0 0
noncomputable abbrev S0(w:World)(os:OsState):SharedT:=⟨T0 w.params,15,pf,#[],⟨0,0,0,0⟩,187,os⟩
noncomputable def Th(P:Params):List (Nat×Obj):=[(3,uY P XR ((Gm P).take 1) 10),(12,A1 (Te.take 3)),(31,(.mk (.type "type") none (.cls (.mk "LoadError" [(.type "ValueError")] [(.ref 31),(.type "ValueError"),(.type "Exception"),(.type "BaseException"),(.type "object")] 30 "LoadError" true [] [] false none false)) #[(some (.ref 15)),none,(some (.str "LoadError" 189)),(some XW),(some (.builtin "ValueError.__new__")),(some (.bool true))]))]
noncomputable def T1(P:Params):BT:=Sg 35 (λb=>D7 [3,12,31] P (Th P) ob b 1) 1 0 1
noncomputable abbrev S1(w:World)(os:OsState):SharedT:=⟨T1 w.params,35,pf,#[],⟨0,0,0,0⟩,215,os⟩
noncomputable def Ti(P:Params):List (Nat×Obj):=[(3,uY P XR ((Gm P).take 2) 11),(12,A1 (Te.take 6)),(31,(.mk (.type "type") none (.cls (.mk "LoadError" [(.type "ValueError")] [(.ref 31),(.type "ValueError"),(.type "Exception"),(.type "BaseException"),(.type "object")] 30 "LoadError" true [] [(.ref 44)] false none false)) #[(some (.ref 15)),none,(some (.str "LoadError" 189)),(some XW),(some (.builtin "ValueError.__new__")),(some (.bool true))]))]
noncomputable def T2(P:Params):BT:=Sg 47 (λb=>D7 [3,12,31] P (Ti P) ob b 2) 1 0 2
noncomputable abbrev S2(w:World)(os:OsState):SharedT:=⟨T2 w.params,47,pf,#[],⟨0,0,0,0⟩,231,os⟩
noncomputable def Tj(P:Params):List (Nat×Obj):=[(3,uY P XR ((Gm P).take 3) 12),(12,A1 (Te.take 9)),(31,(.mk (.type "type") none (.cls (.mk "LoadError" [(.type "ValueError")] [(.ref 31),(.type "ValueError"),(.type "Exception"),(.type "BaseException"),(.type "object")] 30 "LoadError" true [] [(.ref 44),(.ref 63)] false none false)) #[(some (.ref 15)),none,(some (.str "LoadError" 189)),(some XW),(some (.builtin "ValueError.__new__")),(some (.bool true))]))]
noncomputable def T3(P:Params):BT:=Sg 66 (λb=>D7 [3,12,31] P (Tj P) ob b 3) 1 0 3
noncomputable abbrev S3(w:World)(os:OsState):SharedT:=⟨T3 w.params,66,pf,#[],⟨0,0,0,0⟩,258,os⟩
noncomputable def Tn(P:Params):List (Nat×Obj):=[(3,uY P XR ((Gm P).take 4) 13),(12,A1 (Te.take 12)),(31,(.mk (.type "type") none (.cls (.mk "LoadError" [(.type "ValueError")] [(.ref 31),(.type "ValueError"),(.type "Exception"),(.type "BaseException"),(.type "object")] 30 "LoadError" true [] [(.ref 44),(.ref 63),(.ref 82)] false none false)) #[(some (.ref 15)),none,(some (.str "LoadError" 189)),(some XW),(some (.builtin "ValueError.__new__")),(some (.bool true))]))]
noncomputable def T4(P:Params):BT:=Sg 85 (λb=>D7 [3,12,31] P (Tn P) ob b 4) 1 0 4
noncomputable abbrev S4(w:World)(os:OsState):SharedT:=⟨T4 w.params,85,pf,#[],⟨0,0,0,0⟩,283,os⟩
noncomputable def To(P:Params):List (Nat×Obj):=[(3,uY P XR ((Gm P).take 5) 14),(12,A1 (Te.take 15)),(31,(.mk (.type "type") none (.cls (.mk "LoadError" [(.type "ValueError")] [(.ref 31),(.type "ValueError"),(.type "Exception"),(.type "BaseException"),(.type "object")] 30 "LoadError" true [] [(.ref 44),(.ref 63),(.ref 82),(.ref 101)] false none false)) #[(some (.ref 15)),none,(some (.str "LoadError" 189)),(some XW),(some (.builtin "ValueError.__new__")),(some (.bool true))]))]
noncomputable def T5(P:Params):BT:=Sg 104 (λb=>D7 [3,12,31] P (To P) ob b 5) 1 0 5
noncomputable abbrev S5(w:World)(os:OsState):SharedT:=⟨T5 w.params,104,pf,#[],⟨0,0,0,0⟩,308,os⟩
noncomputable def Tp(P:Params):List (Nat×Obj):=[(3,uY P XX ((Gm P).take 12) 21),(12,A1 (Te.take 33))]
noncomputable def T6(P:Params):BT:=Sg 151 (λb=>D7 [3,12] P (Tp P) ob b 6) 1 0 6
noncomputable abbrev S6(w:World)(os:OsState):SharedT:=⟨T6 w.params,151,pf,#[],⟨0,0,0,0⟩,368,os⟩
noncomputable def Tq(P:Params):List (Nat×Obj):=[(3,uY P XU ((Gm P).take 29) 38),(12,A1 (Te.take 66))]
noncomputable def T7(P:Params):BT:=Sg 222 (λb=>D7 [3,12] P (Tq P) ob b 7) 1 0 7
noncomputable abbrev S7(w:World)(os:OsState):SharedT:=⟨T7 w.params,222,pf,#[],⟨0,0,0,0⟩,473,os⟩
noncomputable def Ts(P:Params):List (Nat×Obj):=[(3,uY P XS ((Gm P).take 41) 50),(12,A1 (Te.take 102))]
noncomputable def T8(P:Params):BT:=Sg 302 (λb=>D7 [3,12] P (Ts P) ob b 8) 1 0 8
noncomputable abbrev S8(w:World)(os:OsState):SharedT:=⟨T8 w.params,302,pf,#[],⟨0,0,0,0⟩,599,os⟩
noncomputable def Tt(P:Params):List (Nat×Obj):=[(3,uY P XS ((Gm P).take 52) 61),(12,A1 (Te.take 135))]
noncomputable def T9(P:Params):BT:=Sg 365 (λb=>D7 [3,12] P (Tt P) ob b 9) 1 0 9
noncomputable abbrev S9(w:World)(os:OsState):SharedT:=⟨T9 w.params,365,pf,#[],⟨0,0,0,0⟩,689,os⟩
noncomputable abbrev env:Env:={scope:=pr.main.scope,locals:=mainNs,globals:=mainNs,cells:=[],code:=.ref 13,frame:=some 14}
noncomputable abbrev cE:Code:=.body (behindTheImports pr) env
noncomputable abbrev B:List Frame:=[topFrame ⟨0,0,0,0⟩]
noncomputable def OG:List Stmt:=(pr.main.body.drop 0).take 2
theorem Tu(w:World)(os:OsState):segRunT treeTable pr w 11 (some (.ref 6)) 1 227 (S0 w os) (piecesOf OG env cE ⟨0,0,0,0⟩ B)=some (.next,S1 w os,cE,⟨2,0,5,39⟩):=nE z_
noncomputable def OH:List Stmt:=(pr.main.body.drop 2).take 1
theorem Tv(w:World)(os:OsState):segRunT treeTable pr w 11 (some (.ref 6)) 1 214 (S1 w os) (piecesOf OH env cE ⟨2,0,5,39⟩ B)=some (.next,S2 w os,cE,⟨6,0,7,8⟩):=nE z_
noncomputable def OI:List Stmt:=(pr.main.body.drop 3).take 1
theorem Tw(w:World)(os:OsState):segRunT treeTable pr w 11 (some (.ref 6)) 1 248 (S2 w os) (piecesOf OI env cE ⟨6,0,7,8⟩ B)=some (.next,S3 w os,cE,⟨8,0,13,28⟩):=nE z_
noncomputable def OJ:List Stmt:=(pr.main.body.drop 4).take 1
theorem Tz(w:World)(os:OsState):segRunT treeTable pr w 11 (some (.ref 6)) 1 246 (S3 w os) (piecesOf OJ env cE ⟨8,0,13,28⟩ B)=some (.next,S4 w os,cE,⟨14,0,18,28⟩):=nE z_
noncomputable def OK:List Stmt:=(pr.main.body.drop 5).take 1
theorem TB(w:World)(os:OsState):segRunT treeTable pr w 11 (some (.ref 6)) 1 246 (S4 w os) (piecesOf OK env cE ⟨14,0,18,28⟩ B)=some (.next,S5 w os,cE,⟨19,0,23,22⟩):=nE z_
noncomputable def OL:List Stmt:=(pr.main.body.drop 6).take 9
theorem TH(w:World)(os:OsState):segRunT treeTable pr w 11 (some (.ref 6)) 1 389 (S5 w os) (piecesOf OL env cE ⟨19,0,23,22⟩ B)=some (.next,S6 w os,cE,⟨41,0,42,97⟩):=nE z_
noncomputable def OM:List Stmt:=(pr.main.body.drop 15).take 19
theorem TJ(w:World)(os:OsState):segRunT treeTable pr w 11 (some (.ref 6)) 1 398 (S6 w os) (piecesOf OM env cE ⟨41,0,42,97⟩ B)=some (.next,S7 w os,cE,⟨109,0,120,15⟩):=nE z_
noncomputable def ON:List Stmt:=(pr.main.body.drop 34).take 13
theorem TK(w:World)(os:OsState):segRunT treeTable pr w 11 (some (.ref 6)) 1 394 (S7 w os) (piecesOf ON env cE ⟨109,0,120,15⟩ B)=some (.next,S8 w os,cE,⟨202,0,212,80⟩):=nE z_
noncomputable def OO:List Stmt:=(pr.main.body.drop 47).take 11
theorem TM(w:World)(os:OsState):segRunT treeTable pr w 11 (some (.ref 6)) 1 319 (S8 w os) (piecesOf OO env cE ⟨202,0,212,80⟩ B)=some (.next,S9 w os,cE,⟨310,0,326,65⟩):=nE z_
noncomputable abbrev H1(P:Params):Heap:=absHeap (T9 P) 365 pf
theorem pre(w:World)(os:OsState):topGo treeTable pr w 11 (some (.ref 6)) 12 ⟨boot_heap w.params,#[],boot_drawn,boot_toks,os⟩ (topStub pr)=some (⟨⟨⟨JZ w.params⟩,pf⟩,#[],⟨0,0,0,0⟩,187,os⟩,⟨denote treeTable cE,cE,⟨0,0,0,0⟩,B⟩):=by rw[MH];exact Ob z_
theorem Hh(w:World)(os:OsState):segRun treeTable pr w 11 (some (.ref 6)) 1 1 ⟨⟨⟨JZ w.params⟩,pf⟩,#[],⟨0,0,0,0⟩,187,os⟩ (blockOf (behindTheImports pr) env cE ⟨0,0,0,0⟩ B)=some (.next,(S0 w os).abs,cE,⟨0,0,0,0⟩):=by kernel_rfl
theorem fin(w:World)(os:OsState):topRun treeTable pr w 11 (some (.ref 6)) 2 (S9 w os).abs ⟨doneF .next,cE,⟨310,0,326,65⟩,B⟩=some ⟨H1 w.params,#[],⟨0,0,0,0⟩,689,os⟩:=MG z_
theorem J1:behindTheImports pr=(OG++(OH++(OI++(OJ++(OK++(OL++(OM++(ON++(OO++[]))))))))):=by kernel_rfl
theorem run(w:World)(os:OsState):topRun treeTable pr w 11 (some (.ref 6)) (12+(1+(227+(214+(248+(246+(246+(389+(398+(394+(319+2))))))))))) ⟨boot_heap w.params,#[],boot_drawn,boot_toks,os⟩ (topStub pr)=some ⟨H1 w.params,#[],⟨0,0,0,0⟩,689,os⟩ :=
 go_top (pre w os) (piece_block (Hh w os) (J0 J1 (piece_app (segRun_of (Tu w os)) (piece_app (segRun_of (Tv w os)) (piece_app (segRun_of (Tw w os)) (piece_app (segRun_of (Tz w os)) (piece_app (segRun_of (TB w os)) (piece_app (segRun_of (TH w os)) (piece_app (segRun_of (TJ w os)) (piece_app (segRun_of (TK w os)) (piece_app (segRun_of (TM w os)) (piece_nil (fin w os)))))))))))))
noncomputable abbrev q:Program:=view pr [23,57]
noncomputable def loose:List Str:=(["LoadError","NoNumber","NoRing","NoTree","NoText","NoRow","greatest_shared","LONGEST_NAME","is_whole","is_number_below","are_two_wholes","is_ratio","is_name","FEWEST_TIES","MOST_TIES","MOST_ASKS","look_at_ring","is_ring","look_at_rooms","look_at_each_ask","is_ask","MOST_FIGURES","ROOMS","ASK","shown_ratio","whole_in","ratio_in","read_ring","rooms_in","ask_in","_law_begun","_law_take","_law_low","_law_amount","_law_names","_law_rooms","_law_ends","_law_ring","_law_ratio","_law_refused","_law_rows","_law_whole","_law_fraction","_law_room_row","_law_ask_row","_law_read","_law_right","_law_bent_row","_law_many","_law_bent"]:List String).map Str.ofString
noncomputable def Kf(P:Params):Frag:=(3,((Tt P).getD 0 (0,default)).2)::[(2,boot_o_2 P),(15,(f1 P).getD 0 default),(16,(f1 P).getD 1 default),(17,(f1 P).getD 2 default),(18,(f1 P).getD 3 default),(19,(f1 P).getD 4 default),(20,(f1 P).getD 5 default),(21,(f1 P).getD 6 default),(22,(f1 P).getD 7 default),(23,(f1 P).getD 8 default),(24,(f1 P).getD 9 default),(25,(f1 P).getD 10 default),(26,(f1 P).getD 11 default),(27,(f1 P).getD 12 default),(28,(f1 P).getD 13 default),(29,(f1 P).getD 14 default),(30,(f1 P).getD 15 default),(31,(f1 P).getD 16 default),(32,(f1 P).getD 17 default),(33,(f1 P).getD 18 default),(34,(f1 P).getD 19 default),(35,(f2 P).getD 0 default),(36,(f2 P).getD 1 default),(37,(f2 P).getD 2 default),(38,(f2 P).getD 3 default),(39,(f2 P).getD 4 default),(40,(f2 P).getD 5 default),(41,(f2 P).getD 6 default),(42,(f2 P).getD 7 default),(43,(f2 P).getD 8 default),(44,(f2 P).getD 9 default),(45,(f2 P).getD 10 default),(46,(f2 P).getD 11 default),(47,(f3 P).getD 0 default),(48,(f3 P).getD 1 default),(49,(f3 P).getD 2 default),(50,(f3 P).getD 3 default),(51,(f3 P).getD 4 default),(52,(f3 P).getD 5 default),(53,(f3 P).getD 6 default),(54,(f3 P).getD 7 default),(55,(f3 P).getD 8 default),(56,(f3 P).getD 9 default),(57,(f3 P).getD 10 default),(58,(f3 P).getD 11 default),(59,(f3 P).getD 12 default),(60,(f3 P).getD 13 default),(61,(f3 P).getD 14 default),(62,(f3 P).getD 15 default),(63,(f3 P).getD 16 default),(64,(f3 P).getD 17 default),(65,(f3 P).getD 18 default),(66,(f4 P).getD 0 default),(67,(f4 P).getD 1 default),(68,(f4 P).getD 2 default),(69,(f4 P).getD 3 default),(70,(f4 P).getD 4 default),(71,(f4 P).getD 5 default),(72,(f4 P).getD 6 default),(73,(f4 P).getD 7 default),(74,(f4 P).getD 8 default),(75,(f4 P).getD 9 default),(76,(f4 P).getD 10 default),(77,(f4 P).getD 11 default),(78,(f4 P).getD 12 default),(79,(f4 P).getD 13 default),(80,(f4 P).getD 14 default),(81,(f4 P).getD 15 default),(82,(f4 P).getD 16 default),(83,(f4 P).getD 17 default),(84,(f4 P).getD 18 default),(85,(f5 P).getD 0 default),(86,(f5 P).getD 1 default),(87,(f5 P).getD 2 default),(88,(f5 P).getD 3 default),(89,(f5 P).getD 4 default),(90,(f5 P).getD 5 default),(91,(f5 P).getD 6 default),(92,(f5 P).getD 7 default),(93,(f5 P).getD 8 default),(94,(f5 P).getD 9 default),(95,(f5 P).getD 10 default),(96,(f5 P).getD 11 default),(97,(f5 P).getD 12 default),(98,(f5 P).getD 13 default),(99,(f5 P).getD 14 default),(100,(f5 P).getD 15 default),(101,(f5 P).getD 16 default),(102,(f5 P).getD 17 default),(103,(f5 P).getD 18 default),(104,(f6 P).getD 0 default),(105,(f6 P).getD 1 default),(106,(f6 P).getD 2 default),(107,(f6 P).getD 3 default),(108,(f6 P).getD 4 default),(109,(f6 P).getD 5 default),(110,(f6 P).getD 6 default),(111,(f6 P).getD 7 default),(112,(f6 P).getD 8 default),(113,(f6 P).getD 9 default),(114,(f6 P).getD 10 default),(115,(f6 P).getD 11 default),(121,(f8 P).getD 5 default),(122,(f8 P).getD 6 default),(128,(Sh P).getD 5 default),(129,(Sh P).getD 6 default),(135,(Sj P).getD 5 default),(136,(Sj P).getD 6 default),(142,(Sl P).getD 5 default),(143,(Sl P).getD 6 default),(149,(Sm P).getD 5 default),(150,(Sm P).getD 6 default),(154,(Sn P).getD 3 default),(155,(Sn P).getD 4 default),(161,(So P).getD 5 default),(162,(So P).getD 6 default),(168,(Sq P).getD 5 default),(169,(Sq P).getD 6 default),(175,(Sr P).getD 5 default),(176,(Sr P).getD 6 default),(182,(Ss P).getD 5 default),(183,(Ss P).getD 6 default),(189,(Su P).getD 5 default),(190,(Su P).getD 6 default),(196,(Sv P).getD 5 default),(197,(Sv P).getD 6 default),(203,(Sw P).getD 5 default),(204,(Sw P).getD 6 default),(208,(Sx P).getD 3 default),(209,(Sx P).getD 4 default),(213,(Sy P).getD 3 default),(214,(Sy P).getD 4 default),(220,(Sz P).getD 5 default),(221,(Sz P).getD 6 default),(225,(SA P).getD 3 default),(226,(SA P).getD 4 default),(232,(SB P).getD 5 default),(233,(SB P).getD 6 default),(239,(SD P).getD 5 default),(240,(SD P).getD 6 default),(246,(SE P).getD 5 default),(247,(SE P).getD 6 default),(253,(SG P).getD 5 default),(254,(SG P).getD 6 default),(260,(SH P).getD 5 default),(261,(SH P).getD 6 default),(265,(SI P).getD 3 default),(266,(SI P).getD 4 default),(272,(SJ P).getD 5 default),(273,(SJ P).getD 6 default),(279,(SK P).getD 5 default),(280,(SK P).getD 6 default),(286,(SL P).getD 5 default),(287,(SL P).getD 6 default),(293,(SN P).getD 5 default),(294,(SN P).getD 6 default),(300,(SO P).getD 5 default),(301,(SO P).getD 6 default),(305,(SQ P).getD 3 default),(306,(SQ P).getD 4 default),(310,(SR P).getD 3 default),(311,(SR P).getD 4 default),(315,(SS P).getD 3 default),(316,(SS P).getD 4 default),(320,(SU P).getD 3 default),(321,(SU P).getD 4 default),(325,(SV P).getD 3 default),(326,(SV P).getD 4 default),(330,(SW P).getD 3 default),(331,(SW P).getD 4 default),(337,(SX P).getD 5 default),(338,(SX P).getD 6 default),(344,(SY P).getD 5 default),(345,(SY P).getD 6 default),(349,(SZ P).getD 3 default),(350,(SZ P).getD 4 default),(356,(Ta P).getD 5 default),(357,(Ta P).getD 6 default),(363,(Tb P).getD 5 default),(364,(Tb P).getD 6 default)]
noncomputable abbrev as:List Addr:=[3,2,15,16,17,18,19,20,21,22,23,24,25,26,27,28,29,30,31,32,33,34,35,36,37,38,39,40,41,42,43,44,45,46,47,48,49,50,51,52,53,54,55,56,57,58,59,60,61,62,63,64,65,66,67,68,69,70,71,72,73,74,75,76,77,78,79,80,81,82,83,84,85,86,87,88,89,90,91,92,93,94,95,96,97,98,99,100,101,102,103,104,105,106,107,108,109,110,111,112,113,114,115,121,122,128,129,135,136,142,143,149,150,154,155,161,162,168,169,175,176,182,183,189,190,196,197,203,204,208,209,213,214,220,221,225,226,232,233,239,240,246,247,253,254,260,261,265,266,272,273,279,280,286,287,293,294,300,301,305,306,310,311,315,316,320,321,325,326,330,331,337,338,344,345,349,350,356,357,363,364]
noncomputable abbrev Hk:Hook:=kHook Kf as (λ_=>by kernel_rfl)
noncomputable abbrev Xt:Shared→Bool:=fun s=>xlAt q [] s && recOk (RowW.records PySem.Challenge.rw_ringloads_k75_ring_texts_refused.row.toRowW) s
theorem size (w:World):((boot_heap w.params).isNs mainGlobals && (#[]:Array GenState).size == 0,(boot_heap w.params).objs.size,(boot_heap w.params).nsMap mainGlobals "__annotations__")=(true,11,some (.ref 6)):=by kernel_rfl
theorem Oc(w:World)(os:OsState):(staticsOk (importedModules pr.main.body) (boot_heap w.params) (H1 w.params) && namesBound pr (H1 w.params) && gensDone ⟨H1 w.params,#[],⟨0,0,0,0⟩,689,os⟩ && laidKept (boot_heap w.params) (H1 w.params))=true:=by kernel_rfl
theorem Od(w:World)(os:OsState):openSeen q loose (importedModules pr.main.body) Xt true ⟨H1 w.params,#[],⟨0,0,0,0⟩,689,os⟩=openGood q loose:=by rw[Fast.te4187177175401517315];kernel_rfl
theorem Oe(w:World)(os:OsState):Hk.obs ⟨H1 w.params,#[],⟨0,0,0,0⟩,689,os⟩=Hk.val w:=by kernel_rfl
theorem MI:opening pr=plainProg pr.main.scope.names:=by kernel_rfl
theorem left:LeftO pr q loose Xt Hk.obs Hk.val 6044:=LeftO.of_pieces (M:=(12+(1+(227+(214+(248+(246+(246+(389+(398+(394+(319+2)))))))))))) (boot_open MI x_ (λs=>by kernel_rfl)) size run y_ (λw=>funext λos=>looks_pair (Oc w os) (looks_pair (Od w os) (Oe w os)))
end Hd
namespace My
open PySem L2
local macro_rules | `(tactic| walk_at $q:str)=>do
 if q.getString == "o" then Lean.Macro.throwUnsupported
 let ids:=("Jq zF CI Ma Jo GW Jn ye j3 M6 LZ v9 j4 lF uG rp GW RI Jb qo Rf NF Cq rk v5 jx Fq zr AO Ow RE Rz AN Ry Ft IY Fu LN NH IV NI zB sG EW Ca Iz x8 xZ K5 Ew HG K7 Ey HH EO Lq HX Il Jh Fx Lx Nu Io Ly Nv Ir Nx Iu Cf Ko M3 K1 K2 Eu BM xV Lw EV Ij B7 AJ EY Fd M1 l8 hW sF a8 QV aR aG QU aj um wC bP cf lb bu bJ bg a6 aE gG aQ QN D3 m8 vL uo jo l5 HJ QS ql Ez Kl br ju D6 BV HV EK AK Rf qo dE EX Ik B9 List.all_cons List.all_nil Bool.and_true Bool.true_and AE Nq EM D5 Az EE D4 EU jO jv yj yk AW bL CQ CS FQ jV aW zh sx jX vN jM AA yW vq EF Km oO vt BN FK FL FM FN FO Jv Jw Jx Jy Mf Mg JB JC NQ NS CY CZ JE Lu ET G0 zJ C1 CN zK tF CP Mh FP List.length_map CO CT CU CV FR AX CW yl ym yn wd yo uK FT Jz AD EJ EH BU Lj qV l6 FU JF FV FW FY FZ AY we wg C0 JG uz EN beq_self_eq_true String.reduceBEq String.reduceEq reduceCtorEq gH xQ jN cB g8 bG AG B5 AH jZ uA Ls List.getElem?_cons_zero List.getElem?_cons_succ List.set_cons_zero List.set_cons_succ List.cons_append List.nil_append List.replicate_succ List.replicate_zero List.map_cons List.map_nil List.drop_succ_cons List.drop_zero Option.getD_some true_and decide_eq_true_eq Bool.not_eq_true' decide_eq_false_iff_not ite_true ite_false Bool.false_eq_true Bool.true_eq_false if_true if_false List.length_cons List.length_nil Nat.reduceAdd Nat.reduceSub uI yg Mc Md NO Pf Pg Ph Option.some.injEq exists_eq_left' exists_eq_left".splitOn " ").toArray.map fun s=>Lean.mkIdent ((s.splitOn ".").foldl Lean.Name.mkStr Lean.Name.anonymous)
 if q.getString=="v" then `(tactic| try simp only [$[$ids:ident],*]) else if q.getString=="w" then `(tactic| ((try dsimp only [$[$ids:ident],*]); try simp only [$[$ids:ident],*])) else `(tactic|(unfold $(Lean.mkIdent (Lean.Name.mkSimple q.getString)):ident;walk_at"w"))
local macro_rules | `(tactic| walk_at "o")=>`(tactic| first | exact Or.inl rfl | exact Or.inr rfl)
theorem v4{a b:Prop}(h:a∨b:=by walk_at "o"):a∨b:=h
noncomputable section
abbrev dF:=Hd.top 8
abbrev ph:List Str:=["one","other","rest"]
abbrev pj:=Hd.top 11
abbrev A2:List Str:=["thing"]
abbrev dG:=Hd.top 12
abbrev pk:List Str:=["thing","many"]
abbrev eG:=Hd.top 13
abbrev qq:List Str:=["thing"]
abbrev pw:=Hd.top 14
abbrev A3:List Str:=["thing"]
abbrev nF:=Hd.top 15
abbrev wK:List Str:=["thing"]
abbrev fM:=Hd.top 22
abbrev rF:List Str:=["rooms","number","room"]
abbrev uZ:=Hd.top 25
abbrev Gn:List Str:=["thing","is_end"]
abbrev cY:=Hd.top 24
abbrev nG:List Str:=["asks","is_end","taken","number","ask"]
abbrev dW:=Hd.top 23
abbrev sI:List Str:=["asks","places"]
abbrev gI:=Hd.top 20
abbrev sJ:List Str:=["thing"]
abbrev rG:=Hd.top 21
abbrev Dt:List Str:=["thing"]
abbrev iQ:=Hd.top 30
abbrev u4:List Str:=["one","top","bottom"]
abbrev kY:=Hd.top 31
abbrev tO:List Str:=["text","figures","found"]
abbrev kZ:=Hd.top 32
abbrev tP:List Str:=["text","found"]
abbrev k6:=Hd.top 34
abbrev tQ:List Str:=["row","words"]
abbrev u5:=Hd.top 35
abbrev Gp:List Str:=["row","words"]
abbrev mj:=Hd.top 33
abbrev yu:List Str:=["text","rows","ring","number","row"]
abbrev kb:=Hd.top 37
abbrev wL:List Str:=["_law_script","_law_k","_law_cell"]
abbrev ml:=Hd.top 38
abbrev yv:List Str:=["_law_state","_law_many_here","_law_digit","_law_drawn","_law_turn"]
abbrev ee:=Hd.top 41
abbrev kc:List Str:=["_law_state","_law_many_here","_law_letters","_law_base","_law_at","_law_turn"]
abbrev pA:=Hd.top 39
abbrev A4:List Str:=["_law_top","_law_bottom","_law_one","_law_share"]
abbrev iR:=Hd.top 40
abbrev u6:List Str:=["_law_state","_law_least","_law_kind","_law_bottom","_law_top"]
abbrev ke:=Hd.top 42
abbrev wM:List Str:=["_law_state","_law_ties","_law_kind","_law_alike","_law_one","_law_rooms_here","_law_more"]
abbrev mn:=Hd.top 43
abbrev yw:List Str:=["_law_state","_law_shape","_law_places","_law_k","_law_one","_law_other"]
abbrev mq:=Hd.top 44
abbrev yx:List Str:=["_law_script","_law_at","_law_most","_law_count","_law_state","_law_places","_law_many_here","_law_kinds","_law_shape","_law_names_here","_law_rooms_here","_law_asks","_law_k","_law_one","_law_other"]
abbrev kf:=Hd.top 45
abbrev wN:List Str:=["_law_one"]
abbrev iS:=Hd.top 47
abbrev rH:List Str:=["_law_ring_here","_law_rows_here","_law_name","_law_one","_law_other","_law_size"]
abbrev iT:=Hd.top 55
abbrev rJ:List Str:=["_law_state","_law_rows_here","_law_letters","_law_asks","_law_some"]
abbrev fN:=Hd.top 54
abbrev rK:List Str:=["_law_state","_law_row","_law_words","_law_at","_law_word","_law_plain","_law_sign","_law_odd","_law_some"]
abbrev mr:=Hd.top 56
abbrev yy:List Str:=["_law_state","_law_rows_here","_law_at","_law_way","_law_other"]
abbrev gy:=Hd.top 48
abbrev p6:List Str:=["_law_word","_law_figures"]
abbrev cZ:=Hd.top 49
abbrev kg:List Str:=["_law_word","_law_parts","_law_one"]
abbrev cu:=Hd.top 50
abbrev fO:List Str:=["_law_row","_law_words","_law_found"]
abbrev dX:=Hd.top 51
abbrev lJ:List Str:=["_law_row","_law_places","_law_taken","_law_words","_law_one","_law_other","_law_size"]
abbrev iU:=Hd.top 52
abbrev rL:List Str:=["_law_text","_law_rows_here","_law_rooms_here","_law_asks","_law_number","_law_ask"]
abbrev gJ:=Hd.top 46
abbrev sL:List Str:=["_law_text","_law_due","_law_error","e"]
abbrev ki:=Hd.top 53
abbrev wO:List Str:=["_law_text","_law_due","_law_number"]
abbrev Gq:=Hd.top 57
abbrev Of:List Str:=["_law_script","_law_ring_here","_law_rows_here","_law_at","_law_state","_law_bent_here","_law_thing"]
end
def da:FS:=λls so=>∃a b:Int,ls=[.d (.int a),.d (.int b)]/\so (.d (.int (Int.gcd a b))) ls
def mv:W Fl:=(a8 (bP 2 (aG jM (aj 0) (aj 1)))
  (a8 (bP 0 (aj 1))
  (bP 1 (aj 2))))
def dH:W Fl:=(a8 (yU (aR (aG vt (aj 1) (wC (.int 0)))) mv)
  (cf (a6 AD (aE (aj 0) aQ))))
abbrev Wq(n k:Nat)(f:FS)(m:W Fl):Prop:=∀ls so,ls.length=n->f ls so->m (ls++List.replicate k .un) (bB ls so)
theorem mw:Wq 2 1 da dH:=by
 rintro ls so - ⟨a,b,rfl,h⟩;walk_at"dH";refine⟨λn Z=>∃x y r,Z=[.d (.int x),.d (.int y),r]/\Int.gcd x y=Int.gcd a b/\n=y.natAbs,⟨_,a,b,_,rfl,rfl,rfl⟩,?_⟩;rintro n Z ⟨x,y,r,rfl,hg,rfl⟩;walk_at"w";split
 .
  rename_i hy;have hy:y≠0:=by simpa using hy
  exact⟨hy,_,lC x hy,y,x.fmod y,_,rfl,by rw[y7];exact hg,rfl⟩
 .
  rename_i hy;have hy:y=0:=by simpa using hy
  subst hy;refine⟨_,aB (aB aZ),?_⟩
  have e:(if x<0 then -x else x)=((Int.gcd a b:Nat):Int):=by rw[<- hg,Int.gcd_zero_right];split<;>omega
  rw[e];exact h
def fP:FS:=λls so=>(∃i:Int,ls=[.d (.int i)]/\so (.d (.bl true)) ls)∨∃d:D,ls=[.d d]/\(∀i,d≠.int i)/\so (.d (.bl false)) ls
def k7:W Fl:=(cf (ql (QU (l6 "int") (aj 0)) (Ez (aR (QU (l6 "bool") (aj 0))))))
theorem wQ:Wq 1 0 fP k7:=by
 rintro ls so-(⟨i,rfl,h⟩|⟨d,rfl,hd,h⟩)
 . walk_at"k7";exact⟨_,aB aZ,h⟩
 .
  unfold k7
  cases d with
  |int i=>exact absurd rfl (hd i)
  |_=>walk_at"w"; exact⟨_,aB aZ,h⟩
def de:FS:=λls so=>∃(d:D)(n:Int),ls=[.d d,.d (.int n)]/\so (.d (.bl (fG d n))) ls
def dJ:W Fl:=(cf (ql (bJ fP (aE (aj 0) aQ)) (jv vq yW (wC (.int 0)) (aj 0) (aj 1))))
theorem mx:Wq 2 0 de dJ:=by
 rintro ls so - ⟨d,n,rfl,h⟩;unfold dJ;by_cases hd:∃i,d=.int i
 .
  obtain⟨i,rfl⟩:=hd;have h:so (.d (.bl (decide (0<=i/\i<n)))) [.d (.int i),.d (.int n)]:=h;walk_at"w";refine .inl ⟨i,rfl,?_⟩;walk_at"w";by_cases c:0<=i
  .
   rw[if_pos c];have e:decide (0<=i/\i<n)=decide (i<n):=by rw[decide_eq_decide];omega
   rw[e]at h;exact⟨_,aB (aB aZ),h⟩
  . rw[if_neg c];have e:decide (0<=i/\i<n)=false:=Uy xL;rw[e]at h;exact⟨_,aB (aB aZ),h⟩
 .
  have e:fG d n=false:=by
   unfold fG;split
   . exact absurd ⟨_,rfl⟩ hd
   . rfl
  rw[e]at h;walk_at"w";refine .inr ⟨d,rfl,λi e=>hd ⟨i,e⟩,?_⟩;walk_at"w";exact⟨_,aB (aB aZ),h⟩
noncomputable def Og:D->Bool
 |.tup [.int _,.int _]=>true
 |_=>false
theorem J2{d:D}(h:Og d=true):∃i j,d=.tup [.int i,.int j]:=by
 unfold Og at h;split at h
 . exact⟨_,_,rfl⟩
 . cases h
theorem Du(d:D):(∃i j,d=.tup [.int i,.int j])∨(∀i j,d≠.tup [.int i,.int j]):=by
 cases h:Og d with
 |true=>exact .inl (J2 h)
 |false=>exact .inr λi j e=>by subst e;cases h
def dM:FS:=λls so=>(∃i j:Int,ls=[.d (.tup [.int i,.int j])]/\so (.d (.bl true)) ls)∨∃d:D,ls=[.d d]/\(∀i j,d≠.tup [.int i,.int j])/\so (.d (.bl false)) ls
def cJ:W Fl:=(cf (ql (QU (l6 "tuple") (aj 0)) (ql (aG oO (a6 cg (aE (aj 0) aQ)) (wC (.int 2))) (ql (bJ fP (aE (aG bF (aj 0) (wC (.int 0))) aQ)) (bJ fP (aE (aG bF (aj 0) (wC (.int 1))) aQ))))))
theorem nH:Wq 1 0 dM cJ:=by
 rintro ls so-(⟨i,j,rfl,h⟩|⟨d,rfl,hd,h⟩)
 . walk_at"cJ";refine .inl ⟨_,rfl,?_⟩;walk_at"w";refine .inl ⟨_,rfl,?_⟩;walk_at"w";exact⟨_,aB aZ,h⟩
 .
  unfold cJ;have fin:bB [.d d] so (.rt (.d (.bl false))) [.d d]:=⟨_,aB aZ,h⟩;by_cases ht:∃xs,d=.tup xs
  .
   obtain⟨xs,rfl⟩:=ht;by_cases hl:xs.length=2
   .
    obtain⟨x,y,rfl⟩:∃x y,xs=[x,y]:=by rcases xs with _|⟨x,_|⟨y,_|⟨z,r⟩⟩⟩<;>simp at hl;exact⟨_,_,rfl⟩
    have wh:∀z:D,(∃i,z=.int i)∨(∀i,z≠.int i):=λz=>by cases z<;>simp
    walk_at"w";rcases wh x with⟨i,rfl⟩|hx
    .
     refine .inl ⟨_,rfl,?_⟩;rcases wh y with⟨j,rfl⟩|hy
     . exact absurd rfl (hd i j)
     . walk_at"w";refine .inr ⟨_,rfl,hy,?_⟩;walk_at"w";exact fin
    . refine .inr ⟨_,rfl,hx,?_⟩;walk_at"w";exact fin
   .
    walk_at"w";have e:¬((xs.length:Int)=2):=by omega
    simp only[e,decide_false];exact fin
  .
   have ei:mR "tuple" d=false:=by
    cases d<;>first
     |exact absurd ⟨_,rfl⟩ ht
     |rfl
   walk_at"w";rw[ei];walk_at"w";exact fin
def fQ:FS:=λls so=>∃d:D,ls=[.d d]/\so (.d (.bl (mU d))) ls
def k8:W Fl:=(cf (ql (bJ dM (aE (aj 0) aQ)) (ql (aG Km (aG bF (aj 0) (wC (.int 1))) (wC (.int 1))) (aG oO (bJ da (aE (aG bF (aj 0) (wC (.int 0))) (aE (aG bF (aj 0) (wC (.int 1))) aQ))) (wC (.int 1))))))
theorem wR:Wq 1 0 fQ k8:=by
 rintro ls so - ⟨d,rfl,h⟩;by_cases hd:∃i j,d=.tup [.int i,.int j]
 .
  obtain⟨i,j,rfl⟩:=hd;walk_at"k8";refine .inl ⟨_,_,rfl,?_⟩;walk_at"w";have e:mU (.tup [.int i,.int j])=(decide (1<=j) && decide ((Int.gcd i j:Int)=1)):=rfl;rw[e]at h;split
  . rename_i hj;refine⟨_,_,rfl,?_⟩;walk_at"w";have hj':(1:Int)<=j:=hj;rw[Uw hj',Vr]at h;exact⟨_,aB aZ,h⟩
  . rename_i hj;have hj':¬(1:Int)<=j:=hj;rw[Uy hj',V2]at h;exact⟨_,aB aZ,h⟩
 . have hn:∀i j,d≠.tup [.int i,.int j]:=λi j e=>hd ⟨i,j,e⟩;rw[uN hn]at h;walk_at"k8";refine .inr ⟨_,rfl,hn,?_⟩;walk_at"w";exact⟨_,aB aZ,h⟩
def pB:FS:=λls so=>∃d:D,ls=[.d d]/\OC d/\so (.d (.bl (sH d))) ls
def rM:W L:=(l8 (wC (.str "a")) [(sF,(aj 0)),(sF,(wC (.str "z")))])
def rN:W Fl:=(a8 (QV (l5 (aR (QU (l6 "str") (aj 0)))) (cf (wC (.bl false))) bu)
  (cf (ql (jv vq vq (wC (.int 1)) (a6 cg (aE (aj 0) aQ)) (wC (.int 8))) (a6 Ip (aE (br (jN 1 [] (x8 (aj 0)) (bL 0) g9 rM)) aQ)))))
theorem yz:Wq 1 0 pB rN:=by
 rintro ls so - ⟨d,rfl,ha,h⟩;unfold rN
 cases d with
 | str x =>
  obtain⟨hx,hs⟩:=ha x rfl;walk_at"w";have el:=F5 x;have e8:sH (.str x)=((decide (1<=x.cps.size) && decide (x.cps.size<=8)) && x.cps.toList.all iO):=rfl;rw[e8]at h;refine⟨Uv (show x.length<=1000000 by omega) x_,?_⟩;by_cases h1:1<=x.cps.size
  .
   rw[if_pos (show(1:Int)<=(x.length:Int) by omega)];by_cases h2:x.cps.size<=8
   .
    rw[if_pos (show(x.length:Int)<=8 by omega)];rw[Uw h1,Uw h2,Vr,Vr]at h;refine⟨hx,by unfold fE;rw[tu,VG];exact Uv (show x.cps.size<=1000000 by omega) x_,?_⟩;unfold fE;refine ff (enc:=λc=>D.str ⟨#[c]⟩) (h:=λc=>D.bl (iO c)) _ _ _ (λc hc Q q=>?_) λl'=>?_
    .
     walk_at"rM";unfold iO at q
     cases e1:iM "a" ⟨#[c]⟩with
     |false=>rw[e1,V2]at q;rw[if_neg (by simp)];exact q
     |true=>rw[e1,Vr]at q;rw[if_pos rfl];exact q
    .
     walk_at"w";intro aa;refine⟨x.cps.toList.map iO,by rw[VW];rfl,?_⟩;have e9:(x.cps.toList.map iO).all id=x.cps.toList.all iO:=by rw[List.all_map];rfl
     rw[e9];exact⟨_,aB aZ,h⟩
   . rw[if_neg (show ¬(x.length:Int)<=8 by omega)];rw[Uy h2,Bool.and_false,V2]at h;exact⟨_,aB aZ,h⟩
  . rw[if_neg (show ¬(1:Int)<=(x.length:Int) by omega)];rw[Uy h1,V2,V2]at h;exact⟨_,aB aZ,h⟩
 |_=>walk_at"w"; exact⟨_,aB aZ,h⟩
def eH:Rw:=λds so xp=>∃ d:D,ds=[d]/\(∀ rs,d=.lst rs->rs.length<=1000000)/\(bZ d=none->so (.d .non))/\∀ k,bZ d=some k->xp (NR "rooms" (Mt k))
def dN(xp:Xc->Prop):W Fl:=(QV (QS (l5 (aR (bJ fQ (aE (aj 2) aQ)))) (aR (aG vq (aG bF (aj 2) (wC (.int 0))) (wC (.int 0))))) (jx "NoRing" ["part","number"] xp (aE (wC (.str "rooms")) (aE (aj 1) aQ))) bu)
def fR(xp:Xc->Prop):W Fl:=(a8 (QV (QS (l5 (aR (QU (l6 "list") (aj 0)))) (l5 (aR (jv vq vq (wC (.int 2)) (a6 cg (aE (aj 0) aQ)) (wC (.int 12)))))) (jx "NoRing" ["part","number"] xp (aE (wC (.str "rooms")) (aE (wC .non) aQ))) bu)
  (D5 (EU (aj 0)) (m7 [1,2]) (dN xp)))
theorem tR{xp:Xc->Prop}{d:D}{so:Fl->Ev->Prop}:∀(rs:List D)(i:Nat)(l1 l2:L),((rs.findIdx? λr=>!R1 r)=none->∀ l1 l2,so .nx [.d d,l1,l2])->(∀ k,(rs.findIdx? λr=>!R1 r)=some k->xp (NR "rooms" (.int ((i+k:Nat):Int)))) ->
  iJ (m7 [1,2]) (dN xp) (wu i rs) [.d d,l1,l2] so
 |[],i,l1,l2,h,_=>h rfl l1 l2
 | r::rs,i,l1,l2,h,hx=>by
  rw[o6,o7];walk_at"dN";refine⟨r,rfl,?_⟩;rw[List.findIdx?_cons]at h hx
  cases hb:R1 r with
  | true =>
   rw[hb]at h hx
   obtain⟨a,b,rfl⟩:∃a b,r=.tup [.int a,.int b]:=by
    cases hq:Du r with
    |inl z=>exact z
    |inr z=>rw[Ms z]at hb;cases hb
   have hb':mU (.tup [.int a,.int b])=true/\0<a:=by simpa[R1]using hb
   rw[hb'.1];walk_at"w";rw[if_neg (by omega)];refine tR rs (i+1) _ _ (λe=>h (by simpa using e)) λk e=>?_;have:=hx (k+1) (by simp[e]);rw[show i+1+k=i+(k+1) by omega];exact this
  | false =>
   rw[hb]at h hx;have bad:=hx 0 v6;rw[Nat.add_zero]at bad
   cases hr:mU r with
   | false =>
    walk_at"w";exact⟨.inr trivial,x_,bad⟩
   | true =>
    obtain⟨a,b,rfl⟩:=zT hr;have ha:¬0<a:=by intro z;simp only[R1,hr,Vr,decide_eq_false_iff_not]at hb;exact hb z
    walk_at"w";rw[if_pos (by omega)];exact⟨.inr trivial,x_,bad⟩
theorem pC:∀ds so xp,ds.length=1->eH ds so xp->fR xp (ds.map .d++List.replicate 2 .un) (Ry so):=by
 rintro ds so xp - ⟨d,rfl,hl,h,hx⟩;unfold fR
 cases d with
 | lst rs =>
  have kz:=hl rs rfl;simp only[bZ]at h hx;walk_at"w";have bad:¬ (2<=rs.length/\rs.length<=12)->xp (NR "rooms" .non):=λz=>hx none (by rw[if_neg z]);by_cases h1:(2:Int)<=(rs.length:Int)
  .
   rw[if_pos h1];by_cases h2:(rs.length:Int)<=12
   . rw[if_neg (λz=>z h2)];have z:2<=rs.length/\rs.length<=12:=⟨xL,xL⟩;rw[if_pos z]at h hx;rw[tJ];refine tR rs 0 _ _ (λe l1 l2=>h (by rw[e];rfl)) λk e=>?_;rw[Nat.zero_add];exact hx (some k) (by rw[e];rfl)
   . rw[if_pos h2];exact⟨.inr trivial,x_,bad xL⟩
  . rw[if_neg h1];exact⟨.inr trivial,x_,bad xL⟩
 | _ =>
  walk_at"w";exact⟨.inr trivial,x_,hx _ rfl⟩
def b7:FS:=λls so=>∃(d:D)(n:Int),ls=[.d d,.d (.int n)]/\so (.d (.bl (fG d n))) []
def df:W L:=(bJ de (aE (aj 0) (aE (aj 1) aQ)))
theorem lq:∀a d so,b7 [.d a,.d d] so->df [.d a,.d d] (λr _=>so r []):=by rintro a d so ⟨a',n,e,h⟩;cases e;walk_at"df";exact⟨a,n,rfl,h⟩
def rO:FS:=λls so=>∃(d:D)(n:Int),ls=[.d d,.d (.fn "look_at_asks" (.int n))]/\Ks d/\so (.d (.bl (me n d))) ls
def tS:W Fl:=(cf (ql (aG vt (aG bF (aj 0) (wC (.int 1))) (aG bF (aj 0) (wC (.int 2)))) (aG Km (aG bF (aG bF (aj 0) (wC (.int 3))) (wC (.int 0))) (wC (.int 0)))))
def tT:W Fl:=(a8 (QV (QS (l5 (aR (rp b7 "look_at_asks" 1 (aG bF (aj 0) (wC (.int 1)))))) (l5 (aR (rp b7 "look_at_asks" 1 (aG bF (aj 0) (wC (.int 2))))))) (cf (wC (.bl false))) bu)
  tS)
def tU:W Fl:=(a8 (QV (QS (l5 (aR (bJ pB (aE (aG bF (aj 0) (wC (.int 0))) aQ)))) (l5 (aR (bJ fQ (aE (aG bF (aj 0) (wC (.int 3))) aQ))))) (cf (wC (.bl false))) bu)
  tT)
def u7:W Fl:=(a8 (QV (QS (l5 (aR (QU (l6 "tuple") (aj 0)))) (aR (aG vt (a6 cg (aE (aj 0) aQ)) (wC (.int 4))))) (cf (wC (.bl false))) bu)
  tU)
theorem A5:Wq 2 0 rO u7:=by
 rintro ls so - ⟨d,n,rfl,ha,h⟩;unfold u7
 cases d with
 | tup xs =>
  match xs,ha,h with
  | [a,b,c,s],ha,h =>
   have hA:=ha _ rfl a rfl;rw[N8]at h;have no:(sH a && mU s && (fG b n && fG c n) && (!(Q1 b c) && Kr s))=false->bB [.d (.tup [a,b,c,s]),.d (.fn "look_at_asks" (.int n))] so (.rt (.d (.bl false))) [.d (.tup [a,b,c,s]),.d (.fn "look_at_asks" (.int n))]:=λe=>by rw[e]at h;exact⟨_,aB (aB aZ),h⟩
   walk_at"w";walk_at"tU";refine⟨_,rfl,hA,?_⟩
   cases e1:sH a with
   | false =>
    walk_at"w";exact no (by rw[e1];rfl)
   | true =>
    walk_at"w";refine⟨_,rfl,?_⟩
    cases e2:mU s with
    | false =>
     walk_at"w";exact no (by rw[e1,e2];rfl)
    | true =>
     walk_at"w";walk_at"tT";refine⟨b,n,rfl,?_⟩
     cases e3:fG b n with
     | false =>
      walk_at"w";exact no (by rw[e1,e2,e3];rfl)
     | true =>
      walk_at"w";refine⟨c,n,rfl,?_⟩
      cases e4:fG c n with
      | false =>
       walk_at"w";exact no (by rw[e1,e2,e3,e4];rfl)
      | true =>
       obtain⟨i,rfl⟩:=zS e3;obtain⟨j,rfl⟩:=zS e4;obtain⟨p,q,rfl⟩:=zT e2;rw[e1,e2,e3,e4,Vr,Vr,Vr]at h;walk_at"w";walk_at"tS";have eq:Q1 (.int i) (.int j)=decide (i=j):=rfl;have ep:Kr (.tup [.int p,.int q])=decide (0<=p):=rfl;rw[eq,ep]at h;by_cases hij:i=j
       . rw[if_neg (λz=>z hij)];rw[Uw hij]at h;exact⟨_,aB (aB aZ),h⟩
       . rw[if_pos hij];rw[Uy hij]at h;exact⟨_,aB (aB aZ),h⟩
  |[],_,h=>walk_at"w"; exact⟨_,aB (aB aZ),h⟩
  |[_],_,h=>walk_at"w"; exact⟨_,aB (aB aZ),h⟩
  |[_,_],_,h=>walk_at"w"; exact⟨_,aB (aB aZ),h⟩
  |[_,_,_],_,h=>walk_at"w"; exact⟨_,aB (aB aZ),h⟩
  | a::b::c::s::e::r,_,h =>
   walk_at"w";rw[if_pos (by omega)];exact⟨_,aB (aB aZ),h⟩
 | _ =>
  walk_at"w";exact⟨_,aB (aB aZ),h⟩
def cN:Rw:=λds so xp=>∃(d:D)(n:Int),ds=[d,.fn "look_at_asks" (.int n)]/\Gc d/\(o5 n d=none->so (.d .non))/\∀ k,o5 n d=some k->xp (NR "asks" (Mt k))
def cF(xp:Xc->Prop):W Fl:=(a8 (QV (QS (l5 (aR (bJ rO (aE (aj 4) (aE (aj 1) aQ))))) (aR (NH false 2 (aG bF (aj 4) (wC (.int 0)))))) (jx "NoRing" ["part","number"] xp (aE (wC (.str "asks")) (aE (aj 3) aQ))) bu)
  (IV 2 (aG bF (aj 4) (wC (.int 0))) (wC (.bl true))))
def dg(xp:Xc->Prop):W Fl:=(a8 (QV (l5 (aR (QU (l6 "list") (aj 0)))) (jx "NoRing" ["part","number"] xp (aE (wC (.str "asks")) (aE (wC .non) aQ))) bu)
  (a8 (bP 2 (NI []))
  (D5 (EU (aj 0)) (m7 [3,4]) (cF xp))))
theorem wU{xp:Xc->Prop}{d:D}{n:Int}{a:Addr}{so:Fl->Ev->Prop}:∀(as:List D)(i:Nat)(zs:List Str)(l1 l2:L),(∀ b∈as,Ks b)->zs.length+as.length<=1000->(d7 n as zs i=none->∀ l0 l1 l2,so .nx [.d d,.d (.fn "look_at_asks" (.int n)),l0,l1,l2]) ->
  (∀ k,d7 n as zs i=some k->xp (NR "asks" (.int (k:Int)))) ->
  iJ (m7 [3,4]) (cF xp) (wu i as) [.d d,.d (.fn "look_at_asks" (.int n)),.dic a (R3 zs),l1,l2] so
 |[],i,zs,l1,l2,_,_,h,_=>h rfl _ l1 l2
 | b::as,i,zs,l1,l2,ha,hl,h,hx=>by
  rw[Uk]at hl;rw[o6,o7];walk_at"cF";refine⟨b,n,rfl,ha b Ui,?_⟩;unfold d7 at h hx
  cases e:me n b with
  | false =>
   rw[e,if_neg (λz=>by cases z.1)]at hx;walk_at"w";exact⟨.inr trivial,x_,hx _ rfl⟩
  | true =>
   obtain⟨x,p,q,s,rfl,hn,hs⟩:=yr e;walk_at"w";rw[zU];by_cases hm:x∈zs
   . rw[if_neg (λz=>z.2 hm)]at hx;rw[if_pos (Uw hm)];exact⟨.inr trivial,x_,hx _ rfl⟩
   .
    rw[if_pos ⟨e,hm⟩]at h hx;rw[if_neg (by simpa using hm)];walk_at"w";refine⟨by rw[JO];exact Uj (show zs.length<1000 by omega) x_,?_⟩;rw[Ge hm];have e2:d7 n as (zs++[x]) (i+1)=d7 n as (gw (.tup [.str x,.int p,.int q,s])::zs) (i+1):=wx as _ _ _ λy=>by simp[gw,or_comm]
    refine wU as (i+1) (zs++[x]) _ _ (λc hc=>ha c (Ud _ hc)) (by rw[Ue,Us];omega) (λz=>h (by rw[<- e2];exact z)) λk z=>hx k (by rw[<- e2];exact z)
theorem lu:∀ds so xp,ds.length=2->cN ds so xp->dg xp (ds.map .d++List.replicate 3 .un) (Ry so):=by
 rintro ds so xp - ⟨d,n,rfl,ha,h,hx⟩;unfold dg
 cases d with
 | lst as =>
  obtain⟨hl,ha⟩:=ha as rfl;simp only[o5]at h hx;walk_at"w";intro a;rw[tJ];refine wU as 0 [] _ _ ha (by rw[UA];omega) (λz l0 l1 l2=>h (by rw[z];rfl)) λk z=>hx (some k) (by rw[z];rfl)
 | _ =>
  walk_at"w";exact⟨.inr trivial,x_,hx _ rfl⟩
def fS:Rw:=λds so xp=>∃(d:D)(n:Int),ds=[d,.int n]/\Gc d/\(j6 n d=none->so (.d .non))/\∀ k,j6 n d=some k->xp (NR "asks" (Mt k))
def gK(xp:Xc->Prop):W Fl:=(a8 (QV (HJ (aR (QU (l6 "list") (aj 0))) (aR (aG EF (a6 cg (aE (aj 0) aQ)) (wC (.int 20))))) (jx "NoRing" ["part","number"] xp (aE (wC (.str "asks")) (aE (wC .non) aQ))) bu)
  (lb (uG cN xp "look_at_asks" 1 (aj 0))))
theorem qr:∀ds so xp,ds.length=2->fS ds so xp->gK xp (ds.map .d++List.replicate 0 .un) (Ry so):=by
 rintro ds so xp - ⟨d,n,rfl,ha,h,hx⟩;have nl:∀ k,qo (NR "asks" (Mt k)).ds=true:=λk=>by cases k <;> rfl
 unfold gK
 cases d with
 | lst as =>
  obtain⟨hl,_⟩:=ha as rfl;simp only[j6]at h hx;walk_at"w";by_cases h20:20<as.length
  . rw[if_pos h20]at hx;rw[if_pos (by omega)];exact⟨.inr trivial,x_,hx _ rfl⟩
  . rw[if_neg h20]at h hx;rw[if_neg (by omega)];refine⟨_,n,rfl,ha,λe=>⟨rfl,h e⟩,λk e=>⟨nl k,hx k e⟩⟩
 | _ =>
  walk_at"w";refine⟨_,n,rfl,ha,λe=>⟨rfl,h e⟩,λk e=>⟨nl k,hx k e⟩⟩
def fT:Rw:=λds so xp=>∃d:D,ds=[d]/\(∀r a,d=.tup [r,a]->(∀rs,r=.lst rs->rs.length<=1000000)/\Gc a)/\(fH d=none->so (.d .non))/\∀p k,fH d=some (p,k)->xp (NR p (Mt k))
def gL(xp:Xc->Prop):W Fl:=(a8 (QV (QS (l5 (aR (QU (l6 "tuple") (aj 0)))) (aR (aG vt (a6 cg (aE (aj 0) aQ)) (wC (.int 2))))) (jx "NoRing" ["part","number"] xp (aE (wC (.str "ring")) (aE (wC .non) aQ))) bu)
  (a8 (lb (rk eH xp (aE (aG bF (aj 0) (wC (.int 0))) aQ)))
  (lb (rk fS xp (aE (aG bF (aj 0) (wC (.int 1))) (aE (br (a6 cg (aE (aG bF (aj 0) (wC (.int 0))) aQ))) aQ))))))
theorem qt:∀ds so xp,ds.length=1->fT ds so xp->gL xp (ds.map .d++List.replicate 0 .un) (Ry so):=by
 rintro ds so xp - ⟨d,rfl,hA,h,hx⟩;unfold gL
 cases d with
 | tup xs =>
  match xs,hA,h,hx with
  | [r,a],hA,h,hx =>
   obtain⟨hr,ha⟩:=hA r a rfl;simp only[fH]at h hx;walk_at"w";refine⟨r,rfl,hr,λe=>?_,λk e=>hx _ _ (by rw[e])⟩;rw[e]at h hx
   have hl:∃rs,r=.lst rs:=by
    cases r with
    |lst rs=>exact⟨rs,rfl⟩
    |_=>cases e
   obtain⟨rs,rfl⟩:=hl;walk_at"w";refine⟨a,_,rfl,ha,λe=>h (by simp only[M7,e,Option.map_none]),λk e=>hx _ _ (by simp only[M7,e,Option.map_some])⟩
  |[],_,_,hx=>walk_at"w"; exact⟨.inr trivial,x_,hx _ _ rfl⟩
  |[_],_,_,hx=>walk_at"w"; exact⟨.inr trivial,x_,hx _ _ rfl⟩
  | a::b::c::r,_,_,hx =>
   walk_at"w";rw[if_pos (by omega)];exact⟨.inr trivial,x_,hx _ _ rfl⟩
 | _ =>
  walk_at"w";exact⟨.inr trivial,x_,hx _ _ rfl⟩
def k9:FS:=λls so=>∃d:D,ls=[.d d]/\(∀r a,d=.tup [r,a]->(∀rs,r=.lst rs->rs.length<=1000000)/\Gc a)/\so (.d (.bl (fH d).isNone)) ls
def rP:W Fl:=(a8 (NF (λxt=>(lb (v5 fT xt (aE (aj 0) aQ)))) "NoRing" (cf (wC (.bl false))))
  (cf (wC (.bl true))))
theorem yA:Wq 1 0 k9 rP:=by
 rintro ls so - ⟨d,rfl,hd,h⟩;walk_at"rP";refine⟨d,rfl,hd,λe=>?_,λp k e=>?_⟩
 . walk_at"w";rw[e]at h;exact⟨_,aB aZ,h⟩
 . rw[e]at h;exact⟨rfl,_,aB aZ,h⟩
noncomputable def bI(t b:Int):Str:=if b=1 then cM t else(cM t++"/")++cM b
def gM:FS:=λls so=>∃t b:Int,ls=[.d (.tup [.int t,.int b])]/\t.natAbs<2^1900/\b.natAbs<2^1900/\so (.d (.str (bI t b))) ls
def iV:W Fl:=(a8 (QV (aR (aG oO (aG bF (aj 0) (wC (.int 1))) (wC (.int 1)))) (cf (a6 j4 (aE (aG bF (aj 0) (wC (.int 0))) aQ))) bu)
  (a8 (bP 1 (aG bF (aj 0) (wC (.int 0))))
  (a8 (bP 2 (aG bF (aj 0) (wC (.int 1))))
  (cf (LZ [(M6 (aj 1)),(wC (.str "/")),(M6 (aj 2))] Str.empty)))))
theorem tV{i:Int}(h:i.natAbs<2^1900):i.natAbs.log2<1920:=by
 rcases Nat.eq_zero_or_pos i.natAbs with e|e
 . rw[e];decide
 . exact Nat.lt_trans ((Nat.log2_lt xL).mpr h) x_
theorem J3(x:Str):Str.empty++x=x:=mh (by
 show(#[]++x.cps).toList=x.cps.toList
 simp)
theorem u9{n:Int}(h:n.natAbs<2^1900):(cM n).length<=601:=by
 have b:n.natAbs<10^600:=Uj h y_;rw[bf];rcases d8 n with⟨m,rfl,e⟩|⟨m,rfl,e⟩
 . have l:(mf m).length<=600:=(iP x_).mpr xL;rw[e];omega
 . have l:(mf (m+1)).length<=600:=(iP x_).mpr xL;rw[e,Uk];omega
theorem rQ:Wq 1 2 gM iV:=by
 rintro ls so - ⟨t,b,rfl,ht,hb,h⟩;walk_at"iV";have l1:=u9 ht;have l2:=u9 hb;have e:sizeLine=16777216:=by decide
 have l3:(Str.ofString "/").length=1:=by decide +kernel
 by_cases c:b=1
 . rw[if_pos c];unfold bI at h;rw[if_pos c]at h;exact⟨tV ht,_,aB aZ,h⟩
 . rw[if_neg c,J3];have a1:=Vl (cM t) (Str.ofString "/");have a2:=Vl (cM t++Str.ofString "/") (cM b);unfold bI at h;rw[if_neg c]at h;unfold cM at *;exact⟨tV ht,xL,xL,tV hb,xL,xL,_,aB aZ,h⟩
def fU:FS:=λls so=>∃x:Str,ls=[.d (.str x)]/\x.length<=100000/\(∀c∈x.cps.toList,c<128)/\so (.d (R5 (aI x))) ls
def p7:W Fl:=(cf (Kl (aR (aG Fd (a6 j4 (aE (aj 2) aQ)) (aj 0))) (aj 2) (wC .non)))
def p8:W L:=(l8 (wC (.str "0")) [(sF,(aj 0)),(sF,(wC (.str "9")))])
def p9:W Fl:=(a8 (bP 2 (br (a6 v9 (aE (aj 0) aQ))))
  p7)
def kj:W Fl:=(a8 (QV (QS (l5 (aR (jv vq vq (wC (.int 1)) (a6 cg (aE (aj 1) aQ)) (wC (.int 60))))) (l5 (aR (a6 Ip (aE (br (jN 1 [] (x8 (aj 1)) (bL 0) g9 p8)) aQ))))) (cf (wC .non)) bu)
  p9)
def pD:W Fl:=(a8 (bP 1 (br (Kl (aR (ye (aj 0) "-")) (gH (aj 0) (some (wC (.int 1))) none) (aj 0))))
  kj)
theorem Dv{x f:Str}{so:L->List L->Prop}(hf:f.cps.toList=gn x.cps.toList)(hx:x.length<=100000)(ha:∀c∈x.cps.toList,c<128)(h:so (.d (R5 (aI x))) [.d (.str x)]):kj [.d (.str x),.d (.str f),.un] (bB [.d (.str x)] so):=by
 have fl:f.length<=100000:=by
  rw[bf]at hx;rw[bf,hf];unfold gn;split
  . rw[List.length_tail];omega
  . exact hx
 have fa:(f.cps.all λx=>decide (x<128))=true:=by
  rw[<- Wi,US];intro c hc;rw[hf]at hc;refine Uw (ha c ?_);unfold gn at hc;split at hc
  . exact List.mem_of_mem_tail hc
  . exact hc
 have e1:sizeLine=16777216:=by decide
 have el:=bf f;rw[hf]at el;walk_at"kj";refine⟨xL,?_⟩;by_cases c1:1<=(f.length:Int)
 .
  rw[if_pos c1];by_cases c2:(f.length:Int)<=60
  .
   rw[if_neg (λz=>z c2)];refine⟨fa,by unfold fE;rw[tu,<- bf];omega,?_⟩;unfold fE;refine ff (enc:=λc=>D.str ⟨#[c]⟩) (h:=λc=>D.bl (tM c)) _ _ _ (λc hc Q q=>?_) λl'=>?_
   .
    walk_at"p8";unfold tM at q
    cases e1:iM (Str.ofString "0") ⟨#[c]⟩with
    |false=>rw[e1,V2]at q;rw[if_neg (by simp)];exact q
    |true=>rw[e1,Vr]at q;rw[if_pos rfl];exact q
   .
    walk_at"w";intro aa;refine⟨f.cps.toList.map tM,by rw[VW];rfl,?_⟩;have e9:(f.cps.toList.map tM).all id=f.cps.toList.all tM:=by rw[List.all_map];rfl
    rw[e9,hf];dsimp only;by_cases d:(gn x.cps.toList).all tM=true
    .
     rw[if_neg (by rw[d];decide)];obtain⟨n,r1,r2,r3,r4⟩:=Dc ((uR _).mp d) (λz=>by rw[z]at el;simp at el;omega) xL;rw[r4]at h;walk_at"p9";refine⟨n,r2,r1,?_⟩;walk_at"p7";refine⟨Gg r3,?_⟩;by_cases g:cM n=x
     . rw[if_pos g]at h;rw[if_pos (show Str.ofString (toString n)=x from g)];exact⟨_,aB aZ,h⟩
     . rw[if_neg g]at h;rw[if_neg (show ¬Str.ofString (toString n)=x from g)];exact⟨_,aB aZ,h⟩
    . rw[if_pos (VF.mpr d)];rw[o8 (λz=>d ((uR _).mpr z.1))]at h;exact⟨_,aB aZ,h⟩
  . rw[if_pos c2];rw[o8 (λz=>c2 xL)]at h;exact⟨_,aB aZ,h⟩
 . rw[if_neg c1];rw[o8 (λz=>z.2.1 (List.eq_nil_of_length_eq_zero xL))]at h;exact⟨_,aB aZ,h⟩
theorem wV:Wq 1 2 fU pD:=by
 rintro ls so - ⟨x,rfl,hx,ha,h⟩;walk_at"pD";rw[JP];by_cases c:x.cps.toList.head?=some 45
 .
  rw[if_pos (Uw c)];have e:sizeLine=16777216:=by decide
  exact⟨xL,Dv (wB c) hx ha h⟩
 . rw[if_neg (by rw[Uy c];decide)];exact Dv (zX c) hx ha h
noncomputable def MJ:List Str->Option (Int×Int)
 |[p]=>(aI p).map λt=>(t,1)
 | [p,q]=>match aI p,aI q with
  |some t,some b=>if 2<=b/\Int.gcd t b=1 then some (t,b)else none
  |_,_=>none
 |_=>none
noncomputable def D8(x:Str):Option (Int×Int):=MJ (Txt.split x (Str.ofString "/"))
noncomputable def Kt:Option (Int×Int)->D
 |some p=>.tup [.int p.1,.int p.2]
 |none=>.non
def iW:FS:=λls so=>∃ x:Str,ls=[.d (.str x)]/\x.length<=100000/\(∀ c∈x.cps.toList,c < 128)/\(∀ p∈Txt.split x (Str.ofString "/"),∀ c∈p.cps.toList,c < 128)/\so (.d (Kt (D8 x))) ls
def bW:W Fl:=(cf (Kl (HJ (aR (bJ fQ (aE (aj 1) aQ))) (aR (aG oO (bJ gM (aE (aj 1) aQ)) (aj 0)))) (aj 1) (wC .non)))
def qa:W L:=(bJ fU (aE (aj 0) aQ))
def qc:W Fl:=(a8 (QV (aR (aG oO (a6 cg (aE (aj 1) aQ)) (wC (.int 1)))) (bP 1 (br (aG zh (aj 1) (uo (aE (wC (.int 1)) aQ))))) bu)
  bW)
def pE:W Fl:=(a8 (bP 1 (br (a6 qV (aE (br (jN 1 [] (D4 (j3 (aj 0) "/")) (bL 0) g9 qa)) aQ))))
  qc)
theorem yB(n:Int):∀c∈(cM n).cps.toList,c<128:=by
 intro c hc;rcases d8 n with⟨m,_,e⟩|⟨m,_,e⟩
 . rw[e]at hc;have:=eF m c hc;omega
 .
  rw[e]at hc;rcases Uo.mp hc with rfl|hc
  . decide
  . have:=eF _ c hc;omega
theorem Dw(t b:Int):∀c∈(bI t b).cps.toList,c<128:=by
 unfold bI;split
 . exact yB t
 .
  intro c hc;have e:(Str.ofString "/").cps.toList=[47]:=by decide +kernel
  have hc:c∈((cM t).cps++(Str.ofString "/").cps++(cM b).cps).toList:=hc;rw[UR,UR,e]at hc;rcases Ur.mp hc with hc|hc
  .
   rcases Ur.mp hc with hc|hc
   . exact yB t c hc
   . rw[Ux.mp hc];decide
  . exact yB b c hc
theorem wW{x:Str}{ds:List D}{so:L->List L->Prop}(hb:mU (.tup ds)=false)(h:so (.d .non) [.d (.str x)]):bW [.d (.str x),.d (.tup ds)] (bB [.d (.str x)] so):=by walk_at"bW";refine⟨_,rfl,?_⟩;rw[hb];walk_at"w";exact⟨_,aB aZ,h⟩
theorem yC{x:Str}{t b:Int}{so:L->List L->Prop}(ha:∀c∈x.cps.toList,c<128)(ht:t.natAbs<2^1900)(hb:b.natAbs<2^1900)(hr:mU (.tup [.int t,.int b])=true)(h1:bI t b=x->so (.d (.tup [.int t,.int b])) [.d (.str x)])(h2:bI t b≠x->so (.d .non) [.d (.str x)]) :
  bW [.d (.str x),.d (.tup [.int t,.int b])] (bB [.d (.str x)] so):=by
 walk_at"bW";refine⟨_,rfl,?_⟩;rw[hr];walk_at"w";refine⟨t,b,rfl,ht,hb,?_⟩;walk_at"w";refine⟨fJ (Dw t b),fJ ha,?_⟩;by_cases c:bI t b=x
 . rw[if_pos c];exact⟨_,aB aZ,h1 c⟩
 . rw[if_neg c];exact⟨_,aB aZ,h2 c⟩
theorem wX:Wq 1 1 iW pE:=by
 rintro ls so - ⟨x,rfl,hx,ha,hp,h⟩;have e1:sizeLine=16777216:=by decide
 walk_at"pE";refine⟨G4 hx,λa=>?_⟩;walk_at"w";have ol:=(G4 hx).2.2;refine⟨ol,?_⟩;refine ff (enc:=D.str) (h:=λp=>R5 (aI p)) _ _ _ (λp hc Q q=>?_) λl'=>?_
 . walk_at"qa";refine⟨p,rfl,Uv (PyProof.Rows.part_short hc) hx,hp p hc,?_⟩;walk_at"w";exact q
 .
  intro aa;unfold D8 at h;generalize hs:Txt.split x (Str.ofString "/")=ps at *;rw[Vj];walk_at"qc";have pz:=PyProof.Rows.split_pos x (Str.ofString "/");rw[hs]at pz;have wb:∀{p:Str}{t:Int},aI p=some t->t.natAbs<2^1900:=λe=>Nat.lt_trans (j7 e).2 y_
  match ps,hs with
  |[],_=>exact absurd pz x_
  | [p],hs =>
   obtain rfl:=JQ hs;rw[if_pos (show((([x]:List Str).length:Nat):Int)=1 from rfl)];refine⟨x_,v6,v6,by show 2<=_;decide,?_⟩;have h:so (.d (Kt ((aI x).map λt=>(t,1)))) [.d (.str x)]:=h
   cases e:aI x with
   | none =>
    rw[e]at h;show bW [_,.d (.tup (R5 (aI x)::_))] _;rw[e];exact wW rfl h
   | some t =>
    rw[e]at h;show bW [_,.d (.tup (R5 (aI x)::_))] _;rw[e];refine yC ha (wb e) x_ ?_ (λ_=>h) λz=>absurd (j7 e).1.symm ?_
    . unfold mU;simp
    . unfold bI at z;rwa [if_pos rfl]at z
  | [p,q],hs =>
   have hxx:=JR hs;rw[if_neg (show ¬((([p,q]:List Str).length:Nat):Int)=1 from λz=>by cases z)];show bW [_,.d (.tup [R5 (aI p),R5 (aI q)])] _
   have h:so (.d (Kt (match aI p,aI q with|some t,some b=>if 2<=b/\Int.gcd t b=1 then some (t,b)else none|_,_=>none))) [.d (.str x)]:=h
   cases e:aI p with
   | none =>
    rw[e]at h;exact wW (uN λi j z=>by cases z) h
   | some t =>
    cases e':aI q with
    | none =>
     rw[e,e']at h;exact wW (uN λi j z=>by cases z) h
    | some b =>
     rw[e,e']at h;dsimp only at h;by_cases c:2<=b/\Int.gcd t b=1
     .
      rw[if_pos c]at h;refine yC ha (wb e) (wb e') ?_ (λ_=>h) λz=>absurd ?_ z
      . unfold mU;simp;omega
      . unfold bI;rw[if_neg (by omega),hxx,(j7 e).1,(j7 e').1]
     .
      rw[if_neg c]at h;by_cases g:mU (.tup [.int t,.int b])=true
      .
       refine yC ha (wb e) (wb e') g (λz=>?_) λ_=>h;have b1:b=1:=by unfold mU at g;simp at g;omega
       unfold bI at z;rw[if_pos b1,hxx,(j7 e).1]at z;have:=Vy Str.length z;rw[Vl,Vl]at this;have l3:(Str.ofString "/").length=1:=by decide +kernel
       omega
      . exact wW (VF.mpr g) h
  | p::q::r::l,hs =>
   rw[if_neg (by simp;omega)];exact wW (uN λi j z=>by have:=Vy List.length (D.tup.inj z);simp at this) h
noncomputable def gh(x:Str):D:=Kt (D8 x)
noncomputable def gv(x:Str):D:=match Txt.split x (Str.ofString " ")with
 |w::ws=>if w=Str.ofString "rooms" then .lst (ws.map gh)else .non
 |[]=>.non
noncomputable def Dx(d:D):D:=if bZ d=none then d else .non
noncomputable def dh(x:Str):D:=Dx (gv x)
def my:FS:=λls so=>∃x:Str,ls=[.d (.str x)]/\As 100000 x/\(gv x=.non->so (.d .non) ls)/\∀rs,gv x=.lst rs->∀a,so (.own a rs) ls
def qe:W L:=(bJ iW (aE (aj 0) aQ))
def pF:W Fl:=(a8 (bP 1 (br (j3 (aj 0) " ")))
  (cf (Kl (aR (aG oO (aG bF (aj 1) (wC (.int 0))) (wC (.str "rooms")))) (jN 1 [] (D4 (gH (aj 1) (some (wC (.int 1))) none)) (bL 0) g9 qe) (wC .non))))
theorem mz(rs:List D):bZ (.lst rs)=none↔(2<=rs.length/\rs.length<=12)/\∀r∈rs,R1 r=true:=by
 unfold bZ;dsimp only;constructor
 .
  intro h;split at h
  .
   rename_i c;refine⟨c,λr hr=>?_⟩
   cases e:rs.findIdx? (λr=>!R1 r)with
   |none=>simpa using List.findIdx?_eq_none_iff.mp e r hr
   |some k=>rw[e]at h;cases h
  . cases h
 . rintro⟨c,h⟩;rw[if_pos c,List.findIdx?_eq_none_iff.mpr λr hr=>by rw[h r hr];rfl];rfl
theorem MK{x:Str}{t b:Int}(h:D8 x=some (t,b)):1<=b/\Int.gcd t b=1:=by
 unfold D8 at h
 match hp:Txt.split x (Str.ofString "/"),h with
 | [p],h =>
  have h:(aI p).map (λt=>(t,(1:Int)))=some (t,b):=h
  cases e:aI p with
  |none=>rw[e]at h;cases h
  |some n=>rw[e]at h;cases h;exact⟨x_,Int.gcd_one_right _⟩
 | [p,q],h =>
  have h:(match aI p,aI q with|some t,some b=>if 2<=b/\Int.gcd t b=1 then some (t,b)else none|_,_=>none)=some (t,b):=h
  split at h
  .
   split at h
   . rename_i c;cases h;exact⟨xL,c.2⟩
   . cases h
  . cases h
theorem ib(x:Str):gh x=.non∨∃t b:Int,gh x=.tup [.int t,.int b]/\mU (.tup [.int t,.int b])=true:=by
 unfold gh
 cases e:D8 x with
 |none=>exact .inl rfl
 | some p =>
  obtain⟨h1,h2⟩:=MK (t:=p.1) (b:=p.2) e;refine .inr ⟨p.1,p.2,rfl,?_⟩;show(decide (1<=p.2) && decide ((Int.gcd p.1 p.2:Int)=1))=true;rw[Uw h1,Uw xL];rfl
theorem ic(x y:Str):∃w ws,Txt.split x y=w::ws:=by
 cases e:Txt.split x y with
 |nil=>exact absurd e (nD x y)
 |cons w ws=>exact⟨w,ws,rfl⟩
theorem va{α:Type}(w:α)(ws:List α):m9 (w::ws) (some 1) none=ws:=by unfold m9;rw[HT.sIx_none,show HT.sIx (w::ws).length 0 (some 1)=1 by show min 1 (ws.length+1)=1;omega];simp
theorem wY:Wq 1 1 my pF:=by
 rintro ls so - ⟨x,rfl,ax,h0,h⟩;have sp:=pZ ax (y:=Str.ofString " ") x_ y_;have pa:=fK (y:=Str.ofString " ") ax;obtain⟨w,ws,e⟩:=ic x (Str.ofString " ");unfold gv at h0 h;rw[e]at h0 h pa;have sl:(w::ws).length<=sizeLine:=by have:=sp.2.2;rwa [e]at this
 walk_at"pF";refine⟨sp,λa0=>?_⟩;rw[e,UC];have aw:As 100000 w:=pa w Ui;refine⟨.str w,uI,wH aw,wH (n:=5) (a7 y_),?_⟩;rw[uA];by_cases c:w=Str.ofString "rooms"
 .
  rw[if_pos (Uw c)];intro a1;rw[va];dsimp only at h0 h;rw[if_pos c]at h0 h;rw[Uk]at sl;refine⟨by rw[tu];omega,ff (enc:=D.str) (h:=gh) ws [] _ (λz hz Q q=>?_) λl' a=>?_⟩
  . have az:=pa z (Ud _ hz);walk_at"qe";refine⟨z,rfl,az.len,az.asc,zZ az.asc,?_⟩;walk_at"w";exact q
  . exact⟨_,aB aZ,h _ rfl _⟩
 . rw[if_neg (by rw[Uy c];decide)];dsimp only at h0 h;rw[if_neg c]at h0;exact⟨_,aB aZ,h0 rfl⟩
noncomputable def iG(x:Str):D:=match Txt.split x (Str.ofString " ")with
 |[w0,w1,w2,w3,w4]=>if w0=Str.ofString "ask" then .tup [.str w1,R5 (aI w2),R5 (aI w3),gh w4]else .non
 |_=>.non
noncomputable def Gr(n:Int)(tk:List Str)(d:D):D:=if me n d=true/\gw d∉tk then d else .non
noncomputable def Gs(n:Int)(tk:List Str)(x:Str):D:=Gr n tk (iG x)
def rR:FS:=λls so=>∃x:Str,ls=[.d (.str x)]/\As 100000 x/\so (.d (iG x)) ls
def tX:W Fl:=(cf (uo (aE (aG bF (aj 1) (wC (.int 1))) (aE (br (bJ fU (aE (aG bF (aj 1) (wC (.int 2))) aQ))) (aE (br (bJ fU (aE (aG bF (aj 1) (wC (.int 3))) aQ))) (aE (br (bJ iW (aE (aG bF (aj 1) (wC (.int 4))) aQ))) aQ))))))
def tY:W Fl:=(a8 (QV (QS (aR (aG vt (a6 cg (aE (aj 1) aQ)) (wC (.int 5)))) (aR (aG vt (aG bF (aj 1) (wC (.int 0))) (wC (.str "ask"))))) (cf (wC .non)) bu)
  tX)
def vb:W Fl:=(a8 (bP 1 (br (j3 (aj 0) " ")))
  tY)
theorem Gu{α:Type}(l:List α):(∃a b c d e,l=[a,b,c,d,e])∨l.length≠5:=by
 match l with
 |[a,b,c,d,e]=>exact .inl ⟨a,b,c,d,e,rfl⟩
 |[]=>exact .inr v6
 |[_]=>exact .inr v6
 |[_,_]=>exact .inr v6
 |[_,_,_]=>exact .inr v6
 |[_,_,_,_]=>exact .inr v6
 |_::_::_::_::_::_::r=>exact .inr v6
theorem vc{x:Str} (h:(Txt.split x (Str.ofString " ")).length≠5):iG x=.non:=by
 unfold iG;split
 . rename_i e;rw[e]at h;exact absurd rfl h
 . rfl
theorem A6:Wq 1 1 rR vb:=by
 rintro ls so - ⟨x,rfl,ax,h⟩;have sp:=pZ ax (y:=Str.ofString " ") x_ y_;have pa:=fK (y:=Str.ofString " ") ax;walk_at"vb";refine⟨sp,λa0=>?_⟩;walk_at"tY";rcases Gu (Txt.split x (Str.ofString " "))with⟨w0,w1,w2,w3,w4,e⟩ | hl
 .
  unfold iG at h;rw[e]at h pa ⊢;dsimp only at h;rw[if_neg (by simp)];have p:∀w∈[w0,w1,w2,w3,w4],As 100000 w:=pa;refine⟨_,rfl,wH (p w0 v6),wH (n:=3) (a7 y_),?_⟩;rw[uA];by_cases c:w0=Str.ofString "ask"
  . rw[if_neg (by rw[Uw c];decide)];rw[if_pos c]at h;have p2:=p w2 v6;have p3:=p w3 v6;have p4:=p w4 v6;walk_at"tX";refine⟨w2,rfl,p2.len,p2.asc,?_⟩;walk_at"w";refine⟨w3,rfl,p3.len,p3.asc,?_⟩;walk_at"w";refine⟨w4,rfl,p4.len,p4.asc,zZ p4.asc,?_⟩;walk_at"w";exact⟨x_,_,aB aZ,h⟩
  . rw[if_pos (Uy c)];rw[if_neg c]at h;exact⟨_,aB aZ,h⟩
 . rw[vc hl]at h;rw[if_pos (by omega)];exact⟨_,aB aZ,h⟩
noncomputable def mB(n:Int):List D->List Str->Nat->Nat ⊕ List D
 |acc,[],_=>.inr acc
 |acc,r::rs,i=>if(me n (iG r)=true/\gw (iG r)∉acc.map gw)/\i<=20 then mB n (acc++[iG r]) rs (i+1)else .inl i
noncomputable def yD(d:D)(rs:List Str):Nat ⊕ (List D×List D):=match d with
 | .lst rooms=>match mB (rooms.length:Int) [] rs 1 with
  |.inl k=>.inl k
  |.inr as=>.inr (rooms,as)
 |_=>.inl 0
noncomputable def rS(x:Str):Nat ⊕ (List D×List D):=match Txt.split x (Str.ofString "\n")with
 |[]=>.inl 0
 |r::rs=>yD (dh r) rs
noncomputable def J4:Nat ⊕ (List D×List D)->D
 |.inl k=>.tup [.non,.int (k:Int)]
 |.inr p=>.tup [.tup [.lst p.1,.lst p.2],.non]
noncomputable def NT(k:Nat):Xc:=⟨"NoText",["row"],[.int (k:Int)]⟩
def eh:Rw:=λds so xp=>∃d:D,ds=[d]/\(∀x,d=.str x->As 100000 x)/\(∀x p,d=.str x->rS x=.inr p->∀a b,so (.bx none [.own a p.1,.own b p.2]))/\(∀x k,d=.str x->rS x=.inl k->xp (NT k))/\((∀x,d≠.str x)->xp (NT 0))
def eI(xp:Xc->Prop):W Fl:=(QV (l5 (aR (AK 2 (bJ k9 (aE (aj 2) aQ))))) (jx "NoText" ["row"] xp (aE (aj 3) aQ)) bu)
def iX(xp:Xc->Prop):W Fl:=(a8 (lb (Cf 2 (wC (.int 1)) (bJ rR (aE (aj 4) aQ))))
  (eI xp))
def nI(xp:Xc->Prop):W Fl:=(cf (um 2))
def nJ(xp:Xc->Prop):W Fl:=(a8 (D5 (CI (gH (aj 1) (some (wC (.int 1))) none)) (m7 [3,4]) (iX xp))
  (nI xp))
def iY(xp:Xc->Prop):W Fl:=(a8 (QV (l5 (aR (AK 2 (bJ k9 (aE (aj 2) aQ))))) (jx "NoText" ["row"] xp (aE (wC (.int 0)) aQ)) bu)
  (nJ xp))
def nK(xp:Xc->Prop):W Fl:=(a8 (bP 2 (Iu (aE (bJ my (aE (aG bF (aj 1) (wC (.int 0))) aQ)) (aE (jo aQ) aQ))))
  (iY xp))
def nL(xp:Xc->Prop):W Fl:=(a8 (bP 1 (br (j3 (aj 0) "\n")))
  (nK xp))
def mC(xp:Xc->Prop):W Fl:=(a8 (QV (l5 (aR (QU (l6 "str") (aj 0)))) (jx "NoText" ["row"] xp (aE (wC (.int 0)) aQ)) bu)
  (nL xp))
theorem Gv(d:D):Dx d=.non∨∃rs,Dx d=.lst rs/\bZ (.lst rs)=none:=by
 unfold Dx;split
 .
  rename_i h
  cases d with
  |lst rs=>exact .inr ⟨rs,rfl,h⟩
  |_=>cases h
 . exact .inl rfl
theorem Gw(n:Int)(tk:List Str)(d:D):(Gr n tk d=.non/\¬(me n d=true/\gw d∉tk))∨(Gr n tk d=d/\me n d=true/\gw d∉tk):=by
 unfold Gr;split
 . rename_i h;exact .inr ⟨rfl,h⟩
 . rename_i h;exact .inl ⟨rfl,h⟩
theorem mD(n:Int)(a:D):∀(as:List D)(tk:List Str)(i:Nat),d7 n as tk i=none->(d7 n (as++[a]) tk i=none↔me n a=true/\gw a∉as.map gw/\gw a∉tk)
 | [],tk,i,_=>by
  show(if me n a=true/\gw a∉tk then d7 n [] (gw a::tk) (i+1)else some i)=none↔_
  by_cases c:me n a=true/\gw a∉tk
  . rw[if_pos c];exact⟨λ_=>⟨c.1,v6,c.2⟩,λ_=>rfl⟩
  . rw[if_neg c];exact⟨(λz=>by cases z),λz=>absurd ⟨z.1,z.2.2⟩ c⟩
 | b::as,tk,i,h=>by
  have h:(if me n b=true/\gw b∉tk then d7 n as (gw b::tk) (i+1)else some i)=none:=h
  show(if me n b=true/\gw b∉tk then d7 n (as++[a]) (gw b::tk) (i+1)else some i)=none↔_
  by_cases c:me n b=true/\gw b∉tk
  . rw[if_pos c]at h ⊢;rw[mD n a as _ _ h];simp only[UC,Uo,not_or];exact⟨λz=>⟨z.1,⟨z.2.2.1,z.2.1⟩,z.2.2.2⟩,λz=>⟨z.1,z.2.1.2,z.2.1.1,z.2.2⟩⟩
  . rw[if_neg c]at h;cases h
theorem Dy{rooms acc:List D}{a:D}(hr:bZ (.lst rooms)=none)(ha:d7 (rooms.length:Int) acc [] 0=none):fH (.tup [.lst rooms,.lst (acc++[a])])=none↔(me (rooms.length:Int) a=true/\gw a∉acc.map gw)/\acc.length+1<=20:=by
 unfold fH;dsimp only;rw[hr];dsimp only;simp only[j6,M7,Ue,Us];by_cases c:20<acc.length+1
 . rw[if_pos c];exact⟨λz=>(by cases z),λz=>by omega⟩
 . rw[if_neg c];simp only[o5,Option.map_eq_none_iff];rw[mD _ _ _ _ _ ha];exact⟨λz=>⟨⟨z.1,z.2.1⟩,xL⟩,λz=>⟨z.1.1,z.1.2,v6⟩⟩
theorem ML{x:Str}{rs:List D}(ax:As 100000 x)(h:gv x=.lst rs):rs.length<=1000000:=by
 have sl:=PyProof.Rows.split_le x (Str.ofString " ");have lx:=ax.len;obtain⟨w,ws,e⟩:=ic x (Str.ofString " ");unfold gv at h;rw[e]at h sl;dsimp only at h;split at h
 . cases h;rw[tu];rw[Uk]at sl;omega
 . cases h
theorem MM{x:Str}(ax:As 100000 x):Ks (iG x):=by
 rcases Gu (Txt.split x (Str.ofString " "))with⟨w0,w1,w2,w3,w4,e⟩ | hl
 .
  have pa:=fK (y:=Str.ofString " ") ax;unfold iG;rw[e]at pa ⊢;dsimp only;split
  .
   intro xs ex a ha z ez;cases ex;cases ha;cases ez;have p1:=pa w1 v6;refine⟨?_,?_⟩
   . rw[<- Wi,US];exact λc hc=>Uw (p1.asc c hc)
   . have:=p1.len;show w1.length<1000000;omega
  . intro xs ex;cases ex
 . rw[vc hl];intro xs ex;cases ex
theorem Dz(xs:List D):lG xs=wu 1 xs:=by
 have key:∀(xs:List D)(k:Nat),((xs.zipIdx k).map λp=>D.tup [.int ((p.2+1:Nat):Int),p.1])=wu (k+1) xs:=by
  intro xs
  induction xs with
  |nil=>intro k;rfl
  | cons x xs ih =>
   intro k;rw[List.zipIdx_cons,UC,ih (k+1)];rfl
 exact key xs 0
theorem DA{xp:Xc->Prop}{x1:D}{x:Str}{rooms:List D}{b0 a1:Addr}{so:Fl->Ev->Prop}(hr:bZ (.lst rooms)=none)(hrl:rooms.length<=1000000):∀(rs:List Str)(i:Nat)(acc:List D)(l3 l4:L),(∀r∈rs,As 100000 r)->acc.length+1=i->i<=22->(∀a∈acc,Ks a)->d7 (rooms.length:Int) acc [] 0=none->nk l3=true->nk l4=true ->
  (∀as,mB (rooms.length:Int) acc rs i=.inr as->∀l3 l4,so .nx [.d (.str x),.d x1,.bx none [.own b0 rooms,.own a1 as],l3,l4])->(∀k,mB (rooms.length:Int) acc rs i=.inl k->xp (NT k)) ->
  iJ (m7 [3,4]) (iX xp) (wu i (rs.map D.str)) [.d (.str x),.d x1,.bx none [.own b0 rooms,.own a1 acc],l3,l4] so
 |[],i,acc,l3,l4,_,_,_,_,_,_,_,h,_=>h acc rfl l3 l4
 | r::rs,i,acc,l3,l4,ha,hi,hi2,hA,hb,f3,f4,h,hx=>by
  rw[UC,o6,o7];walk_at"iX";refine⟨⟨1,rfl,a1,acc,rfl,trivial⟩,r,rfl,ha r Ui,?_⟩;walk_at"w";have e0:sizeLine=16777216:=by decide
  refine⟨1,rfl,a1,acc,rfl,xL,?_⟩;show eI xp [.d (.str x),.d x1,.bx none [.own b0 rooms,.own a1 (acc++[iG r])],.d (.int (i:Int)),.d (.str r)] _;walk_at"eI"
  have hA':∀a∈acc++[iG r],Ks a:=λa hm=>by
   rcases Ur.mp hm with hm|hm
   . exact hA a hm
   . rw[Ux.mp hm];exact MM (ha r Ui)
  refine⟨_,rfl,λr' a' ez=>?_,?_⟩
  . cases ez;exact⟨(λrs z=>by cases z;exact hrl),λas z=>by cases z;exact⟨by rw[Ue,Us];omega,hA'⟩⟩
  refine⟨rfl,?_⟩
  have es:mB (rooms.length:Int) acc (r::rs) i=if(me (rooms.length:Int) (iG r)=true/\gw (iG r)∉acc.map gw)/\i<=20 then mB (rooms.length:Int) (acc++[iG r]) rs (i+1)else .inl i:=rfl
  have sn:=Dy (a:=iG r) hr hb;by_cases c:(me (rooms.length:Int) (iG r)=true/\gw (iG r)∉acc.map gw)/\i<=20
  . rw[if_pos c]at es;rw[es]at h hx;rw[sn.mpr ⟨c.1,xL⟩];walk_at"w";refine DA hr hrl rs (i+1) (acc++[iG r]) _ _ (λz hz=>ha z (Ud _ hz)) (by rw[Ue,Us,hi]) xL hA' ?_ rfl rfl h hx;exact(mD _ _ _ _ _ hb).mpr ⟨c.1.1,c.1.2,v6⟩
  .
   rw[if_neg c]at es;rw[es]at hx;have:fH (.tup [.lst rooms,.lst (acc++[iG r])])≠none:=λz=>c (by have:=sn.mp z;exact⟨this.1,xL⟩)
   have eN:(fH (.tup [.lst rooms,.lst (acc++[iG r])])).isNone=false:=by
    cases e:fH (.tup [.lst rooms,.lst (acc++[iG r])])with
    |none=>exact absurd e this
    |some k=>rfl
   rw[eN];walk_at"w";exact⟨.inr trivial,x_,hx i rfl⟩
theorem vd:∀ds so xp,ds.length=1->eh ds so xp->mC xp (ds.map .d++List.replicate 4 .un) (Ry so):=by
 rintro ds so xp - ⟨d,rfl,hd,h,hx,hn⟩;unfold mC;by_cases c:∃x,d=.str x
 case neg =>
  have e:mR "str" d=false:=by cases d<;>first|rfl|exact absurd ⟨_,rfl⟩ c
  walk_at"w";rw[if_pos e];exact⟨.inr trivial,x_,hn λx z=>c ⟨x,z⟩⟩
 obtain⟨x,rfl⟩:=c;have ax:=hd x rfl;have h:=λp=>h x p rfl;have hx:=λk=>hx x k rfl;have sp:=pZ ax (y:=Str.ofString "\n") x_ y_;have pa:=fK (y:=Str.ofString "\n") ax;obtain⟨r0,rs,e⟩:=ic x (Str.ofString "\n");have sl:=PyProof.Rows.split_le x (Str.ofString "\n");have lx:=ax.len;unfold rS at h hx;rw[e]at h hx pa sl;dsimp only at h hx;walk_at"w";walk_at"nL";refine⟨sp,λa0=>?_⟩;rw[e,UC];walk_at"nK";refine⟨r0,rfl,pa r0 Ui,λer=>?_,λrooms er b0=>?_⟩
 .
  refine⟨x_,λa1=>⟨x_,?_⟩⟩;have eg:dh r0=.non:=by unfold dh;rw[er];rfl
  rw[eg]at hx;walk_at"iY";refine⟨_,rfl,λr a ez=>?_,?_⟩
  . cases ez;exact⟨(λrs z=>by cases z),λas z=>by cases z;exact⟨x_,λa ha=>by cases ha⟩⟩
  . walk_at"w";exact⟨.inr trivial,x_,hx 0 rfl⟩
 .
  have hrl:=ML (pa r0 Ui) er;refine⟨x_,λa1=>⟨x_,?_⟩⟩;walk_at"iY";refine⟨_,rfl,λr a ez=>?_,?_⟩
  . cases ez;exact⟨(λrs z=>by cases z;exact hrl),λas z=>by cases z;exact⟨x_,λa ha=>by cases ha⟩⟩
  refine⟨rfl,?_⟩;have eb:fH (.tup [.lst rooms,.lst []])=(bZ (.lst rooms)).map λk=>((Str.ofString "rooms" : Str),k):=by unfold fH;dsimp only;cases bZ (.lst rooms)<;>rfl
  rw[eb]
  cases hr:bZ (.lst rooms)with
  | some k =>
   have eg:dh r0=.non:=by unfold dh;rw[er];exact if_neg (by rw[hr];exact λz=>by cases z)
   rw[eg]at hx;walk_at"w";exact⟨.inr trivial,x_,hx 0 rfl⟩
  | none =>
   have eg:dh r0=.lst rooms:=by unfold dh;rw[er];exact if_pos hr
   rw[eg]at h hx;rw[Option.map_none,Option.isNone_none];walk_at"w";walk_at"nJ";intro a2;rw[va,Dz];refine DA hr hrl rs 1 [] _ _ (λz hz=>pa z (Ud _ hz)) rfl x_ (λa ha=>by cases ha) rfl rfl rfl (λas eas l3 l4=>?_) λk ek=>hx k (by unfold yD;dsimp only;rw[ek]);walk_at"nI";exact h (rooms,as) (by unfold yD;dsimp only;rw[eas]) _ _
def cz:FS:=λls so=>∃(ns:List Int)(k:Int),ls=[.d (.lst (ns.map .int)),.d (.int k)]/\0<=k/\k<=100/\∀a xs,gZ xs->so (.own a xs) ls
def kl:W Fl:=(a8 (bP 2 (wC (.int 0)))
  (a8 (QV (aR (aG yW (aj 1) (a6 cg (aE (aj 0) aQ)))) (bP 2 (aG bF (aj 0) (aj 1))) bu)
  (cf (jo (aE (aj 2) (aE (aG jM (aG aW (aG aW (aG jM (aj 2) (wC (.int 2147483587))) (aG jX (aG jX (wC (.int 48271)) (aj 1)) (aj 1))) (wC (.int 13))) (wC (.int 2147483587))) (aE (aG Km (aj 2) (aG AA (wC (.int 10)) (wC (.int 18)))) aQ)))))))
theorem sM:Wq 2 1 cz kl:=by
 rintro ls so - ⟨ns,k,rfl,h0,h1,h⟩;unfold kl
 have fin:∀(c:Int)(Z:Ev)(e:Z=[.d (.lst (ns.map .int)),.d (.int k),.d (.int c)]),∀a:Addr,bB [.d (.lst (ns.map .int)),.d (.int k)] so (.rt (.own a [.int c,.int ((c.fmod 2147483587+48271*k*k+13).fmod 2147483587),.bl (decide ((10:Int)^18<=c))])) Z:=λc Z e a=>by
  refine⟨_,aB (aB aZ),h a _ ⟨_,_,_,rfl,?_,?_⟩⟩
  . rw[U2 _ x_];exact V7 _ x_
  . rw[U2 _ x_];have:=V0 (c.fmod 2147483587+48271*k*k+13) (b:=2147483587) x_;omega
 have hb1:dB 48271:=bR x_;have hb2:dB k:=bR (Vi (show k.natAbs<=100 by omega) x_);have hb3:dB (48271*k):=bR (Vi (show(48271*k).natAbs<=4827100 by omega) x_);walk_at"w"
 try rw[tu]
 split
 .
  rename_i hk;have hk:k<(ns.length:Int):=by simpa using hk
  have hi:k.toNat<ns.length:=by omega
  refine⟨.int ns[k.toNat],lH h0 (by rw[UJ,Uu hi];rfl),?_⟩;exact⟨x_,hb1,hb2,hb3,hb2,x_,x_,x_,x_,x_,fin _ _ rfl⟩
 . exact⟨x_,hb1,hb2,hb3,hb2,x_,x_,x_,x_,x_,fin _ _ rfl⟩
def aD:FS:=λls so=>∃(a:Addr)(xs:List D)(m:Int),ls=[.own a xs,.d (.int m)]/\gZ xs/\0<m/\m<=10^60/\∀(r:Int)(ys:List D),gZ ys->0<=r->r<m->so (.d (.int r)) [.own a ys,.d (.int m)]
def iZ:W Fl:=(a8 (BV 0 (wC (.int 1)) (aG jM (aG aW (aG jX (ju 0 (D6 0 (wC (.int 1))) (aG bF (aj 0) (wC (.int 1)))) (wC (.int 39373))) (wC (.int 17))) (wC (.int 2147483647))))
  (bP 3 (br (aG aW (aG jX (aj 3) (wC (.int 2147483629))) (aG jM (aG jX (ju 0 (D6 0 (wC (.int 1))) (aG bF (aj 0) (wC (.int 1)))) (ju 0 (D6 0 (wC (.int 1))) (aG bF (aj 0) (wC (.int 1))))) (wC (.int 2147483629)))))))
def mE:W Fl:=(a8 (QV (aR (ju 0 (D6 0 (wC (.int 2))) (aG bF (aj 0) (wC (.int 2))))) (a8 (bP 2 (aG jM (ju 0 (D6 0 (wC (.int 0))) (aG bF (aj 0) (wC (.int 0)))) (aj 1)))
  (a8 (BV 0 (wC (.int 0)) (aG vN (ju 0 (D6 0 (wC (.int 0))) (aG bF (aj 0) (wC (.int 0)))) (aj 1)))
  (a8 (BV 0 (wC (.int 2)) (aG EF (ju 0 (D6 0 (wC (.int 0))) (aG bF (aj 0) (wC (.int 0)))) (wC (.int 0))))
  (cf (um 2))))) bu)
  (a8 (bP 3 (wC (.int 0)))
  (a8 (D5 (Az (aG aW (wC (.int 1)) (aG jX (wC (.int 8)) (a6 BU (aE (aG EF (aj 1) (aG AA (wC (.int 10)) (wC (.int 6)))) aQ))))) (bL 4) iZ)
  (cf (aG jM (aG vN (aj 3) (wC (.int 64))) (aj 1))))))
theorem wZ{a:Addr}{c:Int}{m x2:L}{so:Fl->Ev->Prop}:∀(items:List D)(sd dr:Int)(j:Nat)(x4:L),j+items.length<=100->0<=sd->sd<2147483647->0<=dr->dr<2^(40*j) ->
  (∀sd' dr' x',0<=sd'->sd' < 2147483647->0<=dr'->so .nx [.own a [.int c,.int sd',.bl false],m,x2,.d (.int dr'),x']) ->
  iJ (bL 4) iZ items [.own a [.int c,.int sd,.bl false],m,x2,.d (.int dr),x4] so
 |[],sd,dr,j,x4,_,h0,h1,h2,h3,h=>h sd dr x4 h0 h1 h2
 | y::items,sd,dr,j,x4,hl,h0,h1,h2,h3,h=>by
  unfold iJ iZ;walk_at"w";obtain⟨r0,r1⟩:=iN (sd*39373+17) (m:=2147483647) x_;generalize (sd*39373+17).fmod 2147483647=s' at r0 r1 ⊢;obtain⟨q0,q1⟩:=iN (s'*s') (m:=2147483629) x_;generalize (s'*s').fmod 2147483629=t' at q0 q1 ⊢;have hl':j+(items.length+1)<=100:=hl;have b1:dB sd:=yh (n:=40) h0 xL x_;have b2:dB s':=yh (n:=40) r0 xL x_;have b3:dB dr:=yh (n:=40*j) h2 h3 xL;have b4:dB 39373:=bR x_;have b5:dB 2147483629:=bR x_;refine⟨b1,b4,x_,b3,b5,b2,b2,x_,?_⟩;refine wZ items s' (dr*2147483629+t') (j+1) _ xL r0 r1 xL ?_ h;have e:(2:Int)^(40*(j+1))=2^(40*j)*1099511627776:=by rw[Nat.mul_succ,Int.pow_add];rfl
  omega
theorem ve:Wq 2 3 aD mE:=by
 rintro ls so - ⟨a,xs,m,rfl,⟨c,sd,t,rfl,h0,h1⟩,hm,hM,h⟩;unfold mE;have hm0:m≠0:=by omega
 have hmz:=wc xL hM
 cases t with
 | true =>
  walk_at"w";obtain⟨r0,r1⟩:=iN c hm;exact⟨hm0,hm0,hmz,_,eY Ui (aB aZ),h _ _ ⟨_,_,_,rfl,h0,h1⟩ r0 r1⟩
 | false =>
  walk_at"w";refine⟨x_,x_,x_,bR x_,bR (by split<;>decide),⟨by split<;>decide,by split<;>decide⟩,?_⟩;refine wZ (c:=c) _ sd 0 0 _ (by simp only[xl,tu,List.length_range];split<;>decide) h0 h1 x_ x_ λsd' dr' x' g0 g1 g2=>?_;walk_at"w";obtain⟨r0,r1⟩:=iN (dr'.fdiv 64) hm;exact⟨x_,x_,hm0,_,eY Ui (aB aZ),h _ _ ⟨_,_,_,rfl,g0,g1⟩ r0 r1⟩
def i3:FS:=λls so=>∃(a:Addr)(xs:List D)(many:Nat),ls=[.own a xs,.d (.int many)]/\gZ xs/\many<=26 /\
 ∀(zs:List Str)(c:Addr)(ys:List D),gZ ys->zs.length=many->(∀z∈zs,zL z)->zs.Nodup->so (.own c (zs.map .str)) [.own a ys,.d (.int many)]
def lK:W L:=(aG aW (aG aW (gH (aj 1) none (some (aj 2))) (aG bF (aj 3) (aG jM (aG aW (aj 4) (aj 0)) (wC (.int 26))))) (gH (aj 1) (some (aG aW (aj 2) (wC (.int 1)))) none))
def lL:W Fl:=(cf (jN 1 [3,4,2,5] (Az (aj 1)) (bL 0) g9 lK))
def lM:W Fl:=(a8 (bP 5 (br (bg aD 0 0 (gG 0 (aE (wC (.int 26)) aQ)))))
  lL)
def lN:W L:=(aG bF (aj 1) (bg aD 0 2 (gG 2 (aE (wC (.int 26)) aQ))))
def lO:W Fl:=(a8 (bP 4 (br (bg aD 0 0 (gG 0 (aE (br (a6 cg (aE (aj 3) aQ))) aQ)))))
  lM)
def lP:W Fl:=(a8 (bP 3 (br (jO "" (jN 1 [2,0] (Az (aG aW (wC (.int 1)) (bg aD 0 0 (gG 0 (aE (wC (.int 8)) aQ))))) (bL 0) g9 lN))))
  lO)
def km:W Fl:=(a8 (bP 2 (wC (.str "abcdefghijklmnopqrstuvwxyz")))
  lP)
theorem sN:Wq 2 4 i3 km:=by
 rintro ls so - ⟨a,xs,many,rfl,hx,hm,h⟩;walk_at"km";walk_at"lP";refine⟨a,xs,8,rfl,hx,x_,x_,λr ys hy r0 r1=>⟨ys,rfl,?_⟩⟩;walk_at"w";refine⟨⟨xL,xL⟩,?_⟩;rw[uJ];refine⟨by rw[tu,List.length_range];exact Uv (show(1+r).toNat<=8 by omega) x_,?_⟩;refine zG _ (λj Z acc=>∃(l:L)(ys:List D)(cs:List Nat),Z=[l,.d (.str uL),.own a ys]/\gZ ys/\acc=cs.map (λc=>D.str ⟨#[c]⟩)/\cs.length=j/\∀c∈cs,oZ c) _ _ ⟨_,ys,[],rfl,hy,rfl,rfl,λc hc=>by simp at hc⟩ ?_ ?_
 .
  rintro j x Z acc hx ⟨l,ys,cs,rfl,hy,rfl,hl,hc⟩ Q hQ;unfold g9 lN;walk_at"w";refine⟨a,ys,26,rfl,hy,x_,x_,λq ws hw q0 q1=>⟨ws,rfl,x_,_,tH q0 q1,?_⟩⟩;refine hQ _ _ ⟨_,ws,cs++[q.toNat+97],rfl,hw,v6,by simp[hl],λc hm=>?_⟩;rcases Ur.mp hm with hm|hm
  . exact hc c hm
  . rw[Ux.mp hm];unfold oZ;omega
 .
  rintro Z acc ⟨l,ys,cs,rfl,hy,rfl,hl,hc⟩;rw[tu,List.length_range]at hl;walk_at"w";intro aa;refine⟨cs.map λc=>⟨#[c]⟩,v6,by rw[zM,tu];show cs.length+cs.length*0<=_;omega,?_⟩
  have hb:zL (Txt.join "" (cs.map λc=>(⟨#[c]⟩:Str))):=by
   refine⟨?_,?_,?_⟩
   . rw[o4];omega
   . rw[o4];omega
   . rw[o4];exact hc
  generalize Txt.join "" (cs.map λc=>(⟨#[c]⟩:Str))=base at hb ⊢;have hbl:=kX base;have hb1:=hb.lo;have hb2:=hb.hi;walk_at"lO";refine⟨Uv (show base.length<=8 by omega) x_,a,ys,base.length,rfl,hy,xL,xL,λp ws hw p0 p1=>⟨ws,rfl,?_⟩⟩;walk_at"lM";refine⟨a,ws,26,rfl,hw,x_,x_,λt vs hv t0 t1=>⟨vs,rfl,?_⟩⟩;walk_at"lL";refine⟨⟨xL,xL⟩,?_⟩;rw[uJ];refine⟨by rw[tu,List.length_range];exact Uv (show((many:Int)).toNat<=26 by omega) x_,?_⟩;refine ff (h:=λk=>D.str (nameAt base p.toNat t.toNat k)) _ _ _ (λk hk Q q=>?_) λl'=>?_
  .
   have hk:k<many:=by have:=Wh.mp hk;omega
   walk_at"lK";refine⟨Uv (show base.length<=8 by omega) x_,x_,x_,_,tH (i:=(t+(k:Int)).fmod 26) (iN _ x_).1 (iN _ x_).2,?_⟩;have e1:=qF (x:=base) p0 xL;have e2:=tG (x:=base) (i:=p+1) xL xL;have l1:(Txt.slice base none (some p)).length<=8:=by rw[kX,e1,Ut];omega
   have l2:(Txt.slice base (some (p+1)) none).length<=8:=by rw[kX,e2,Uq];omega
   have e3:((t+(k:Int)).fmod 26).toNat=(t.toNat+k) % 26:=by rw[U2 _ x_];omega
   have e4:Txt.slice base none (some p)++(⟨#[((t+(k:Int)).fmod 26).toNat+97]⟩:Str)++Txt.slice base (some (p+1)) none=nameAt base p.toNat t.toNat k:=by
    apply JH;rw[nC,nC,e1,e2,e3];have:(p+1).toNat=p.toNat+1:=by omega
    simp[L2.nameAt,this]
   have one:∀c:Nat,(⟨#[c]⟩:Str).length=1:=λ_=>rfl;have lc:(Txt.slice base none (some p)++(⟨#[((t+(k:Int)).fmod 26).toNat+97]⟩:Str)).length<=9:=by rw[kX,nC,Ue,<- kX,<- kX,one];omega
   refine⟨Uv (show _<=9 by rw[one];omega) x_,Uv (show base.length<=8 by omega) x_,Uv (Nat.add_le_add lc l2) x_,?_⟩;rw[e4];exact q
  .
   walk_at"w";intro c;refine⟨_,eY (ys:=vs) v6 (aB aZ),?_⟩;have e:List.map (λk=>D.str (nameAt base p.toNat t.toNat k)) (List.range ((many:Int)).toNat)=((List.range many).map λk=>nameAt base p.toNat t.toNat k).map D.str:=by rw[VW,Int.toNat_natCast];rfl
   rw[e];refine h _ c vs hv v6 (λz hz=>?_) (wm List.nodup_range λx hx y hy=>?_)
   . obtain⟨k,_,rfl⟩:=UW.mp hz;exact C2 hb xL
   . exact AZ xL (by have:=Wh.mp hx;omega) (by have:=Wh.mp hy;omega)
def i4:FS:=λls so=>∃t b:Int,ls=[.d (.int t),.d (.int b)]/\b≠0/\b.natAbs<2^9000/\so (.d (Rb (Rat.divInt t b))) ls
def qf:W Fl:=(Nq 2 3 (aG jM (aj 3) (aj 2)) (aj 2))
def pG:W Fl:=(a8 (bP 2 (br (a6 AD (aE (aj 0) aQ))))
  (a8 (bP 3 (br (a6 AD (aE (aj 1) aQ))))
  (a8 (yU (aR (aG vt (aj 2) (wC (.int 0)))) qf)
  (a8 (QV (aR (aG yW (aj 1) (wC (.int 0)))) (bP 3 (aG sx (wC (.int 0)) (aj 3))) bu)
  (cf (uo (aE (aG vN (aj 0) (aj 3)) (aE (aG vN (aj 1) (aj 3)) aQ))))))))
theorem w5:Wq 2 2 i4 pG:=by
 rintro ls so - ⟨t,b,rfl,hb,hz,h⟩;walk_at"pG";have h1:=ER (t:=t) hb;have h2:=Vi (ES (t:=t) hb) hz
 have fin:∀{g:Int}{Z:Ev},g=dD t b->g≠0/\g.natAbs<2^9000/\g≠0/\g.natAbs<2^9000/\2<=sizeLine/\bB [.d (.int t),.d (.int b)] so (.rt (.d (.tup [.int (t.fdiv g),.int (b.fdiv g)]))) Z:=λ{g Z} e=>by
  have e1:g≠0:=by rw[e];exact h1
  have e2:g.natAbs<2^9000:=by rw[e];exact h2
  refine⟨e1,e2,e1,e2,x_,_,aB (aB aZ),?_⟩;rw[FJ hb e];exact h
 refine⟨λn Z=>∃x y:Int,Z=[.d (.int t),.d (.int b),.d (.int x),.d (.int y)]/\0<=x/\0<=y/\Int.gcd x y=Int.gcd t b/\n=x.natAbs,⟨_,_,_,rfl,by split<;>omega,by split<;>omega,?_,rfl⟩,?_⟩
 .
  have e1:(if t<0 then -t else t)=(t.natAbs:Int):=by split<;>omega
  have e2:(if b<0 then -b else b)=(b.natAbs:Int):=by split<;>omega
  rw[e1,e2];simp[Int.gcd]
 .
  rintro n Z ⟨x,y,rfl,x0,y0,hg,rfl⟩;walk_at"qf";split
  .
   rename_i hx;have hx:x≠0:=by simpa using hx
   refine⟨hx,_,lC y hx,_,_,rfl,(iN y xL).1,x0,?_,rfl⟩;rw[Int.gcd_comm,y7,Int.gcd_comm];exact hg
  .
   rename_i hx;have hx:x=0:=by simpa using hx
   subst hx;have hy:y=(Int.gcd t b:Int):=by rw[<- hg,Int.gcd_zero_left];omega
   split
   . rename_i hlt;exact fin (by simp[dD,hlt,hy])
   . rename_i hlt;exact fin (by simp[dD,hlt,hy])
def cH:FS:=λls so=>∃(a:Addr)(xs:List D)(least kind:Int),ls=[.own a xs,.d (.int least),.d (.int kind)]/\gZ xs/\0<=least/\least<=1/\0<=kind/\kind<5 /\
 ∀(q:Rat)(ys:List D),gZ ys->0<=q->(least=1->0<q)->RB 60 q->so (.d (Rb q)) [.own a ys,.d (.int least),.d (.int kind)]
def ko:W Fl:=(cf (bJ i4 (aE (aj 4) (aE (aj 3) aQ))))
def kq:W Fl:=(a8 (bP 4 (br (aG aW (aj 1) (bg aD 0 0 (gG 0 (aE (aG bF (jo (aE (wC (.int 3)) (aE (wC (.int 10)) (aE (wC (.int 10)) (aE (wC (.int 40)) (aE (aG AA (wC (.int 10)) (wC (.int 12))) aQ)))))) (aj 2)) aQ))))))
  ko)
def i5:W Fl:=(a8 (bP 3 (br (aG aW (wC (.int 1)) (bg aD 0 0 (gG 0 (aE (aG bF (jo (aE (wC (.int 1)) (aE (wC (.int 1)) (aE (wC (.int 4)) (aE (wC (.int 12)) (aE (wC (.int 12)) aQ)))))) (aj 2)) aQ))))))
  kq)
theorem DB{t b:Int}(h0:0<=t)(h1:t<2^59)(h2:0<b)(h3:b<2^59):0<=Rat.divInt t b/\(0<t->0<Rat.divInt t b)/\RB 60 (Rat.divInt t b):=by
 have e:=Rat.divInt_nonneg (a:=t) (b:=b) h0 xL;refine⟨e,λht=>?_,RB.of_divInt xL ?_ ?_⟩
 .
  refine Rat.lt_of_le_of_ne e λz=>?_;have:Rat.divInt 0 1=Rat.divInt t b:=by rw[<- z];rfl
  rw[Rat.divInt_eq_divInt_iff x_ xL]at this;omega
 .
  have:(2:Int)^59=((2^59:Nat):Int):=by decide
  have:(2:Nat)^59<2^60:=by decide
  omega
 .
  have:(2:Int)^59=((2^59:Nat):Int):=by decide
  have:(2:Nat)^59<2^60:=by decide
  omega
theorem Oh{k:Int}(h0:0<=k)(h1:k<5):∃m:Int,Qu [D.int 1,.int 1,.int 4,.int 12,.int 12] k=some (.int m)/\1<=m/\m<=12:=by
 obtain rfl|rfl|rfl|rfl|rfl:k=0∨k=1∨k=2∨k=3∨k=4:=by omega
 all_goals exact⟨_,rfl,x_,x_⟩
theorem Oi{k:Int}(h0:0<=k)(h1:k<5):∃m:Int,Qu [D.int 3,.int 10,.int 10,.int 40,.int (10^12)] k=some (.int m)/\1<=m/\m<=10^12:=by
 obtain rfl|rfl|rfl|rfl|rfl:k=0∨k=1∨k=2∨k=3∨k=4:=by omega
 all_goals exact⟨_,rfl,x_,x_⟩
theorem rT:Wq 3 2 cH i5:=by rintro ls so - ⟨a,xs,least,kind,rfl,hx,l0,l1,k0,k1,h⟩;obtain⟨m1,e1,m10,m11⟩:=Oh k0 k1;obtain⟨m2,e2,m20,m21⟩:=Oi k0 k1;walk_at"i5";refine⟨x_,λ_=>⟨_,e1,a,xs,m1,rfl,hx,xL,xL,λr ys hy r0 r1=>⟨ys,rfl,?_⟩⟩⟩;walk_at"kq";refine⟨x_,x_,x_,x_,λ_=>⟨_,e2,a,ys,m2,rfl,hy,xL,xL,λs zs hz s0 s1=>⟨zs,rfl,?_⟩⟩⟩;walk_at"ko";obtain⟨a1,a2,a3⟩:=DB (t:=least+s) (b:=1+r) xL xL xL xL;exact⟨_,_,rfl,xL,wc xL xL,_,eY v6 (aB (aB aZ)),h _ zs hz a1 (λe=>a2 xL) a3⟩
def i6:FS:=λls so=>∃(a:Addr)(xs:List D)(n:Nat)(kind:Int),ls=[.own a xs,.d (.int n),.d (.int kind)]/\gZ xs/\1<=n/\n<=1000/\0<=kind/\kind<5 /\
 ∀(qs:List Rat)(c:Addr)(ys:List D),gZ ys->qs.length=n->(∀q∈qs,0<q/\RB 60 q)->so (.own c (qs.map Rb)) [.own a ys,.d (.int n),.d (.int kind)]
def lQ:W Fl:=(a8 (bP 6 (br (bg cH 0 0 (gG 0 (aE (wC (.int 1)) (aE (aj 2) aQ))))))
  (lb (EK 5 (aG bF (jo (aE (aj 4) (aE (aj 6) aQ))) (a6 BU (aE (aG oO (aj 3) (wC (.int 2))) aQ))))))
def lR:W Fl:=(cf (um 5))
def lS:W Fl:=(a8 (yU (aR (aG yW (ju 5 (HV 5) (a6 cg (aE (aj 5) aQ))) (aj 1))) lQ)
  lR)
def gN:W Fl:=(a8 (bP 5 (jo (aE (aj 4) aQ)))
  lS)
def lT:W Fl:=(a8 (QV (aR (aG oO (aj 3) (wC (.int 0)))) (bP 4 (uo (aE (wC (.int 1)) (aE (wC (.int 1)) aQ)))) bu)
  gN)
def lU:W Fl:=(a8 (bP 4 (br (bg cH 0 0 (gG 0 (aE (wC (.int 1)) (aE (aj 2) aQ))))))
  lT)
def kr:W Fl:=(a8 (bP 3 (br (bg aD 0 0 (gG 0 (aE (wC (.int 3)) aQ)))))
  lU)
theorem sO:Wq 3 4 i6 kr:=by
 rintro ls so - ⟨a,xs,n,kind,rfl,hx,n1,n2,k0,k1,h⟩;have one:Rb 1=.tup [.int 1,.int 1]:=rfl
 have rest:∀(alike:Int)(p:Rat)(ys:List D),gZ ys->0<p->RB 60 p ->
   gN [.own a ys,.d (.int n),.d (.int kind),.d (.int alike),.d (Rb p),.un,.un] (bB [.own a xs,.d (.int n),.d (.int kind)] so):=by
  intro alike p ys hy hp hb;walk_at"gN";refine⟨x_,λc=>?_⟩;walk_at"lS";refine⟨λm Z=>∃(qs:List Rat)(zs:List D)(l:L),Z=[.own a zs,.d (.int n),.d (.int kind),.d (.int alike),.d (Rb p),.own c (qs.map Rb),l]/\gZ zs/\qs.length<=n/\m=n-qs.length/\∀q∈qs,0<q/\RB 60 q,⟨_,[p],ys,_,rfl,hy,n1,rfl,by intro q hq;rw[Ux.mp hq];exact⟨hp,hb⟩⟩,?_⟩;rintro m Z ⟨qs,zs,l,rfl,hz,hl,rfl,hq⟩;walk_at"w"
  try rw[tu]
  split
  .
   rename_i hlt;walk_at"lQ";refine⟨a,zs,1,kind,rfl,hz,x_,x_,k0,k1,λq ws hw q0 q1 qb=>⟨ws,rfl,?_⟩⟩;walk_at"w";have hs:qs.length<sizeLine:=by exact Vi (show qs.length<=1000 by omega) x_
   have more:∀q':Rat,0<q'->RB 60 q'->∃m,m<n-qs.length/\∃(qs':List Rat)(zs:List D)(l:L),[L.own a ws,.d (.int n),.d (.int kind),.d (.int alike),.d (Rb p),.own c (qs.map Rb++[Rb q']),.d (Rb q)]=[.own a zs,.d (.int n),.d (.int kind),.d (.int alike),.d (Rb p),.own c (qs'.map Rb),l]/\gZ zs/\qs'.length<=n/\m=n-qs'.length/\∀q∈qs',0<q/\RB 60 q:=by
    intro q' p0 pb;refine⟨n-(qs++[q']).length,by rw[Ue];simp only[Us];omega,qs++[q'],ws,.d (Rb q),by rw[Vg];rfl,hw,by rw[Ue];simp only[Us];omega,rfl,λz hz=>?_⟩;rcases Ur.mp hz with hz|hz
    . exact hq z hz
    . rw[Ux.mp hz];exact⟨p0,pb⟩
   refine⟨x_,λ_=>?_⟩;by_cases h2:alike=2
   . refine⟨Rb q,?_,hs,more q (q1 rfl) qb⟩;simp[h2,yg]
   . refine⟨Rb p,?_,hs,more p hp hb⟩;simp[h2,uI]
  .
   have e:qs.length=n:=by omega
   walk_at"lR";exact⟨_,eY v6 (aB (aB aZ)),h qs c zs hz e hq⟩
 walk_at"kr";refine⟨a,xs,3,rfl,hx,x_,x_,λr ys hy r0 r1=>⟨ys,rfl,?_⟩⟩;walk_at"lU";refine⟨a,ys,1,kind,rfl,hy,x_,x_,k0,k1,λq zs hz q0 q1 qb=>⟨zs,rfl,?_⟩⟩;walk_at"lT";split
 . exact⟨x_,rest r 1 zs hz x_ ⟨x_,x_⟩⟩
 . exact rest r q zs hz (q1 rfl) qb
def ku:FS:=λls so=>∃(a:Addr)(xs:List D)(shape k:Int)(n:Nat),ls=[.own a xs,.d (.int shape),.d (.int n),.d (.int k)]/\gZ xs/\2<=n/\n<=1000/\0<=k/\k<=1000 /\
 ∀(i j:Nat)(ys:List D),gZ ys->i<n->j<n->i≠j->so (.d (.tup [.int i,.int j])) [.own a ys,.d (.int shape),.d (.int n),.d (.int k)]
def nM:W Fl:=(cf (uo (aE (aj 4) (aE (aj 5) aQ))))
def nN:W Fl:=(a8 (QV (aR (aG oO (aj 1) (wC (.int 3)))) (cf (uo (aE (wC (.int 0)) (aE (br (aG aW (wC (.int 1)) (aG jM (aj 5) (aG sx (aj 2) (wC (.int 1)))))) aQ)))) bu)
  nM)
def nO:W Fl:=(a8 (QV (aR (aG oO (aj 1) (wC (.int 2)))) (cf (uo (aE (br (aG jX (aG jM (aj 3) (wC (.int 2))) (aG sx (aj 2) (wC (.int 1))))) (aE (br (aG jX (aG sx (wC (.int 1)) (aG jM (aj 3) (wC (.int 2)))) (aG sx (aj 2) (wC (.int 1))))) aQ)))) bu)
  nN)
def nQ:W Fl:=(a8 (QV (aR (aG oO (aj 1) (wC (.int 1)))) (cf (uo (aE (aG jM (aj 3) (aj 2)) (aE (aG jM (aG aW (aj 3) (aG vN (aj 2) (wC (.int 2)))) (aj 2)) aQ)))) bu)
  nO)
def nR:W Fl:=(a8 (bP 5 (aG jM (aG aW (aG aW (aj 4) (wC (.int 1))) (bg aD 0 0 (gG 0 (aE (aG sx (aj 2) (wC (.int 1))) aQ)))) (aj 2)))
  nQ)
def mF:W Fl:=(a8 (bP 4 (br (bg aD 0 0 (gG 0 (aE (aj 2) aQ)))))
  nR)
theorem vf:Wq 4 2 ku mF:=by
 rintro ls so - ⟨a,xs,shape,k,n,rfl,hx,n2,n3,k0,k1,h⟩;have fin:∀(ys:List D)(i j:Int)(Z:Ev),gZ ys->0<=i->i<n->0<=j->j<n->i≠j->.own a ys∈Z->bB [.own a xs,.d (.int shape),.d (.int n),.d (.int k)] so (.rt (.d (.tup [.int i,.int j]))) Z:=by intro ys i j Z hy i0 i1 j0 j1 hij hm;have:=h i.toNat j.toNat ys hy xL xL xL;rw[Int.toNat_of_nonneg i0,Int.toNat_of_nonneg j0]at this;exact⟨_,eY hm (aB (aB (aB aZ))),this⟩
 walk_at"mF";refine⟨a,xs,n,rfl,hx,xL,xL,λr ys hy r0 r1=>⟨ys,rfl,?_⟩⟩;walk_at"nR";refine⟨a,ys,n-1,rfl,hy,xL,xL,λs zs hz s0 s1=>⟨zs,rfl,?_⟩⟩;walk_at"w";refine⟨xL,?_⟩;have e1:=U2 (r+1+s) (b:=n) xL;have e2:=U2 k (b:=n) xL;have e3:=Int.fdiv_eq_ediv_of_nonneg (n:Int) (b:=2) xL;have e4:=U2 (k+(n:Int) / 2) (b:=n) xL;have e5:=U2 k (b:=2) xL;have e6:=U2 ((r+1+s) % (n:Int)) (b:=(n:Int)-1) xL;rw[e1];have o0:=V7 (r+1+s) (b:=n) xL;have o1:=V0 (r+1+s) (b:=n) xL
 have o2:(r+1+s) % (n:Int)≠r:=λz=>by
  by_cases q:r+1+s<n
  . rw[Int.emod_eq_of_lt xL q]at z;omega
  .
   have:(r+1+s) % (n:Int)=r+1+s-n:=by rw[<- Int.sub_emod_right,Int.emod_eq_of_lt xL xL]
   omega
 walk_at"nQ";split
 .
  rw[e2,e3,e4];refine⟨xL,x_,x_,xL,x_,fin zs _ _ _ hz (V7 _ xL) (V0 _ xL) (V7 _ xL) (V0 _ xL) (λz=>?_) v6⟩;have h1:(k+(n:Int) / 2-k) % n=0:=Int.emod_eq_emod_iff_emod_sub_eq_zero.mp z.symm;have e9:k+(n:Int) / 2-k=n / 2:=by omega
  rw[e9,Int.emod_eq_of_lt xL xL]at h1;omega
 .
  walk_at"nO";split
  .
   rw[e5];have m0:=Int.emod_two_eq k;refine⟨x_,bR xL,bR xL,x_,bR xL,bR xL,x_,?_⟩;rcases m0 with m0|m0
   . rw[m0];exact fin zs _ _ _ hz xL xL xL xL xL v6
   . rw[m0];exact fin zs _ _ _ hz xL xL xL xL xL v6
  .
   walk_at"nN";split
   . rw[e6];have p0:=V7 ((r+1+s) % (n:Int)) (b:=(n:Int)-1) xL;have p1:=V0 ((r+1+s) % (n:Int)) (b:=(n:Int)-1) xL;exact⟨xL,x_,fin zs _ _ _ hz xL xL xL xL xL v6⟩
   . walk_at"nM";exact⟨x_,fin zs _ _ _ hz xL xL xL xL (Vn o2) v6⟩
structure Drawn (most count:Nat) (R:cD):Prop where
 ok:R.Ok
 hi:R.n<=most
 few:R.asks.length<=count
 nms:(∀a∈R.asks,zL a.nm)/\(R.asks.map (·.nm)).Nodup
 tt:∀a∈R.asks,RB 60 a.size
def kx:FS:=λls so=>∃(ns:List Int)(at_ most count:Nat),ls=[.d (.lst (ns.map .int)),.d (.int at_),.d (.int most),.d (.int count)]/\at_<=90/\2<=most/\most<=12/\count<=20 /\
 ∀R:cD,Drawn most count R->so (.d (lj R)) ls
def i7:W Fl:=(a8 (EM [13,14] (bg ku 0 4 (gG 4 (aE (aj 8) (aE (aj 5) (aE (aj 12) aQ))))))
  (lb (EK 11 (uo (aE (aG bF (aj 9) (aj 12)) (aE (aj 13) (aE (aj 14) (aE (br (bg cH 0 4 (gG 4 (aE (wC (.int 0)) (aE (aG bF (aj 7) (wC (.int 1))) aQ))))) aQ))))))))
def nS:W Fl:=(cf (uo (aE (aj 10) (aE (aj 11) aQ))))
def nT:W Fl:=(a8 (D5 (Az (aj 6)) (bL 12) i7)
  nS)
def nU:W Fl:=(a8 (bP 11 (jo aQ))
  nT)
def nV:W Fl:=(a8 (bP 4 (bJ cz (aE (aj 0) (aE (br (aG aW (aj 1) (wC (.int 2)))) aQ))))
  nU)
def nW:W Fl:=(a8 (bP 10 (br (bJ i6 (aE (bJ cz (aE (aj 0) (aE (br (aG aW (aj 1) (wC (.int 1)))) aQ))) (aE (aj 5) (aE (aG bF (aj 7) (wC (.int 0))) aQ))))))
  nV)
def nX:W Fl:=(a8 (bP 9 (br (bg i3 0 4 (gG 4 (aE (aj 6) aQ)))))
  nW)
def nY:W Fl:=(a8 (bP 8 (br (bg aD 0 4 (gG 4 (aE (wC (.int 6)) aQ)))))
  nX)
def nZ:W Fl:=(a8 (bP 7 (br (jo (aE (br (bg aD 0 4 (gG 4 (aE (wC (.int 5)) aQ)))) (aE (br (bg aD 0 4 (gG 4 (aE (wC (.int 5)) aQ)))) aQ)))))
  nY)
def n4:W Fl:=(a8 (bP 6 (br (bg aD 0 4 (gG 4 (aE (br (aG aW (aj 3) (wC (.int 1)))) aQ)))))
  nZ)
def n5:W Fl:=(a8 (bP 5 (br (aG aW (wC (.int 2)) (bg aD 0 4 (gG 4 (aE (aG sx (aj 2) (wC (.int 1))) aQ))))))
  n4)
def mG:W Fl:=(a8 (bP 4 (bJ cz (aE (aj 0) (aE (aj 1) aQ))))
  n5)
theorem DC{S a1 m3 c3 rms:D}{b c:Addr}{n shape kind:Nat}{zs:List Str}{so:Fl->Ev->Prop}(hn:2<=n)(hn2:n<=12)(hk:kind<5)(k0:Nat)(hzl:zs.length<=20)(hz:∀z∈zs,zL z)(xs:List D)(hx:gZ xs)(x13 x14:L)
  (fin:∀(as:List RL)(ys:List D)(x12 x13 x14:L),(∀a∈as,yi n a/\RB 60 a.size)->as.map (·.nm)=zs->so .nx [.d S,.d a1,.d m3,.d c3,.own b ys,.d (.int n),.d (.int (zs.length:Int)),.d (.lst [.int k0,.int kind]),.d (.int shape),.d (.lst (zs.map .str)),.d rms,.own c (as.map mT),x12,x13,x14]) :
  iJ (bL 12) i7 ((List.range zs.length).map λ(i:Nat)=>D.int (i:Int)) [.d S,.d a1,.d m3,.d c3,.own b xs,.d (.int n),.d (.int (zs.length:Int)),.d (.lst [.int k0,.int kind]),.d (.int shape),.d (.lst (zs.map .str)),.d rms,.own c [],.un,x13,x14] so:=by
 refine ny _ (λj Z=>∃(as:List RL)(ys:List D)(x12 x13 x14:L),Z=[.d S,.d a1,.d m3,.d c3,.own b ys,.d (.int n),.d (.int (zs.length:Int)),.d (.lst [.int k0,.int kind]),.d (.int shape),.d (.lst (zs.map .str)),.d rms,.own c (as.map mT),x12,x13,x14]/\gZ ys/\(∀a∈as,yi n a/\RB 60 a.size)/\as.map (·.nm)=zs.take j) _ ⟨[],xs,_,_,_,rfl,hx,λa ha=>by simp at ha,rfl⟩ ?_ ?_
 .
  rintro j x Z hj ⟨as,ys,x12,x13,x14,rfl,hy,ha,hn'⟩ Q h1 h2 h3 h4;have hj':j<zs.length:=by have:=(Uh.mp hj).1;simpa using this
  have ex:x=.int (j:Int):=by rw[UJ,List.getElem?_range hj']at hj;exact(UM hj).symm
  subst ex;walk_at"i7";refine⟨b,ys,shape,j,n,rfl,hy,hn,xL,xL,xL,λi k ws hw i1 k1 hik=>⟨ws,rfl,?_⟩⟩;walk_at"w";refine⟨.str zs[j],Js hj',?_⟩;refine⟨b,ws,0,kind,rfl,hw,x_,x_,xL,xL,λq vs hv q0 _ qb=>⟨vs,rfl,?_⟩⟩;walk_at"w";have kz:as.length=j:=by have:=Vy List.length hn';rw[tu,Ut]at this;omega
  refine⟨x_,by rw[kz];exact Uj hj' (Uv hzl x_),h1 _ ⟨as++[⟨zs[j],i,k,q⟩],vs,_,_,_,by rw[Vg];rfl,hv,λa hm=>?_,?_⟩⟩
  .
   rcases Ur.mp hm with hm|hm
   . exact ha a hm
   . rw[Ux.mp hm];exact⟨⟨i1,k1,hik,q0,F4 qb,(hz _ (Vm hj')).ok⟩,qb⟩
  . rw[Vg,hn',List.take_succ,Uu hj'];rfl
 . rintro Z ⟨as,ys,x12,x13,x14,rfl,hy,ha,hn'⟩;rw[tu,List.length_range,VT (Ul _)]at hn';exact fin as ys x12 x13 x14 ha hn'
theorem vg:Wq 4 11 kx mG:=by
 rintro ls so - ⟨ns,at_,most,count,rfl,ha,m2,m12,c20,h⟩;walk_at"mG";refine⟨ns,at_,rfl,xL,xL,λb xs hx=>?_⟩;walk_at"n5";refine⟨b,xs,(most:Int)-1,rfl,hx,xL,xL,λr ys hy r0 r1=>⟨ys,rfl,?_⟩⟩;walk_at"n4";refine⟨b,ys,(count:Int)+1,rfl,hy,xL,xL,λs zs hz s0 s1=>⟨zs,rfl,?_⟩⟩;walk_at"nZ";refine⟨b,zs,5,rfl,hz,x_,x_,λk1 ws hw k10 k11=>⟨ws,rfl,?_⟩⟩;walk_at"w";refine⟨b,ws,5,rfl,hw,x_,x_,λk2 vs hv k20 k21=>⟨vs,rfl,?_⟩⟩;walk_at"w";refine⟨x_,λkk=>?_⟩;walk_at"nY";refine⟨b,vs,6,rfl,hv,x_,x_,λsh us hu sh0 sh1=>⟨us,rfl,?_⟩⟩;walk_at"nX";obtain⟨many,rfl⟩:=UV s0;obtain⟨pl,epl⟩:∃pl:Nat,2+r=(pl:Int):=UV xL;obtain⟨sh',rfl⟩:=UV sh0;obtain⟨k1',rfl⟩:=UV k10;obtain⟨k2',rfl⟩:=UV k20;rw[epl];refine⟨b,us,many,rfl,hu,xL,λnms c ts ht hnl hnm hnd=>⟨ts,rfl,?_⟩⟩;walk_at"nW";refine⟨ns,at_+1,rfl,xL,xL,λb2 xs2 hx2=>?_⟩;refine⟨b2,xs2,pl,k1',rfl,hx2,xL,xL,xL,xL,λqs c2 ys2 hy2 hql hq=>?_⟩;walk_at"nV";refine⟨ns,at_+2,rfl,xL,xL,λb3 xs3 hx3=>?_⟩;walk_at"nU";refine⟨x_,λc3=>?_⟩;walk_at"nT";refine⟨⟨xL,xL⟩,?_⟩;rw[uJ,Int.toNat_natCast,<- hnl];refine DC (n:=pl) xL xL xL k1' xL hnm xs3 hx3 _ _ λas ys' x12 x13 x14 hao han=>?_;walk_at"w";walk_at"nS";refine⟨x_,_,aB (aB (aB (aB aZ))),h ⟨qs,as⟩ ?_⟩;have hal:as.length=nms.length:=by rw[<- han,tu]
 refine⟨⟨?_,?_,?_,hq,?_,NU (λa ha=>(hao a ha).2) (by show as.length<=20;omega)⟩,?_,?_,⟨?_,?_⟩,λa ha=>(hao a ha).2⟩
 . show 2<=qs.length;omega
 . show qs.length<=12;omega
 . show as.length<=20;omega
 . show ∀a∈as,yi qs.length a;rw[hql];exact λa ha=>(hao a ha).1
 . show qs.length<=most;omega
 . show as.length<=count;omega
 . intro a ha;exact hnm _ (by rw[<- han];exact List.mem_map_of_mem ha)
 . show(as.map (·.nm)).Nodup;rw[han];exact hnd
def fh:FS:=λls so=>∃t b:Int,ls=[.d (.tup [.int t,.int b])]/\t.natAbs<2^1900/\b.natAbs<2^1900/\so (.d (.str (bI t b))) ls
def ky:W Fl:=(a8 (QV (aR (aG oO (aG bF (aj 0) (wC (.int 1))) (wC (.int 1)))) (cf (a6 j4 (aE (aG bF (aj 0) (wC (.int 0))) aQ))) bu)
  (cf (aG aW (aG aW (a6 j4 (aE (aG bF (aj 0) (wC (.int 0))) aQ)) (wC (.str "/"))) (a6 j4 (aE (aG bF (aj 0) (wC (.int 1))) aQ)))))
theorem sP:Wq 1 0 fh ky:=by
 rintro ls so - ⟨t,b,rfl,ht,hb,h⟩;have l1:=u9 ht;have l2:=u9 hb;have e:sizeLine=16777216:=by decide
 have l3:(Str.ofString "/").length=1:=by decide +kernel
 have a1:=Vl (cM t) (Str.ofString "/");unfold bI at h;walk_at"ky";by_cases c:b=1
 . rw[if_pos c]at h ⊢;exact⟨tV ht,_,aB aZ,h⟩
 . rw[if_neg c]at h ⊢;unfold cM at *;refine⟨tV ht,xL,tV hb,xL,?_⟩;exact⟨_,aB aZ,h⟩
noncomputable def gz(R:cD):Str:=Str.ofString "rooms "++Str.join " " (R.rooms.map λq=>bI q.num q.den)
noncomputable def D9(a:RL):Str:=Str.join " " [Str.ofString "ask",a.nm,cM (a.one:Int),cM (a.other:Int),bI a.size.num a.size.den]
noncomputable def ie(R:cD):List Str:=gz R::R.asks.map D9
structure TN (R:cD):Prop where
 ok:R.Ok
 nms:∀a∈R.asks,zL a.nm
 rb:∀q∈R.rooms,RB 60 q
 ab:∀a∈R.asks,RB 60 a.size
 n:R.rooms.length<=8
 m:R.asks.length<=9
def kA:FS:=λls so=>∃R:cD,ls=[.d (lj R)]/\TN R/\∀a,so (.own a ((ie R).map .str)) ls
def n6:W Fl:=(lb (EK 1 (jO " " (jo (aE (wC (.str "ask")) (aE (aj 2) (aE (br (a6 j4 (aE (aj 3) aQ))) (aE (br (a6 j4 (aE (aj 4) aQ))) (aE (br (bJ fh (aE (aj 5) aQ))) aQ)))))))))
def n8:W Fl:=(cf (um 1))
def n9:W L:=(bJ fh (aE (aj 0) aQ))
def oa:W Fl:=(a8 (D5 (D4 (aG bF (aj 0) (wC (.int 1)))) (m7 [2,3,4,5]) n6)
  n8)
def mH:W Fl:=(a8 (bP 1 (jo (aE (br (aG aW (wC (.str "rooms ")) (jO " " (jN 1 [] (D4 (aG bF (aj 0) (wC (.int 0)))) (bL 0) g9 n9)))) aQ)))
  oa)
theorem oe{n:Int}(h:n.natAbs<2^60):As 20 (cM n):=by
 have b:n.natAbs<10^19:=Uj h y_;constructor
 .
  rw[bf];rcases d8 n with⟨m,rfl,e⟩|⟨m,rfl,e⟩
  . have l:(mf m).length<=19:=(iP x_).mpr xL;rw[e];omega
  . have l:(mf (m+1)).length<=19:=(iP x_).mpr xL;rw[e,Uk];omega
 .
  intro c hc;rcases d8 n with⟨m,_,e⟩|⟨m,_,e⟩
  . rw[e]at hc;have:=eF m c hc;omega
  .
   rw[e]at hc;rcases Uo.mp hc with rfl|hc
   . decide
   . have:=eF _ c hc;omega
theorem yE{q:Rat}(h:RB 60 q):As 41 (bI q.num q.den):=by
 have h2:((q.den:Int)).natAbs<2^60:=by rw[U6];exact h.2
 unfold bI;split
 . exact(oe h.1).mono x_
 . exact(((oe h.1).app (a7 (n:=1) y_)).app (oe h2)).mono x_
theorem Oj{z:Str}(h:zL z):As 8 z:=by refine⟨by rw[bf];exact h.hi,λc hc=>?_⟩;have:=(h.let_ c hc).2;omega
theorem Ad{R:cD}(h:TN R):As 400 (gz R):=by
 unfold gz;have:=uV (y:=Str.ofString " ") (m:=1) (n:=41) (zs:=R.rooms.map λq=>bI q.num q.den) (a7 y_) λz hz=>by obtain⟨q,hq,rfl⟩:=UW.mp hz;exact yE (h.rb q hq)
 rw[tu]at this;have hn:=h.n;exact((a7 (n:=6) y_).app (this.mono (m:=336) (Uv (Nat.mul_le_mul_left _ hn) x_))).mono x_
theorem w7{R:cD}(h:TN R){a:RL}(ha:a∈R.asks):∀ z∈[Str.ofString "ask",a.nm,cM (a.one:Int),cM (a.other:Int),bI a.size.num a.size.den],As 41 z:=by
 have hk:=h.ok.ask a ha;have h12:=h.ok.hi;intro z hz;simp only[Uo,VY,or_false]at hz;have sm:∀k:Nat,k<R.n->((k:Int)).natAbs<2^60:=λk hk=>by rw[U6];exact Uj hk (Uv h12 x_)
 rcases hz with rfl|rfl|rfl|rfl|rfl
 . exact G8.mono x_
 . exact(Oj (h.nms a ha)).mono x_
 . exact(oe (sm _ hk.one)).mono x_
 . exact(oe (sm _ hk.other)).mono x_
 . exact yE (h.ab a ha)
theorem MN{R:cD}(h:TN R){a:RL}(ha:a∈R.asks):As 400 (D9 a) :=
 (uV (y:=Str.ofString " ") (m:=1) (a7 y_) (w7 h ha)).mono (by show(41+1)*5<=400; decide)
theorem J5{R:cD}(h:TN R):∀z∈ie R,As 400 z:=λz hz=>by
 rcases Uo.mp hz with rfl|hz
 . exact Ad h
 . obtain⟨a,ha,rfl⟩:=UW.mp hz;exact MN h ha
theorem DD{zs:List Str}{n m:Nat}(h:∀z∈zs,As n z)(hm:(n+m)*zs.length<=16777216):(zs.map (·.length)).sum+zs.length*m<=16777216:=by
 refine Uv ?_ hm;rw[Nat.add_mul,Nat.mul_comm m];refine Nat.add_le_add_right ?_ _;clear hm
 induction zs with
 |nil=>exact VC _
 | cons z zs ih =>
  have h1:=(h z v6).len;have h2:=ih λa ha=>h a (Ud _ ha);rw[UC,List.sum_cons,Uk,Nat.mul_succ];omega
theorem OP{q:Rat}(h:RB 60 q):q.num.natAbs<2^1900:=Uj h.1 (U9 x_ x_)
theorem OQ{q:Rat}(h:RB 60 q):(q.den:Int).natAbs<2^1900:=Uj h.2 (U9 x_ x_)
theorem vh:Wq 1 5 kA mH:=by
 rintro ls so - ⟨R,rfl,hR,h⟩;have e0:sizeLine=16777216:=by decide
 have hn:=hR.n;have hm:=hR.m;walk_at"mH";refine⟨by show R.rooms.length<=_;omega,ff (enc:=Rb) (h:=λq=>D.str (bI q.num q.den)) R.rooms [] _ (λq hq Q k=>?_) λl' a0=>?_⟩
 . walk_at"n9";refine⟨q.num,q.den,rfl,OP (hR.rb q hq),OQ (hR.rb q hq),?_⟩;walk_at"w";exact k
 rw[Vj];have lr:=(Ad hR).len;refine⟨R.rooms.map λq=>bI q.num q.den,by rw[VW];rfl,?_,?_⟩
 .
  rw[show(Str.ofString " ").length=1 by decide +kernel];refine DD (n:=41) (λz hz=>?_) ?_
  . obtain⟨q,hq,rfl⟩:=UW.mp hz;exact yE (hR.rb q hq)
  . rw[tu];exact Uv (Nat.mul_le_mul_left _ hn) x_
 rw[tj];unfold gz at lr;rw[Vl]at lr;refine⟨xL,x_,λa1=>?_⟩;walk_at"oa";refine FH (enc:=mT) R.asks (λpre Z=>∃x2 x3 x4 x5,Z=[.d (lj R),.own a1 ((gz R::pre.map D9).map .str),x2,x3,x4,x5]) _ ⟨_,_,_,_,rfl⟩ ?_ ?_
 .
  rintro pre a suf Z hs ⟨x2,x3,x4,x5,rfl⟩ Q q1 _ _ _;have ha:a∈R.asks:=by rw[hs];simp
  have hk:=hR.ok.ask a ha;have h12:=hR.ok.hi;have lp:pre.length<=9:=by have:=Vy List.length hs;rw[Ue,Uk]at this;omega
  have pt:=w7 hR ha;walk_at"n6";refine⟨Gg (Uj (show((a.one:Int)).natAbs<13 by rw[U6];have:=hk.one;omega) x_),Gg (Uj (show((a.other:Int)).natAbs<13 by rw[U6];have:=hk.other;omega) x_),?_⟩;refine⟨a.size.num,a.size.den,rfl,OP (hR.ab a ha),OQ (hR.ab a ha),?_⟩;walk_at"w";refine⟨x_,λb0=>⟨[Str.ofString "ask",a.nm,cM (a.one:Int),cM (a.other:Int),bI a.size.num a.size.den],rfl,?_,?_⟩⟩
  . rw[show(Str.ofString " ").length=1 by decide +kernel];exact DD (n:=41) pt (by show(41+1)*5<=_;decide)
  rw[tj];have em:((gz R::(pre++[a]).map D9).map D.str)=D.str (gz R)::((pre.map D9).map D.str++[D.str (D9 a)]):=by simp
  exact⟨xL,q1 _ ⟨_,_,_,_,by rw[em];rfl⟩⟩
 . rintro Z ⟨x2,x3,x4,x5,rfl⟩;walk_at"n8";exact⟨_,aB aZ,h _⟩
structure w8 (n m:Nat) (rows:List Str):Prop where
 as:∀z∈rows,As n z
 len:rows.length<=m
def kB:FS:=λls so=>∃(a:Addr)(xs:List D)(rows:List Str)(n:Nat),ls=[.own a xs,.d (.lst (rows.map .str))]/\gZ xs/\w8 n 30 rows/\400<=n/\n<=3000/\∀(ys:List D)(zs:List Str),gZ ys->w8 n 24 zs->so (.d (.lst (zs.map .str))) [.own a ys,.d (.lst (rows.map .str))]
def og:W Fl:=(cf (aG bF (aG aW (aj 4) (jo (aE (br (aG aW (aG aW (gH (aj 1) none (some (wC (.int 1)))) (gH (aj 3) none (some (wC (.int 20))))) (jo (aE (wC (.str "ask zz 0 0 1")) aQ)))) aQ))) (bg aD 0 0 (gG 0 (aE (wC (.int 5)) aQ)))))
def oh:W L:=(aG aW (aG aW (aG aW (wC (.str "ask ")) (aj 0)) (wC (.str "q 0 1 "))) (a6 j4 (aE (br (bg aD 0 1 (gG 1 (aE (wC (.int 9)) aQ)))) aQ)))
def i8:W Fl:=(a8 (bP 4 (br (jo (aE (br (jo (aE (wC (.str "rooms 1")) aQ))) (aE (br (jo (aE (br (aG aW (wC (.str "rooms")) (aG lF (wC (.str " 1")) (wC (.int 13))))) aQ))) (aE (br (aG aW (jo (aE (br (aG aW (wC (.str "rooms")) (aG lF (wC (.str " 1")) (wC (.int 12))))) aQ)) (aj 3))) (aE (br (aG aW (gH (aj 1) none (some (wC (.int 1)))) (aj 3))) aQ)))))))
  og)
def oj:W Fl:=(a8 (bP 3 (jN 1 [0] (x8 (gH (aj 2) none (some (aG aW (wC (.int 20)) (bg aD 0 0 (gG 0 (aE (wC (.int 3)) aQ))))))) (bL 0) g9 oh))
  i8)
def mI:W Fl:=(a8 (bP 2 (wC (.str "abcdefghijklmnopqrstuvwxyz")))
  oj)
theorem DE:∀{ys:List D}{n:Nat},(∀y∈ys,∃z,y=.str z/\As n z)->∃zs:List Str,ys=zs.map .str/\(∀z∈zs,As n z)
 |[],_,_=>⟨[],rfl,λz hz=>by cases hz⟩
 | y::ys,n,h=>by
  obtain⟨z,rfl,hz⟩:=h y Ui;obtain⟨zs,rfl,hs⟩:=DE λy hy=>h y (Ud _ hy);refine⟨z::zs,rfl,λw hw=>?_⟩;rcases Uo.mp hw with rfl|hw
  . exact hz
  . exact hs w hw
theorem MO{i:Int}(h0:0<=i)(h1:i<9):As 20 (cM i)/\i.natAbs.log2<1920:=by
 obtain⟨k,rfl⟩:=UV h0;refine⟨⟨?_,λc hc=>?_⟩,Gg (Uj (show((k:Int)).natAbs<9 by rw[U6];omega) x_)⟩
 . rw[bf,uQ];have:=JU (k:=k) xL;omega
 . rw[uQ]at hc;have:=Gj hc;omega
theorem MP{a:Addr}{xs:List D}{rows zs:List Str}{n:Nat}{b:Addr}{x2:L}{so:Fl->Ev->Prop}(hx:gZ xs)(hr:w8 n 30 rows)(n0:400<=n)(n1:n<=3000)(hz:∀z∈zs,As 400 z)(hl:zs.length<=22)
  (h:∀(ys:List D)(zs:List Str),gZ ys->w8 n 24 zs->∀Z,so (.rt (.d (.lst (zs.map .str)))) (.own a ys::.d (.lst (rows.map .str))::Z)) :
  i8 [.own a xs,.d (.lst (rows.map .str)),x2,.own b (zs.map .str),.un] so:=by
 have e0:sizeLine=16777216:=by decide
 have a13:As 31 (Str.ofString "rooms"++FC (Str.ofString " 1") (Int.toNat 13)):=(a7 (n:=5) y_).app (Ha (n:=2) (k:=13) (a7 y_));have a12:As 29 (Str.ofString "rooms"++FC (Str.ofString " 1") (Int.toNat 12)):=(a7 (n:=5) y_).app (Ha (n:=2) (k:=12) (a7 y_));have k13:=a13.len;have k12:=a12.len;rw[Vl]at k13 k12;have lr:=hr.len;walk_at"i8";have em:m9 (rows.map D.str) none (some 1)=(rows.take 1).map D.str:=by rw[cI];exact Vy _ (qG rows 1)
 rw[em];refine⟨x_,λ_=>⟨x_,x_,y_,y_,xL,x_,λ_=>⟨x_,x_,y_,y_,xL,x_,λ_=>⟨xL,λ_ _=>⟨by rw[tu,Ut];omega,λ_=>⟨x_,λ_=>?_⟩⟩⟩⟩⟩⟩;generalize Str.ofString "rooms"++FC (Str.ofString " 1") (Int.toNat 13)=s13 at a13;generalize Str.ofString "rooms"++FC (Str.ofString " 1") (Int.toNat 12)=s12 at a12;walk_at"og";have e2:m9 (zs.map D.str) none (some 20)=(zs.take 20).map D.str:=by rw[cI];exact Vy _ (qG zs 20)
 rw[em,e2];have ls:(zs.take 20).length<=20:=by rw[Ut];omega
 have l1:(rows.take 1).length<=1:=by rw[Ut];omega
 intro _ _;have lz:(zs.take 20).length+(rows.take 1).length<=21:=by omega
 refine⟨by rw[tu,tu];omega,λ_=>⟨x_,λ_=>⟨by rw[Ue,tu,tu];omega,λ_=>⟨x_,λ_=>⟨x_,λ_=>⟨a,xs,5,rfl,hx,x_,x_,λr ys hy r0 r1=>⟨ys,rfl,?_⟩⟩⟩⟩⟩⟩⟩;walk_at"w";have aw:∀{z:Str}{m:Nat},As m z->m<=400->As n z:=λh k=>h.mono xL;have lr0:∀z∈rows.take 1,As n z:=λz hm=>hr.as z (U3 hm);have lz0:∀z∈zs,As n z:=λz hm=>aw (hz z hm) (Ul _);have fin:∀ws:List Str,(∀z∈ws,As n z)->ws.length<=24->∀Z,so (.rt (.d (.lst (ws.map .str)))) (.own a ys::.d (.lst (rows.map .str))::Z):=λws h1 h2 Z=>h ys ws hy ⟨h1,h2⟩ Z;rcases(by omega:r=0∨r=1∨r=2∨r=3∨r=4)with rfl|rfl|rfl|rfl|rfl
 . refine⟨_,rfl,fin [Str.ofString "rooms 1"] (λz hm=>?_) x_ _⟩;rw[Ux.mp hm];exact aw (m:=7) (a7 y_) x_
 . refine⟨_,rfl,fin [s13] (λz hm=>?_) (Nat.succ_le_succ (VC _)) _⟩;rw[Ux.mp hm];exact aw a13 x_
 .
  refine⟨_,rfl,fin (s12::zs) (λz hm=>?_) (by rw[Uk];omega) _⟩;rcases Uo.mp hm with rfl|hm
  . exact aw a12 x_
  . exact lz0 z hm
 .
  refine⟨_,rfl,?_⟩;rw[<- Vg];refine fin (rows.take 1++zs) (λz hm=>?_) (by rw[Ue];omega) _;rcases Ur.mp hm with hm|hm
  . exact lr0 z hm
  . exact lz0 z hm
 .
  refine⟨_,rfl,?_⟩;have em2:(rows.take 1).map D.str++(zs.take 20).map D.str++[D.str (Str.ofString "ask zz 0 0 1")]=(rows.take 1++zs.take 20++[Str.ofString "ask zz 0 0 1"]).map D.str:=by simp
  rw[em2];refine fin _ (λz hm=>?_) (by rw[Ue,Ue,Us];omega) _;rcases Ur.mp hm with hm|hm
  .
   rcases Ur.mp hm with hm|hm
   . exact lr0 z hm
   . exact lz0 z (U3 hm)
  . rw[Ux.mp hm];exact aw (m:=12) (a7 y_) x_
theorem vi:Wq 2 3 kB mI:=by
 rintro ls so - ⟨a,xs,rows,n,rfl,hx,hr,n0,n1,h⟩;have e0:sizeLine=16777216:=by decide
 walk_at"mI";walk_at"oj";refine⟨a,xs,3,rfl,hx,x_,x_,λr ys hy r0 r1=>⟨ys,rfl,?_⟩⟩;walk_at"w";have al:As 26 (Str.ofString "abcdefghijklmnopqrstuvwxyz"):=a7 y_;have asl:=al.slice none (some (20+r));have ll:(Txt.slice (Str.ofString "abcdefghijklmnopqrstuvwxyz") none (some (20+r))).cps.toList.length<=22:=by rw[qF xL (by rw[show(Str.ofString "abcdefghijklmnopqrstuvwxyz").length=26 by decide +kernel]; omega),Ut];omega
 generalize Txt.slice (Str.ofString "abcdefghijklmnopqrstuvwxyz") none (some (20+r))=sl at asl ll;refine⟨y_,?_,by unfold fE;rw[tu];omega,?_⟩
 . rw[<- Wi,US];exact λc hc=>Uw (asl.asc c hc)
 unfold fE;refine Dq (enc:=λc=>D.str ⟨#[c]⟩) (λZ=>∃ys,gZ ys/\Z=[.own a ys]) (λy=>∃z,y=.str z/\As 400 z) _ _ _ _ ⟨ys,hy,rfl⟩ (λy hy=>by cases hy) ?_ ?_
 .
  rintro c hc Z ⟨ys,hy,rfl⟩ Q q
  have ac:As 1 ⟨#[c]⟩:=⟨Ul _,λd hd=>by
   have:d=c:=by simpa using hd
   subst this
   exact asl.asc d hc⟩
  have a1:=((a7 (n:=4) (x:=Str.ofString "ask ") y_).app ac).app (a7 (n:=6) (x:=Str.ofString "q 0 1 ") y_);have l1:=a1.len;have l2:=ac.len;rw[Vl,Vl]at l1;walk_at"oh";refine⟨xL,by rw[Vl];omega,a,ys,9,rfl,hy,x_,x_,λk zs hz k0 k1=>⟨zs,rfl,?_⟩⟩;walk_at"w";obtain⟨ak,lk⟩:=MO k0 k1;have:=ak.len;refine⟨lk,?_,?_⟩
  . rw[Vl,Vl];unfold cM at this;omega
  . exact q _ _ ⟨zs,hz,rfl⟩ ⟨_,rfl,(a1.app ak).mono x_⟩
 . rintro l' Z zs ⟨ys,hy,rfl⟩ hP kz;obtain⟨zs,rfl,hz⟩:=DE hP;rw[tu,UA,Nat.zero_add]at kz;intro b;refine MP hy hr n0 n1 hz xL λys zs hy hz Z=>?_;exact⟨_,eY (ys:=ys) v6 (aB aZ),h ys zs hy hz⟩
def eK:FS:=λls so=>∃(a:Addr)(xs:List D)(row:Str)(n:Nat),ls=[.own a xs,.d (.str row)]/\gZ xs/\As n row/\n<=3000/\∀(ys:List D)(z:Str),gZ ys->As (2*n+200) z->so (.d (.str z)) [.own a ys,.d (.str row)]
def di:W Fl:=(cf (ju 8 (D6 8 (bg aD 0 0 (gG 0 (aE (wC (.int 12)) aQ)))) (aG bF (aj 8) (bg aD 0 0 (gG 0 (aE (wC (.int 12)) aQ))))))
def gA:W Fl:=(a8 (lb (EK 8 (jO " " (aG aW (aG aW (gH (aj 2) none (some (aj 4))) (gH (aj 2) (some (aj 4)) (some (aG aW (aj 4) (wC (.int 1)))))) (gH (aj 2) (some (aj 4)) none)))))
  di)
def ig:W Fl:=(a8 (lb (EK 8 (jO " " (aG aW (aG aW (gH (aj 2) none (some (aj 4))) (jo (aE (aG bF (aj 7) (bg aD 0 0 (gG 0 (aE (wC (.int 20)) aQ)))) aQ))) (gH (aj 2) (some (aG aW (aj 4) (wC (.int 1)))) none)))))
  gA)
def dO:W Fl:=(a8 (lb (EK 8 (jO " " (aG aW (gH (aj 2) none (some (aj 4))) (gH (aj 2) (some (aG aW (aj 4) (wC (.int 1)))) none)))))
  ig)
def ij:W Fl:=(a8 (bP 8 (aG aW (aj 8) (jo (aE (br (zF (aj 1))) (aE (br (jO " " (gH (aj 2) none (some (QU BN (wC (.int 1))))))) (aE (br (aG aW (aj 1) (wC (.str " ")))) (aE (br (aG aW (wC (.str " ")) (aj 1))) (aE (br (jO "  " (aj 2))) aQ))))))))
  dO)
def ik:W Fl:=(a8 (bP 8 (jo (aE (br (aG aW (aG aW (gH (aj 1) none (some (aj 3))) (aj 6)) (gH (aj 1) (some (aj 3)) none))) (aE (br (aG aW (gH (aj 1) none (some (aj 3))) (gH (aj 1) (some (aG aW (aj 3) (wC (.int 1)))) none))) (aE (br (aG aW (aG aW (gH (aj 1) none (some (aj 3))) (aj 6)) (gH (aj 1) (some (aG aW (aj 3) (wC (.int 1)))) none))) (aE (br (aG aW (aj 1) (wC (.str " 1")))) aQ))))))
  ij)
def ip:W Fl:=(a8 (bP 7 (br (aG aW (aj 7) (jo (aE (br (aG lF (wC (.str "9")) (wC (.int 61)))) (aE (br (aG aW (wC (.str "1/")) (aG lF (wC (.str "7")) (wC (.int 61))))) (aE (br (aG lF (wC (.str "9")) (wC (.int 60)))) (aE (br (aG aW (wC (.str "1/")) (aG lF (wC (.str "7")) (wC (.int 60))))) aQ))))))))
  ik)
def dP:W Fl:=(a8 (bP 7 (br (jo (aE (wC (.str "")) (aE (wC (.str "0")) (aE (wC (.str "-1")) (aE (wC (.str "01")) (aE (wC (.str "1/1")) (aE (wC (.str "2/4")) (aE (wC (.str "0/3")) (aE (wC (.str "x")) (aE (wC (.str "A")) (aE (wC (.str "ask")) (aE (wC (.str "rooms")) (aE (wC (.str "99")) (aE (wC (.str "1/0")) (aE (wC (.str "abcdefghi")) (aE (wC (.str "1.5")) (aE (wC (.str "-")) aQ)))))))))))))))))))
  ip)
def iq:W Fl:=(a8 (bP 6 (aG bF (aj 5) (bg aD 0 0 (gG 0 (aE (br (a6 cg (aE (aj 5) aQ))) aQ)))))
  dP)
def ir:W Fl:=(a8 (bP 5 (br (aG aW (aG aW (wC (.str " !#$&'()*+,-./0123456789:;<=>?@ABCDEFGHIJKLMNOPQRSTUVWXYZ[]^_`az{|}~\t")) (wC (.str "\\"))) (wC (.str "\"")))))
  iq)
def iu:W Fl:=(a8 (bP 4 (br (bg aD 0 0 (gG 0 (aE (br (a6 cg (aE (aj 2) aQ))) aQ)))))
  ir)
def iw:W Fl:=(a8 (bP 3 (br (bg aD 0 0 (gG 0 (aE (br (aG aW (a6 cg (aE (aj 1) aQ)) (wC (.int 1)))) aQ)))))
  iu)
def fV:W Fl:=(a8 (bP 2 (br (j3 (aj 1) " ")))
  iw)
structure TQ (n:Nat) (row sign:Str) (words:List Str):Prop where
 nn:n<=3000
 row:As n row
 sg:As 1 sign
 ws:∀z∈words,As n z
 len:R9 words<=n+1
theorem Ol{a:Addr}{xs:List D}{x1 x2 x3 x4 x5 x6 x7:L}{b:Addr}{sm:List Str}{m:Nat}{Q:Fl->Ev->Prop}(hx:gZ xs)(hs:∀z∈sm,As m z)(hl:sm.length=12)(q:∀ys z,gZ ys->As m z->∀Z,Q (.rt (.d (.str z))) (.own a ys::x1::Z)) :
  di [.own a xs,x1,x2,x3,x4,x5,x6,x7,.own b (sm.map .str)] Q:=by
 walk_at"di";refine⟨a,xs,12,rfl,hx,x_,x_,λr ys hy r0 r1=>⟨ys,rfl,?_⟩⟩;walk_at"w";have hi:r.toNat<sm.length:=by omega
 refine⟨.str sm[r.toNat],lH r0 (by rw[UJ,Uu hi];rfl),?_⟩;exact q ys _ hy (hs _ (Vm hi)) _
theorem yF{sm:List Str}{m:Nat}{z:Str}(hs:∀z∈sm,As m z)(hz:As m z):∀w∈sm++[z],As m w:=λw hw=>by
 rcases Ur.mp hw with hw|hw
 . exact hs w hw
 . rw[Ux.mp hw];exact hz
theorem DF(sm:List Str)(z:Str):sm.map D.str++[D.str z]=(sm++[z]).map D.str:=by simp
theorem Py{a:Addr}{xs:List D}{row sign:Str}{words odd:List Str}{w:Nat}{x3 x5:L}{n:Nat}{b:Addr}{sm:List Str}{Q:Fl->Ev->Prop}(B:TQ n row sign words)(hx:gZ xs)(ho:∀z∈odd,As 70 z)(hol:odd.length=20)(hs:∀z∈sm,As (2*n+200) z)(hl:sm.length=9)(q:∀ys z,gZ ys->As (2*n+200) z->∀Z,Q (.rt (.d (.str z))) (.own a ys::.d (.str row)::Z)) :
  dO [.own a xs,.d (.str row),.d (.lst (words.map .str)),x3,.d (.int (w:Int)),x5,.d (.str sign),.d (.lst (odd.map .str)),.own b (sm.map .str)] Q:=by
 have e0:sizeLine=16777216:=by decide
 have nn:=B.nn;have len:=B.len;have wl:words.length<=n+1:=by unfold R9 at len;omega
 walk_at"dO";intro _ _;rw[cI,cI];have c1:=rE words none (some (w:Int));have c2:=rE words (some ((w:Int)+1)) none;have t1:=qH words w;have p1:=qG words w;have p2:m9 words (some ((w:Int)+1)) none=words.drop (w+1):=uW words (w+1);have p3:m9 words (some (w:Int)) none=words.drop w:=uW words w;have t2:R9 (words.drop (w+1))<=R9 (words.drop w):=by have:=qH (words.drop w) 1;rw[List.drop_drop]at this;omega
 rw[p1,p2];rw[p1]at c1;rw[p2]at c2
 have h8:∀z∈words.take w++words.drop (w+1),As n z:=λz hz=>by
  rcases Ur.mp hz with hz|hz
  . exact B.ws z (c1.2 z hz)
  . exact B.ws z (c2.2 z hz)
 have j8:=qI h8 (m:=2*n+200) (by rw[pd];omega) xL;refine⟨by rw[tu,tu,Ut,Uq];omega,λ_=>⟨words.take w++words.drop (w+1),by rw[Vg],j8.1,xL,?_⟩⟩;rw[DF];have hs1:=yF hs j8.2;generalize Txt.join (Str.ofString " ") (words.take w++words.drop (w+1))=z8 at hs1;walk_at"ig";intro _;refine⟨a,xs,20,rfl,hx,x_,x_,λr ys hy r0 r1=>⟨ys,rfl,?_⟩⟩;walk_at"w";have hi:r.toNat<odd.length:=by omega
 refine⟨.str odd[r.toNat],lH r0 (by rw[UJ,Uu hi];rfl),?_⟩;have ao:=ho _ (Vm hi);generalize odd[r.toNat]=o at ao;have lo:=ao.len;walk_at"w";rw[cI,cI,p1,p2]
 have h9:∀z∈words.take w++[o]++words.drop (w+1),As (n+70) z:=λz hz=>by
  rcases Ur.mp hz with hz|hz
  .
   rcases Ur.mp hz with hz|hz
   . exact(B.ws z (c1.2 z hz)).mono xL
   . rw[Ux.mp hz];exact ao.mono xL
  . exact(B.ws z (c2.2 z hz)).mono xL
 have j9:=qI h9 (m:=2*n+200) (by rw[pd,pd,JW];omega) xL;refine⟨x_,λ_=>⟨by simp only[tu,Ue,Ut,Uq,Uk,UA];omega,λ_ _=>⟨by simp only[tu,Ue,Ut,Uq,Uk,UA];omega,λ_=>⟨words.take w++[o]++words.drop (w+1),v6,j9.1,by rw[Ue,Us];omega,?_⟩⟩⟩⟩;rw[DF];have hs2:=yF hs1 j9.2;generalize Txt.join (Str.ofString " ") (words.take w++[o]++words.drop (w+1))=z9 at hs2;walk_at"gA";rw[cI,cI,cI,p1,p3];have c3:=rE words (some (w:Int)) (some ((w:Int)+1));generalize m9 words (some (w:Int)) (some ((w:Int)+1))=cw at c3;have lcw:cw.length<=n+1:=by have:=c3.1;unfold R9 at this len;omega
 have c4:=rE words (some (w:Int)) none;rw[p3]at c4
 have h10:∀z∈words.take w++cw++words.drop w,As n z:=λz hz=>by
  rcases Ur.mp hz with hz|hz
  .
   rcases Ur.mp hz with hz|hz
   . exact B.ws z (c1.2 z hz)
   . exact B.ws z (c3.2 z hz)
  . exact B.ws z (c4.2 z hz)
 have j10:=qI h10 (m:=2*n+200) (by rw[pd,pd];have:=c3.1;omega) xL;intro _ _;refine⟨by simp only[tu,Ue,Ut,Uq,Uk,UA];omega,λ_ _=>⟨by simp only[tu,Ue,Ut,Uq,Uk,UA];omega,λ_=>⟨words.take w++cw++words.drop w,v6,j10.1,by simp only[tu,Ue,Ut,Uq,Uk,UA];omega,?_⟩⟩⟩;rw[DF];exact Ol hy (yF hs2 j10.2) (by simp[hl]) q
theorem Om{n:Nat}{Z:Ev}{t:W L}(h:TS (As n) t Z)(hn:n<=1000000):TS (As n) (zF t) Z:=λso hp=>h _ λx hx=>⟨by have:=hx.len;omega,hp _ (by
 rw[PyProof.Rows.upper_ascii hx.asc];refine⟨?_,λc hc=>?_⟩
 . have:=hx.len;show(x.cps.map PyProof.Rows.up1).size<=n;rw[Array.size_map];exact this
 .
  have hc:c∈(x.cps.map PyProof.Rows.up1).toList:=hc;rw[Array.toList_map]at hc;obtain⟨d,hd,rfl⟩:=UW.mp hc;have:=hx.asc d hd;unfold PyProof.Rows.up1
  split<;>omega)⟩
theorem On{n:Nat}{row sign:Str}{words:List Str}{Z:Ev}(B:TQ n row sign words)(e:Z[2]?=some (.d (.lst (words.map D.str)))):TS (As (2*n+200)) (jO " " (gH (aj 2) none (some (QU BN (wC (.int 1)))))) Z:=λso hp=>by have nn:=B.nn;have len:=B.len;unfold jO gH aj;rw[e];show ∀ a,∃ zs,m9 (words.map D.str) none (some (-1))=zs.map D.str/\(zs.map (·.length)).sum+zs.length*(Str.ofString " ").length<=16777216/\so (.d (.str (Txt.join (Str.ofString " ") zs))) Z;intro a;rw[cI];have c1:=rE words none (some (-1));have j:=qI (λz hz=>B.ws z (c1.2 z hz)) (m:=2*n+200) xL xL;exact⟨_,rfl,j.1,hp _ j.2⟩
theorem Oo{n:Nat}{row sign:Str}{words:List Str}{Z:Ev}(B:TQ n row sign words)(e:Z[2]?=some (.d (.lst (words.map D.str)))):TS (As (2*n+200)) (jO "  " (aj 2)) Z:=λso hp=>by
 have nn:=B.nn;have len:=B.len;have e2:(Str.ofString "  ").length=2:=by decide +kernel
 unfold jO aj;rw[e];show ∃ zs,words.map D.str=zs.map D.str/\(zs.map (·.length)).sum+zs.length*(Str.ofString "  ").length<=16777216/\so (.d (.str (Txt.join (Str.ofString "  ") zs))) Z;unfold R9 vw at len;refine⟨words,rfl,by rw[e2];omega,?_⟩;rw[tj];exact hp _ (Ac (m:=2) (a7 y_) B.ws (by unfold vw;omega))
theorem Pz{a:Addr}{xs:List D}{row sign:Str}{words:List Str}{k:Int}{w:Nat}{x5:L}{n:Nat}{Q:Fl->Ev->Prop}(B:TQ n row sign words)(hx:gZ xs)(q:∀ys z,gZ ys->As (2*n+200) z->∀Z,Q (.rt (.d (.str z))) (.own a ys::.d (.str row)::Z)) :
  dP [.own a xs,.d (.str row),.d (.lst (words.map .str)),.d (.int k),.d (.int (w:Int)),x5,.d (.str sign),.un,.un] Q:=by
 unfold dP;refine Dj (P:=As 70) (k:=16) (Mx (Aa (ba (cG (a7 y_)) (ba (cG (a7 y_)) (ba (cG (a7 y_)) (ba (cG (a7 y_)) (ba (cG (a7 y_)) (ba (cG (a7 y_)) (ba (cG (a7 y_)) (ba (cG (a7 y_)) (ba (cG (a7 y_)) (ba (cG (a7 y_)) (ba (cG (a7 y_)) (ba (cG (a7 y_)) (ba (cG (a7 y_)) (ba (cG (a7 y_)) (ba (cG (a7 y_)) (ba (cG (a7 y_)) uU)))))))))))))))) x_)) λo1 l1 h1=>?_;unfold ip;refine Dj (P:=As 70) (k:=o1.length+4) (Mz (i:=7) rfl h1 (Aa (ba ((hZ (z7 (n:=1) (a7 y_) y_ x_ x_ x_)).mono λ_ h=>h.mono x_) (ba ((hZ (lI (cG (a7 (n:=2) y_)) (z7 (n:=1) (a7 y_) y_ x_ x_ x_) x_)).mono λ_ h=>h.mono x_) (ba ((hZ (z7 (n:=1) (a7 y_) y_ x_ x_ x_)).mono λ_ h=>h.mono x_) (ba ((hZ (lI (cG (a7 (n:=2) y_)) (z7 (n:=1) (a7 y_) y_ x_ x_ x_) x_)).mono λ_ h=>h.mono x_) uU)))) x_) xL) λo2 l2 h2=>?_;unfold ik;refine JX (P:=As (2*n+200)) (k:=4) (Aa (ba ((hZ (lI (lI (A0 (jy (i:=1) rfl B.row) o9 (z6 (i:=3) rfl) (by have:=B.nn;omega)) (jy (i:=6) rfl B.sg) (by have:=B.nn;omega)) (A0 (jy (i:=1) rfl B.row) (z6 (i:=3) rfl) o9 (by have:=B.nn;omega)) (by have:=B.nn;omega))).mono λ_ h=>h.mono (by have:=B.nn;omega)) (ba ((hZ (lI (A0 (jy (i:=1) rfl B.row) o9 (z6 (i:=3) rfl) (by have:=B.nn;omega)) (A0 (jy (i:=1) rfl B.row) (G5 (i:=3) rfl) o9 (by have:=B.nn;omega)) (by have:=B.nn;omega))).mono λ_ h=>h.mono (by have:=B.nn;omega)) (ba ((hZ (lI (lI (A0 (jy (i:=1) rfl B.row) o9 (z6 (i:=3) rfl) (by have:=B.nn;omega)) (jy (i:=6) rfl B.sg) (by have:=B.nn;omega)) (A0 (jy (i:=1) rfl B.row) (G5 (i:=3) rfl) o9 (by have:=B.nn;omega)) (by have:=B.nn;omega))).mono λ_ h=>h.mono (by have:=B.nn;omega)) (ba ((hZ (lI (jy (i:=1) rfl B.row) (cG (a7 (n:=2) y_)) (by have:=B.nn;omega))).mono λ_ h=>h.mono (by have:=B.nn;omega)) uU)))) x_) λb s1 m1 g1=>?_;unfold ij;refine JY (i:=8) (P:=As (2*n+200)) (k:=5) (ys:=s1) (a:=b) rfl g1 (Aa (ba ((hZ (Om (jy (i:=1) rfl B.row) (by have:=B.nn;omega))).mono λ_ h=>h.mono (by have:=B.nn;omega)) (ba (hZ (On B rfl)) (ba ((hZ (lI (jy (i:=1) rfl B.row) (cG (a7 (n:=1) y_)) (by have:=B.nn;omega))).mono λ_ h=>h.mono (by have:=B.nn;omega)) (ba ((hZ (lI (cG (a7 (n:=1) y_)) (jy (i:=1) rfl B.row) (by have:=B.nn;omega))).mono λ_ h=>h.mono (by have:=B.nn;omega)) (ba (hZ (Oo B rfl)) uU))))) x_) xL λb2 s2 m2 g2=>?_;exact Py B hx h2 xL g2 xL q
theorem pH:Wq 2 7 eK fV:=by
 rintro ls so - ⟨a,xs,row,n,rfl,hx,ar,n1,h⟩;unfold fV;have e0:sizeLine=16777216:=by decide
 have sp:=pZ ar (y:=Str.ofString " ") xL y_;have pa:=fK (y:=Str.ofString " ") ar;have ne:=nD row (Str.ofString " ");have sl:=Dr (x:=row);have lr:=ar.len;walk_at"w";refine⟨sp,λ_=>?_⟩
 revert pa ne sl
 generalize Txt.split row (Str.ofString " ")=words;intro pa ne sl;have hw:0<words.length:=List.length_pos_iff.mpr ne;walk_at"iw";refine⟨xL,a,xs,(row.length:Int)+1,rfl,hx,xL,xL,λk ys hy k0 k1=>⟨ys,rfl,?_⟩⟩;walk_at"w";walk_at"iu";refine⟨a,ys,(words.length:Int),rfl,hy,xL,xL,λw zs hz w0 w1=>⟨zs,rfl,?_⟩⟩;walk_at"w";walk_at"ir";refine⟨y_,y_,?_⟩;have apl:As 100 (Str.ofString " !#$&'()*+,-./0123456789:;<=>?@ABCDEFGHIJKLMNOPQRSTUVWXYZ[]^_`az{|}~\t"++Str.ofString "\\"++Str.ofString "\""):=a7 y_;have lpl:0 < (Str.ofString " !#$&'()*+,-./0123456789:;<=>?@ABCDEFGHIJKLMNOPQRSTUVWXYZ[]^_`az{|}~\t"++Str.ofString "\\"++Str.ofString "\"").length:=by decide +kernel
 generalize Str.ofString " !#$&'()*+,-./0123456789:;<=>?@ABCDEFGHIJKLMNOPQRSTUVWXYZ[]^_`az{|}~\t"++Str.ofString "\\"++Str.ofString "\""=pl at apl lpl;have lpl2:=apl.len;walk_at"iq";refine⟨xL,a,zs,(pl.length:Int),rfl,hz,xL,xL,λr us hu r0 r1=>⟨us,rfl,?_⟩⟩;walk_at"w";have hi:r.toNat<pl.cps.toList.length:=by rw[<- bf];omega
 refine⟨xL,pl.cps.toList[r.toNat],lH r0 (Uu hi),?_⟩
 have asg:As 1 ⟨#[pl.cps.toList[r.toNat]]⟩:=⟨Ul _,λd hd=>by
  have:d=pl.cps.toList[r.toNat]:=by simpa using hd
  subst this
  exact apl.asc _ (Vm hi)⟩
 obtain⟨w,rfl⟩:=UV w0;exact Pz ⟨n1,ar,asg,pa,by unfold R9;omega⟩ hu λys z hy hz Z=>⟨_,eY (ys:=ys) v6 (aB aZ),h ys z hy hz⟩
def gB:FS:=λls so=>∃(a:Addr)(xs:List D)(rows:List Str)(n m:Nat),ls=[.own a xs,.d (.lst (rows.map .str))]/\gZ xs/\w8 n m rows/\0<rows.length/\400<=n/\n<=1000/\m<=24 /\
 ∀(ys:List D)(zs:List Str),gZ ys->w8 (2*n+200) (max 24 (m+3)) zs->∀l,(l=.d (.lst (zs.map .str))∨∃b,l=.own b (zs.map .str))->so l [.own a ys,.d (.lst (rows.map .str))]
def i9:W Fl:=(cf (aG aW (aG aW (gH (aj 1) none (some (wC (.int 1)))) (Jq (aj 1))) (M1 (jo (aE (aG bF (aj 1) (wC (.int 0))) aQ)) (bg aD 0 0 (gG 0 (aE (wC (.int 2)) aQ))))))
def om:W Fl:=(a8 (QV (aR (aG oO (aj 3) (wC (.int 10)))) (cf (bg kB 0 0 (gG 0 (aE (aj 1) aQ)))) bu)
  i9)
def ou:W Fl:=(a8 (QV (aR (aG oO (aj 3) (wC (.int 9)))) (cf (aG aW (aG aW (aG aW (gH (aj 1) none (some (aj 2))) (jo (aE (wC (.str "")) aQ))) (gH (aj 1) (some (aj 2)) none)) (M1 (jo (aE (wC (.str "")) aQ)) (bg aD 0 0 (gG 0 (aE (wC (.int 2)) aQ)))))) bu)
  om)
def ja:W Fl:=(a8 (QV (aR (aG oO (aj 3) (wC (.int 8)))) (cf (aG aW (gH (aj 1) none (some (aj 2))) (gH (aj 1) (some (aG aW (aj 2) (wC (.int 1)))) none))) bu)
  ou)
def oy:W Fl:=(a8 (QV (aR (aG oO (aj 3) (wC (.int 7)))) (cf (aG aW (aG aW (gH (aj 1) none (some (aj 2))) (jo (aE (aG bF (aj 1) (aj 4)) aQ))) (gH (aj 1) (some (aj 2)) none))) bu)
  ja)
def oz:W Fl:=(a8 (QV (aR (aG oO (aj 3) (wC (.int 6)))) (cf (aG aW (aG aW (gH (aj 1) none (some (aj 2))) (gH (jo (aE (wC (.str "ask zzzzzzzz 0 1 1")) (aE (wC (.str "ask zzzzzzzz 1 0 2")) aQ))) none (some (aG aW (wC (.int 1)) (bg aD 0 0 (gG 0 (aE (wC (.int 2)) aQ))))))) (gH (aj 1) (some (aj 2)) none))) bu)
  oy)
def jb:W Fl:=(a8 (QV (aR (aG yW (aj 3) (wC (.int 6)))) (cf (aG aW (aG aW (gH (aj 1) none (some (aj 2))) (jo (aE (br (bg eK 0 0 (gG 0 (aE (aG bF (aj 1) (aj 2)) aQ)))) aQ))) (gH (aj 1) (some (aG aW (aj 2) (wC (.int 1)))) none))) bu)
  oz)
def oA:W Fl:=(a8 (bP 4 (br (bg aD 0 0 (gG 0 (aE (br (a6 cg (aE (aj 1) aQ))) aQ)))))
  jb)
def oB:W Fl:=(a8 (bP 3 (br (bg aD 0 0 (gG 0 (aE (wC (.int 12)) aQ)))))
  oA)
def mJ:W Fl:=(a8 (bP 2 (br (bg aD 0 0 (gG 0 (aE (br (a6 cg (aE (aj 1) aQ))) aQ)))))
  oB)
structure TR (n m:Nat) (rows:List Str) (k o:Nat):Prop where
 b:w8 n m rows
 k:k<rows.length
 o:o<rows.length
 n0:400<=n
 n1:n<=1000
 m1:m<=24
def TU(n m:Nat)(a:Addr)(rows:List Str)(Q:Fl->Ev->Prop):Prop:=∀(ys:List D)(zs:List Str),gZ ys->w8 (2*n+200) (max 24 (m+3)) zs->∀l,(l=.d (.lst (zs.map .str))∨∃b,l=.own b (zs.map .str))->∀Z,Q (.rt l) (.own a ys::.d (.lst (rows.map .str))::Z)
theorem fW(rows:List Str)(k:Nat):m9 (rows.map D.str) none (some (k:Int))=(rows.take k).map D.str:=by rw[cI,qG]
theorem oC(rows:List Str)(k:Nat):m9 (rows.map D.str) (some (k:Int)) none=(rows.drop k).map D.str:=by rw[cI,uW]
theorem tZ(rows:List Str)(k:Nat):m9 (rows.map D.str) (some ((k:Int)+1)) none=(rows.drop (k+1)).map D.str:=oC rows (k+1)
theorem TR.fin{n m:Nat}{rows:List Str}{k o:Nat}{a:Addr}{Q:Fl->Ev->Prop}(B:TR n m rows k o)(q:TU n m a rows Q){ys:List D}(hy:gZ ys){ws:List Str}(h1:∀z∈ws,As (2*n+200) z)(h2:ws.length<=m+3){c:Addr}{ds:List D}(e:ds=ws.map D.str)(Z:Ev):Q (.rt (.own c ds)) (.own a ys::.d (.lst (rows.map .str))::Z):=by subst e;exact q ys ws hy ⟨h1,Uv h2 (Nat.le_max_right _ _)⟩ _ (.inr ⟨c,rfl⟩) Z
theorem TR.up{n m:Nat}{rows:List Str}{k o:Nat}(B:TR n m rows k o){z:Str}(h:z∈rows):As (2*n+200) z:=(B.b.as z h).mono xL
theorem eL{P:Str->Prop}{a b:List Str}(h1:∀z∈a,P z)(h2:∀z∈b,P z):∀z∈a++b,P z:=λz hz=>(Ur.mp hz).elim (h1 z) (h2 z)
theorem yG{P:Str->Prop}{a:Str}(h:P a):∀z∈[a],P z:=λz hz=>by rw[Ux.mp hz];exact h
theorem kT(d:D)(r:Int)(h0:0<=r)(h1:r<2):(List.replicate r.toNat [d]).flatten=List.replicate r.toNat d/\r.toNat<=1:=by
 rcases(by omega:r=0∨r=1)with rfl|rfl
 . exact⟨rfl,x_⟩
 . exact⟨rfl,x_⟩
theorem PD{n m:Nat}{rows:List Str}{k o:Nat}{a:Addr}{xs:List D}{x2 x3 x4:L}{Q:Fl->Ev->Prop}(B:TR n m rows k o)(hx:gZ xs)(q:TU n m a rows Q) :
  i9 [.own a xs,.d (.lst (rows.map .str)),x2,x3,x4] Q:=by
 have e0:sizeLine=16777216:=by decide
 have hl:=B.b.len;have hk:=B.k;have m1:=B.m1;walk_at"i9";intro _ _;rw[show m9 (rows.map D.str) none (some 1)=(rows.take 1).map D.str from fW rows 1,<- List.map_drop,<- List.map_reverse];have h0:0<rows.length:=by omega
 refine⟨by simp only[tu,Ue,Ut,Uq,UK,Uk,UA,UU,UY,Us];omega,λ_=>⟨.str rows[0],lH x_ (by rw[UJ];simp[h0]),x_,λ_=>⟨a,xs,2,rfl,hx,x_,x_,λr ys hy r0 r1=>⟨ys,rfl,?_⟩⟩⟩⟩;walk_at"w";obtain⟨ef,hr⟩:=kT (.str rows[0]) r r0 r1;rw[ef];refine⟨⟨r0,xL⟩,xL,λ_=>⟨by simp only[tu,Ue,Ut,Uq,UK,VI];omega,λ_=>?_⟩⟩;refine B.fin q hy (ws:=rows.take 1++(rows.drop 1).reverse++List.replicate r.toNat rows[0]) (eL (eL (λz hz=>B.up (U3 hz)) λz hz=>B.up (Vp (List.mem_reverse.mp hz))) λz hz=>?_) ?_ ?_ _
 . rw[List.eq_of_mem_replicate hz];exact B.up (Vm h0)
 . simp only[Ue,Ut,Uq,UK,VI];omega
 . simp
theorem PF{n m:Nat}{rows:List Str}{k o:Nat}{a:Addr}{xs:List D}{w:Int}{Q:Fl->Ev->Prop}(B:TR n m rows k o)(hx:gZ xs)(q:TU n m a rows Q) :
  ja [.own a xs,.d (.lst (rows.map .str)),.d (.int (k:Int)),.d (.int w),.d (.int (o:Int))] Q:=by
 have e0:sizeLine=16777216:=by decide
 have hl:=B.b.len;have hk:=B.k;have m1:=B.m1;walk_at"ja";by_cases c8:w=8
 . rw[if_pos c8];intro _ _;rw[fW,tZ];exact⟨by simp only[tu,Ue,Ut,Uq,UK,Uk,UA,UU,UY,Us];omega,λ_=>B.fin q hx (ws:=rows.take k++rows.drop (k+1)) (eL (λz hz=>B.up (U3 hz)) λz hz=>B.up (Vp hz)) (by simp only[tu,Ue,Ut,Uq,UK,Uk,UA,UU,UY,Us];omega) v6 _⟩
 rw[if_neg c8];walk_at"ou";by_cases c9:w=9
 .
  rw[if_pos c9];have a0:As (2*n+200) (Str.ofString ""):=a7 (n:=0) y_ |>.mono xL;rw[fW,oC];refine λ_=>⟨x_,λ_=>⟨by simp only[tu,Ue,Ut,Uq,UK,Uk,UA,UU,UY,Us];omega,λ_ _=>⟨by simp only[tu,Ue,Ut,Uq,UK,Uk,UA,UU,UY,Us];omega,λ_=>⟨x_,λ_=>⟨a,xs,2,rfl,hx,x_,x_,λr ys hy r0 r1=>⟨ys,rfl,?_⟩⟩⟩⟩⟩⟩;walk_at"w";obtain⟨ef,hr⟩:=kT (.str (Str.ofString "")) r r0 r1;rw[ef];refine⟨⟨r0,xL⟩,xL,λ_=>⟨by simp only[tu,Ue,Ut,Uq,Uk,UA,VI];omega,λ_=>?_⟩⟩;refine B.fin q hy (ws:=rows.take k++[Str.ofString ""]++rows.drop k++List.replicate r.toNat (Str.ofString "")) (eL (eL (eL (λz hz=>B.up (U3 hz)) (yG a0)) λz hz=>B.up (Vp hz)) λz hz=>?_) ?_ ?_ _
  . rw[List.eq_of_mem_replicate hz];exact a0
  . simp only[Ue,Ut,Uq,Uk,UA,VI];omega
  . simp
 rw[if_neg c9];walk_at"om";by_cases c10:w=10
 . rw[if_pos c10];refine⟨a,xs,rows,n,rfl,hx,⟨B.b.as,xL⟩,B.n0,by have:=B.n1;omega,λys zs hy hz=>⟨ys,rfl,?_⟩⟩;exact q ys zs hy ⟨λz hm=>(hz.as z hm).mono xL,Uv hz.len (Nat.le_max_left _ _)⟩ _ (.inl rfl) _
 rw[if_neg c10];exact PD B hx q
theorem PH{n m:Nat}{rows:List Str}{k o:Nat}{a:Addr}{xs:List D}{w:Int}{Q:Fl->Ev->Prop}(B:TR n m rows k o)(hx:gZ xs)(q:TU n m a rows Q) :
  jb [.own a xs,.d (.lst (rows.map .str)),.d (.int (k:Int)),.d (.int w),.d (.int (o:Int))] Q:=by
 have e0:sizeLine=16777216:=by decide
 have hl:=B.b.len;have hk:=B.k;have m1:=B.m1;walk_at"jb";by_cases c5:w<6
 . rw[if_pos c5];intro _;refine⟨.str rows[k],lH xL (by rw[UJ,Int.toNat_natCast,Uu hk];rfl),a,xs,rows[k],n,rfl,hx,B.b.as _ (Vm hk),by have:=B.n1;omega,λys z hy hz=>⟨ys,rfl,?_⟩⟩;walk_at"w";rw[fW,tZ];exact⟨x_,λ_=>⟨by simp only[tu,Ue,Ut,Uq,UK,Uk,UA,UU,UY,Us];omega,λ_ _=>⟨by simp only[tu,Ue,Ut,Uq,UK,Uk,UA,UU,UY,Us];omega,λ_=>B.fin q hy (ws:=rows.take k++[z]++rows.drop (k+1)) (eL (eL (λz hz=>B.up (U3 hz)) (yG hz)) λz hz=>B.up (Vp hz)) (by simp only[tu,Ue,Ut,Uq,UK,Uk,UA,UU,UY,Us];omega) v6 _⟩⟩⟩
 rw[if_neg c5];walk_at"oz";by_cases c6:w=6
 .
  rw[if_pos c6];have a1:As (2*n+200) (Str.ofString "ask zzzzzzzz 0 1 1"):=a7 (n:=18) y_ |>.mono xL;have a2:As (2*n+200) (Str.ofString "ask zzzzzzzz 1 0 2"):=a7 (n:=18) y_ |>.mono xL;refine λ_=>⟨x_,λ_=>⟨a,xs,2,rfl,hx,x_,x_,λr ys hy r0 r1=>⟨ys,rfl,?_⟩⟩⟩;walk_at"w";obtain⟨r,rfl⟩:=UV r0;have ec:m9 [D.str (Str.ofString "ask zzzzzzzz 0 1 1"),D.str (Str.ofString "ask zzzzzzzz 1 0 2")] none (some (1+(r:Int)))=(([Str.ofString "ask zzzzzzzz 0 1 1",Str.ofString "ask zzzzzzzz 1 0 2"]:List Str).take (1+r)).map D.str:=by rw[show(1:Int)+(r:Int)=((1+r:Nat):Int) by omega];exact fW [Str.ofString "ask zzzzzzzz 0 1 1",Str.ofString "ask zzzzzzzz 1 0 2"] (1+r)
  rw[fW,oC,ec];have lt:(([Str.ofString "ask zzzzzzzz 0 1 1",Str.ofString "ask zzzzzzzz 1 0 2"]:List Str).take (1+r)).length<=2:=by rw[Ut]; simp only[Uk,UA]; omega
  have mt2:∀ z∈(([Str.ofString "ask zzzzzzzz 0 1 1",Str.ofString "ask zzzzzzzz 1 0 2"]:List Str).take (1+r)),As (2*n+200) z:=λz hz=>by
   have:=U3 hz;simp only[Uo,VY,or_false]at this;rcases this with rfl|rfl
   . exact a1
   . exact a2
  generalize (([Str.ofString "ask zzzzzzzz 0 1 1",Str.ofString "ask zzzzzzzz 1 0 2"]:List Str).take (1+r))=QO at lt mt2;exact λ_=>⟨by simp only[tu,Ue,Ut,Uq,UK,Uk,UA,UU,UY,Us];omega,λ_ _=>⟨by simp only[tu,Ue,Ut,Uq,UK,Uk,UA,UU,UY,Us];omega,λ_=>B.fin q hy (ws:=rows.take k++QO++rows.drop k) (eL (eL (λz hz=>B.up (U3 hz)) mt2) λz hz=>B.up (Vp hz)) (by simp only[tu,Ue,Ut,Uq,UK,Uk,UA,UU,UY,Us];omega) v6 _⟩⟩
 rw[if_neg c6];walk_at"oy";by_cases c7:w=7
 . rw[if_pos c7];have ho:=B.o;rw[fW,oC];exact λ_=>⟨.str rows[o],lH xL (by rw[UJ,Int.toNat_natCast,Uu ho];rfl),x_,λ_=>⟨by simp only[tu,Ue,Ut,Uq,UK,Uk,UA,UU,UY,Us];omega,λ_ _=>⟨by simp only[tu,Ue,Ut,Uq,UK,Uk,UA,UU,UY,Us];omega,λ_=>B.fin q hx (ws:=rows.take k++[rows[o]]++rows.drop k) (eL (eL (λz hz=>B.up (U3 hz)) (yG (B.up (Vm ho)))) λz hz=>B.up (Vp hz)) (by simp only[tu,Ue,Ut,Uq,UK,Uk,UA,UU,UY,Us];omega) v6 _⟩⟩⟩
 rw[if_neg c7];exact PF B hx q
theorem vj:Wq 2 3 gB mJ:=by
 rintro ls so - ⟨a,xs,rows,n,m,rfl,hx,hr,h0,n0,n1,m1,h⟩;have e0:sizeLine=16777216:=by decide
 have hl:=hr.len;walk_at"mJ";refine⟨a,xs,(rows.length:Int),rfl,hx,xL,xL,λk ys hy k0 k1=>⟨ys,rfl,?_⟩⟩;walk_at"w";walk_at"oB";refine⟨a,ys,12,rfl,hy,x_,x_,λw zs hz w0 w1=>⟨zs,rfl,?_⟩⟩;walk_at"w";walk_at"oA";refine⟨a,zs,(rows.length:Int),rfl,hz,xL,xL,λo us hu o0 o1=>⟨us,rfl,?_⟩⟩;walk_at"w";obtain⟨k,rfl⟩:=UV k0;obtain⟨o,rfl⟩:=UV o0;exact PH ⟨hr,xL,xL,n0,n1,m1⟩ hu λys zs hy hz l hl Z=>⟨_,eY (ys:=ys) v6 (aB aZ),h ys zs hy hz l hl⟩
def dj:FS:=λls so=>∃x:Str,ls=[.d (.str x)]/\x.length<=100000/\(∀c∈x.cps.toList,c<128)/\so (.d (R5 (aI x))) ls
def gO:W Fl:=(cf (a6 v9 (aE (aj 0) aQ)))
def lV:W L:=(aj 0)
def lW:W Fl:=(a8 (QV (HJ (aR (aG oO (aG bF (aj 1) (wC (.int 0))) (wC (.str "0")))) (aR (aG vt (aj 0) (wC (.str "0"))))) (cf (wC .non)) bu)
  gO)
def gQ:W Fl:=(a8 (QV (QS (aR (aG oO (aj 1) (wC (.str "")))) (QS (aR (aG EF (a6 cg (aE (aj 1) aQ)) (wC (.int 60)))) (aR (aG vt (jN 1 [] (x8 (aj 1)) (bL 0) (l5 (aR (l8 (wC (.str "0")) [(sF,(aj 0)),(sF,(wC (.str "9")))]))) lV) (jo aQ))))) (cf (wC .non)) bu)
  lW)
def lX:W Fl:=(a8 (QV (aR (aG oO (gH (aj 0) none (some (wC (.int 1)))) (wC (.str "-")))) (bP 1 (br (gH (aj 0) (some (wC (.int 1))) none))) bu)
  gQ)
def kC:W Fl:=(a8 (bP 1 (aj 0))
  lX)
theorem J6(l:List Nat):(l.filterMap λc=>if tM c=true then none else some (D.str ⟨#[c]⟩))=(l.filter λc=>!tM c).map λc=>D.str ⟨#[c]⟩:=by
 induction l with
 |nil=>rfl
 | cons c l ih =>
  cases e:tM c<;>simp[Vw,VZ,e,ih]
theorem J8(l:List Nat):(l.filter λc=>!tM c).isEmpty=l.all tM:=by
 induction l with
 |nil=>rfl
 | cons c l ih =>
  cases e:tM c<;>simp[VZ,e,ih]
theorem DG{x f:Str}{so:L->List L->Prop}(hf:f.cps.toList=gn x.cps.toList)(hx:x.length<=100000)(ha:∀c∈x.cps.toList,c<128)(h:so (.d (R5 (aI x))) [.d (.str x)]):gQ [.d (.str x),.d (.str f)] (bB [.d (.str x)] so):=by
 have fl:f.length<=100000:=by
  rw[bf]at hx;rw[bf,hf];unfold gn;split
  . rw[List.length_tail];omega
  . exact hx
 have fm:∀c∈f.cps.toList,c<128:=by
  intro c hc;rw[hf]at hc;refine ha c ?_;unfold gn at hc;split at hc
  . exact List.mem_of_mem_tail hc
  . exact hc
 have fa:(f.cps.all λx=>decide (x<128))=true:=by rw[<- Wi,US];exact λc hc=>Uw (fm c hc)
 have e1:sizeLine=16777216:=by decide
 have el:=bf f;rw[hf]at el;walk_at"gQ";have s0:(Str.ofString "").cps.toList=[]:=by decide +kernel
 refine⟨fJ fm,bq (n:=0) y_ x_,?_⟩;by_cases c0:f=Str.ofString ""
 . rw[if_pos c0];rw[o8 (λz=>z.2.1 (by rw[<- hf,c0,s0]))]at h;exact⟨_,aB aZ,h⟩
 have n0:gn x.cps.toList≠[]:=λz=>c0 (mh (by rw[hf,z,s0]));rw[if_neg c0];refine⟨xL,?_⟩;by_cases c2:60<(f.length:Int)
 . rw[if_pos c2];rw[o8 (λz=>by omega)]at h;exact⟨_,aB aZ,h⟩
 rw[if_neg c2];refine⟨fa,by unfold fE;rw[tu,<- bf];omega,?_⟩;unfold fE
 refine hX (enc:=λc=>D.str ⟨#[c]⟩) (h:=λc=>if tM c=true then none else some (D.str ⟨#[c]⟩)) _ _ _ (λc hc Q q=>?_) λl'=>?_
 .
  walk_at"lV";unfold tM at q
  cases e1:iM (Str.ofString "0") ⟨#[c]⟩with
  |false=>simpa[e1]using q
  | true =>
   cases e2:iM ⟨#[c]⟩ (Str.ofString "9")with
   |false=>simpa[e1,e2]using q
   |true=>simpa[e1,e2]using q
 .
  walk_at"w";refine λ_=>⟨x_,λ_=>?_⟩;have eqq:Q1 (D.lst ((f.cps.toList.filter λc=>!tM c).map λc=>D.str ⟨#[c]⟩)) (D.lst [])=(gn x.cps.toList).all tM:=by rw[uO,List.isEmpty_map,J8,hf]
  rw[J6];refine⟨bq (n:=1) (by simp only[Rc];refine fg _ λc hc=>?_;simp only[Rc];exact Mp (JK fa (V6.mp hc).1)) x_,bq (n:=1) y_ x_,?_⟩;by_cases d:(gn x.cps.toList).all tM=true
  .
   rw[if_neg (by rw[eqq,d];decide)];have ad:=(uR _).mp d;walk_at"lW";have fin:((gn x.cps.toList).head?=some 48->x=Str.ofString "0")->gO [.d (.str x),.d (.str f)] (bB [.d (.str x)] so):=λh4=>by obtain⟨n,r1,r2,r3,r4⟩:=Mv ad n0 xL h4;rw[r4]at h;walk_at"gO";exact⟨n,r2,r1,_,aB aZ,h⟩
   cases ef:gn x.cps.toList with
   |nil=>exact absurd ef n0
   | cons c l =>
    rw[ef]at hf fin;have z0:Str.ofString "0"=⟨#[48]⟩:=by decide +kernel
    refine⟨xL,c,by rw[hf];exact uI,fJ (by simpa using fm c (by rw[hf];simp)),bq (n:=0) y_ x_,?_⟩;by_cases g:c=48
    .
     rw[if_pos (by rw[g,z0])];refine⟨fJ ha,bq (n:=0) y_ x_,?_⟩;by_cases k:x=Str.ofString "0"
     . rw[if_neg (λz=>z k)];exact fin λ_=>k
     . rw[if_pos k];rw[Dd (by rw[ef,g];rfl) k]at h;exact⟨_,aB aZ,h⟩
    . rw[if_neg (by rw[z0];intro z;cases z;exact g rfl)];exact fin λz=>by cases z;exact absurd rfl g
  . rw[if_pos (by rw[eqq];exact VF.mpr d)];rw[o8 (λz=>d ((uR _).mpr z.1))]at h;exact⟨_,aB aZ,h⟩
theorem sQ:Wq 1 1 dj kC:=by
 rintro ls so - ⟨x,rfl,hx,ha,h⟩;have e1:sizeLine=16777216:=by decide
 walk_at"kC";walk_at"lX";refine⟨xL,fJ (Df ha),bq (n:=0) y_ x_,?_⟩;by_cases c:x.cps.toList.head?=some 45
 . rw[if_pos ((De x).mpr c)];exact⟨xL,DG (wB c) hx ha h⟩
 . rw[if_neg (λz=>c ((De x).mp z))];exact DG (zX c) hx ha h
def cK:FS:=λls so=>∃x:Str,ls=[.d (.str x)]/\As 100000 x/\so (.d (Kt (D8 x))) ls
def ix:W Fl:=(cf (um 2))
def dQ:W Fl:=(a8 (QV (aR (aG vt (bJ i4 (aE (aG bF (aj 2) (wC (.int 0))) (aE (aG bF (aj 2) (wC (.int 1))) aQ))) (aj 2))) (cf (wC .non)) bu)
  ix)
def dR:W Fl:=(a8 (bP 2 (uo (aE (aG bF (aj 1) (wC (.int 0))) (aE (aG bF (aG aW (aj 1) (jo (aE (wC (.int 1)) aQ))) (wC (.int 1))) aQ))))
  dQ)
def iy:W L:=(bJ dj (aE (aj 0) aQ))
def dS:W Fl:=(a8 (QV (QS (aR (aG (EN false) (wC .non) (aj 1))) (QS (aR (aG EF (a6 cg (aE (aj 1) aQ)) (wC (.int 2)))) (HJ (aR (aG oO (a6 cg (aE (aj 1) aQ)) (wC (.int 2)))) (aR (aG yW (aG bF (aj 1) (wC (.int 1))) (wC (.int 2))))))) (cf (wC .non)) bu)
  dR)
def fX:W Fl:=(a8 (bP 1 (jN 1 [] (D4 (j3 (aj 0) "/")) (bL 0) g9 iy))
  dS)
theorem J9:∀o:Option Int,oS (R5 o)=true
 |none=>rfl
 |some _=>rfl
theorem Gx(ps:List Str):(ps.map λp=>R5 (aI p)).all oS=true:=by rw[List.all_map];exact US.mpr λp _=>J9 _
theorem Ka(ps:List Str):QE .non (ps.map λp=>R5 (aI p))=ps.any λp=>(aI p).isNone:=by
 unfold QE;rw[List.any_map]
 congr 1
 funext p
 show Q8 (R5 (aI p)) .non=_;cases aI p<;>rfl
theorem MQ{t b:Int}(hb:1<=b):Q1 (Rb (Rat.divInt t b)) (.tup [.int t,.int b])=decide (Int.gcd t b=1):=by
 unfold Rb;rw[xU,hU,hU,uD,jZ,jZ,Bool.and_true];have:=JJ (i:=t) (j:=b) xL;by_cases g:Int.gcd t b=1
 . obtain⟨h1,h2⟩:=this.mpr xL;rw[Uw g,Uw h1,Uw h2];rfl
 .
  rw[Uy g];have n:¬((Rat.divInt t b).num=t/\((Rat.divInt t b).den:Int)=b):=λz=>g (by have:=this.mp z;omega);by_cases h1:(Rat.divInt t b).num=t
  . rw[Uw h1,Uy (λz=>n ⟨h1,z⟩)];rfl
  . rw[Uy h1];rfl
theorem Hb{x:Str}{t b:Int}{ds:List D}{so:L->List L->Prop}(hb:1<=b)(hz:b.natAbs<10^60)(h1:Int.gcd t b=1->so (.d (.tup [.int t,.int b])) [.d (.str x)])(h2:Int.gcd t b≠1->so (.d .non) [.d (.str x)]) :
  dQ [.d (.str x),.d (.lst ds),.d (.tup [.int t,.int b])] (bB [.d (.str x)] so):=by
 walk_at"dQ";refine⟨t,b,rfl,xL,Nat.lt_trans hz (Uj (show 10^60<2^200 by decide) (U9 x_ x_)),?_⟩;walk_at"w";refine⟨bq (n:=1) (by simp[Rc,lh]) x_,?_⟩;rw[MQ hb];by_cases g:Int.gcd t b=1
 . rw[if_neg (by rw[Uw g];decide)];walk_at"ix";exact⟨_,aB aZ,h1 g⟩
 . rw[if_pos (Uy g)];exact⟨_,aB aZ,h2 g⟩
theorem MR{x:Str}{a:Addr}{ps:List Str}{so:L->List L->Prop}(h:so (.d (Kt (MJ ps))) [.d (.str x)])(pa:∀p∈ps,As 100000 p)(ne:ps≠[]) :
  dS [.d (.str x),.own a (ps.map λp=>R5 (aI p)),.un] (bB [.d (.str x)] so):=by
 walk_at"dS";refine⟨rfl,Gx ps,?_⟩;rw[Ka];by_cases c:(ps.any λp=>(aI p).isNone)=true
 .
  rw[if_pos c]
  have e:MJ ps=none:=by
   match ps,c with
   |[],_=>rfl
   | [p],c =>
    have:aI p=none:=by simpa using c
    show(aI p).map _=none;rw[this];rfl
   | [p,q],c =>
    have:aI p=none∨aI q=none:=by simpa using c
    show(match aI p,aI q with|some t,some b=>if 2<=b/\Int.gcd t b=1 then some (t,b)else none|_,_=>none)=none
    rcases this with z|z
    . rw[z]
    . rw[z];cases aI p<;>rfl
   |_::_::_::_,_=>rfl
  rw[e]at h;exact⟨_,aB aZ,h⟩
 .
  rw[if_neg c]
  match ps,ne,c,h with
  |[],ne,_,_=>exact absurd rfl ne
  | [p],_,c,h =>
   obtain⟨t,et⟩:∃t,aI p=some t:=Option.ne_none_iff_exists'.mp (by simpa using c);have e:MJ [p]=some (t,1):=by show(aI p).map _=_;rw[et];rfl
   rw[e]at h;rw[if_neg (by simp),if_neg (by simp)];rw[List.map_singleton,et];unfold dR R5;walk_at"w";refine⟨x_,λa=>⟨x_,λa2=>⟨x_,?_⟩⟩⟩;exact Hb x_ x_ (λ_=>h) λz=>absurd (Int.gcd_one_right t) z
  | [p,q],_,c,h =>
   have c2:aI p≠none/\aI q≠none:=by simpa using c
   obtain⟨t,et⟩:=Option.ne_none_iff_exists'.mp c2.1;obtain⟨b,eb⟩:=Option.ne_none_iff_exists'.mp c2.2
   have e:MJ [p,q]=if 2<=b/\Int.gcd t b=1 then some (t,b)else none:=by
    show(match aI p,aI q with|some t,some b=>if 2<=b/\Int.gcd t b=1 then some (t,b)else none|_,_=>none)=_
    rw[et,eb]
   have hz:=(j7 eb).2;rw[e]at h;rw[if_neg (by simp),if_pos (by simp)];rw[UC,List.map_singleton,et,eb];refine⟨.int b,rfl,?_⟩
   show if b<2 then _ else _
   by_cases h2:2<=b
   .
    rw[if_neg (by omega)];unfold dR R5;walk_at"w";refine⟨x_,λa=>⟨x_,λa2=>⟨x_,?_⟩⟩⟩;refine Hb xL hz (λz=>?_) λz=>?_
    . rwa [if_pos ⟨h2,z⟩]at h
    . rwa [if_neg (λy=>z y.2)]at h
   . rw[if_pos (by omega)];rw[if_neg (λy=>h2 y.1)]at h;exact⟨_,aB aZ,h⟩
  | p::q::r::s,_,_,h =>
   rw[if_pos (by simp only[Uk];omega)];exact⟨_,aB aZ,h⟩
theorem pJ:Wq 1 2 cK fX:=by
 rintro ls so - ⟨x,rfl,ax,h⟩;have sp:=pZ ax (y:=Str.ofString "/") x_ y_;have pa:=fK (y:=Str.ofString "/") ax;have ne:=nD x (Str.ofString "/");have sl:=sp.2.2;unfold D8 at h;walk_at"fX";refine⟨sp,λa0=>?_⟩
 revert h pa ne sl
 generalize Txt.split x (Str.ofString "/")=ps;intro h pa ne sl;refine⟨sl,ff (enc:=D.str) (h:=λp=>R5 (aI p)) ps [] _ (λz hz Q q=>?_) λl'=>?_⟩
 . have az:=pa z hz;walk_at"iy";refine⟨z,rfl,az.len,az.asc,?_⟩;walk_at"w";exact q
 . walk_at"w";intro a;exact MR h pa ne
def eM:FS:=λls so=>∃x:Str,ls=[.d (.str x)]/\As 100000 x/\so (.d (dh x)) ls
def iz:W L:=(aj 0)
def iA:W Fl:=(cf (um 2))
def iB:W Fl:=(a8 (QV (aR (aG vt (jN 1 [] (D4 (aj 2)) (bL 0) (aR (aG yW (aG bF (aj 0) (wC (.int 0))) (wC (.int 1)))) iz) (jo aQ))) (cf (wC .non)) bu)
  iA)
def iC:W L:=(bJ cK (aE (aj 0) aQ))
def iD:W Fl:=(a8 (QV (QS (aR (aG vt (aG bF (aj 1) (wC (.int 0))) (wC (.str "rooms")))) (QS (l5 (aR (jv vq vq (wC (.int 2)) (a6 cg (aE (aj 2) aQ)) (wC (.int 12))))) (aR (aG (Lz false) (wC .non) (aj 2))))) (cf (wC .non)) bu)
  iB)
def iE:W Fl:=(a8 (bP 2 (jN 1 [] (D4 (gH (aj 1) (some (wC (.int 1))) none)) (bL 0) g9 iC))
  iD)
def fY:W Fl:=(a8 (bP 1 (br (j3 (aj 0) " ")))
  iE)
theorem MS{x:Str}{w:Str}{ws:List Str} (e:Txt.split x (Str.ofString " ")=w::ws):gv x=if w=Str.ofString "rooms" then .lst (ws.map gh)else .non:=by unfold gv;rw[e]
theorem w9{x:Str}{w:Str}{ws:List Str} (e:Txt.split x (Str.ofString " ")=w::ws) (h:w=Str.ofString "rooms"->¬ ((2<=ws.length/\ws.length<=12)/\∀ r∈ws.map gh,R1 r=true)):dh x=.non:=by
 unfold dh;rw[MS e];by_cases c:w=Str.ofString "rooms"
 . rw[if_pos c];exact if_neg (λz=>h c (by have:=(mz _).mp z;rwa [tu]at this))
 . rw[if_neg c];exact if_neg (λz=>by cases z)
theorem Kb{x:Str}{ws:List Str} (e:Txt.split x (Str.ofString " ")=Str.ofString "rooms"::ws) (h:(2<=ws.length/\ws.length<=12)/\∀ r∈ws.map gh,R1 r=true):dh x=.lst (ws.map gh):=by unfold dh;rw[MS e,if_pos rfl];exact if_pos ((mz _).mpr (by rwa [tu]))
theorem Gy(z:Str):Rc 1 (gh z)=true:=by
 rcases ib z with e|⟨t,b,e,_⟩
 . rw[e];rfl
 . rw[e];simp[Rc,lh]
theorem Kc(ws:List Str):ws.filterMap (λz=>if R1 (gh z)=true then none else some (gh z))=(ws.filter λz=>!R1 (gh z)).map gh:=by
 induction ws with
 |nil=>rfl
 |cons z ws ih=>cases e:R1 (gh z)<;>simp[Vw,VZ,e,ih]
theorem DH(ws:List Str):((ws.filter λz=>!R1 (gh z)).map gh).isEmpty=true↔∀r∈ws.map gh,R1 r=true:=by
 rw[List.isEmpty_iff,List.map_eq_nil_iff,List.filter_eq_nil_iff];constructor
 . intro h r hr;obtain⟨z,hz,rfl⟩:=UW.mp hr;simpa using h z hz
 . intro h z hz;simpa using h _ (List.mem_map_of_mem (f:=gh) hz)
theorem DI(d:D):Q1 d .non=(match d with | .non=>true|_=>false):=by cases d<;>simp[Q1,Q0,PyData.eqv]
theorem A7(z:Str):cq (gh z):=by
 rcases ib z with e|⟨t,b,e,_⟩
 . rw[e];exact bq (n:=0) rfl x_
 . rw[e];exact bq (n:=1) (by simp[Rc,lh]) x_
theorem pK:Wq 1 2 eM fY:=by
 rintro ls so - ⟨x,rfl,ax,h⟩;have sp:=pZ ax (y:=Str.ofString " ") x_ y_;have pa:=fK (y:=Str.ofString " ") ax;obtain⟨w,ws,e⟩:=ic x (Str.ofString " ");have sl:=sp.2.2;rw[e,Uk]at sl;rw[e]at pa;walk_at"fY";refine⟨sp,λa0=>?_⟩;rw[e,UC];walk_at"iE";intro a1;rw[va];refine⟨by rw[tu];omega,ff (enc:=D.str) (h:=gh) ws [] _ (λz hz Q q=>?_) λl'=>?_⟩
 . have az:=pa z (Ud _ hz);walk_at"iC";refine⟨z,rfl,az,?_⟩;walk_at"w";exact q
 .
  walk_at"w";intro a;have aw:As 100000 w:=pa w Ui;walk_at"iD";refine⟨wH aw,wH (n:=5) (a7 y_),?_⟩;have no:dh x=.non->∀a b,bB [.d (.str x)] so (.rt (.d .non)) [.d (.str x),a,b]:=λz a b=>by rw[z]at h;exact⟨_,aB aZ,h⟩
  by_cases c0:w=Str.ofString "rooms"
  .
   rw[if_neg (λz=>z c0)];subst c0;by_cases c1:2<=ws.length
   .
    rw[if_pos (show(2:Int)<=(ws.length:Int) by omega)];by_cases c2:ws.length<=12
    .
     rw[if_neg (λz=>z (show(ws.length:Int)<=12 by omega))];refine⟨bq (n:=0) rfl x_,x_,λz hz=>?_,?_⟩
     . obtain⟨y,_,rfl⟩:=UW.mp hz;exact A7 y
     walk_at"w";by_cases c3:AC .non (ws.map gh)=true
     .
      rw[if_pos c3];refine no (w9 e λ_ y=>?_) _ _;unfold AC at c3;obtain⟨d,hd,e3⟩:=List.any_eq_true.mp c3;have:=y.2 d hd;rw[DI]at e3
      cases d<;>first|cases this|cases e3
     .
      rw[if_neg c3];have all:∀z∈ws,∃t b:Int,gh z=.tup [.int t,.int b]/\mU (.tup [.int t,.int b])=true:=λz hz=>by refine(ib z).resolve_left λy=>c3 ?_;unfold AC;refine List.any_eq_true.mpr ⟨gh z,List.mem_map_of_mem (f:=gh) hz,?_⟩;rw[y,DI]
      walk_at"iB"
      refine⟨xL,hX (enc:=gh) (h:=λz=>if R1 (gh z)=true then none else some (gh z)) ws [] _ (λz hz Q q=>?_) λl2=>?_⟩
      .
       obtain⟨t,b,ez,hb⟩:=all z hz;have er:R1 (gh z)=decide (0<t):=by rw[ez];show(mU (.tup [.int t,.int b]) && decide (0<t))=_;rw[hb,Vr]
       rw[er,ez]at q;rw[ez];walk_at"iz";by_cases c4:0<t
       . rw[if_pos (Uw c4)]at q;rw[if_neg (by omega)];exact q
       . rw[if_neg (by rw[Uy c4];decide)]at q;rw[if_pos (by omega)];exact q
      .
       rw[Vj,Kc];intro a2;refine⟨x_,λa3=>⟨bq (n:=2) (fg _ λz _=>Gy z) x_,bq (n:=1) rfl x_,?_⟩⟩;rw[uO];by_cases c4:∀r∈ws.map gh,R1 r=true
       . rw[if_neg (by rw[(DH ws).mpr c4];decide)];walk_at"iA";rw[Kb e ⟨⟨c1,c2⟩,c4⟩]at h;exact⟨_,aB aZ,h⟩
       . rw[if_pos (VF.mpr λz=>c4 ((DH ws).mp z))];exact no (w9 e λ_ y=>c4 y.2) _ _
    . rw[if_pos (λz=>c2 xL)];exact no (w9 e λ_ y=>c2 y.1.2) _ _
   . rw[if_neg (by omega)];exact no (w9 e λ_ y=>c1 y.1.1) _ _
  . rw[if_pos c0];exact no (w9 e λy=>absurd y c0) _ _
def fZ:FS:=λls so=>∃(x:Str)(n:Int)(tk:List Str),ls=[.d (.str x),.d (.int n),.d (.lst (tk.map .str))]/\As 100000 x/\so (.d (Gs n tk x)) ls
def jz:W Fl:=(cf (uo (aE (aG bF (aj 3) (wC (.int 1))) (aE (aj 4) (aE (aj 5) (aE (aj 6) aQ))))))
def eO:W Fl:=(a8 (QV (QS (l5 (aR (jv vq yW (wC (.int 0)) (aj 4) (aj 1)))) (l5 (aR (jv vq yW (wC (.int 0)) (aj 5) (aj 1))))) (cf (wC .non)) bu)
  jz)
def jA:W Fl:=(a8 (QV (QS (aR (aG uz (aj 4) (wC .non))) (QS (aR (aG uz (aj 5) (wC .non))) (QS (aR (aG uz (aj 6) (wC .non))) (QS (aR (aG oO (aj 4) (aj 5))) (aR (aG yW (aG bF (aj 6) (wC (.int 0))) (wC (.int 0)))))))) (cf (wC .non)) bu)
  eO)
def jB:W Fl:=(a8 (bP 6 (br (bJ cK (aE (aG bF (aj 3) (wC (.int 4))) aQ))))
  jA)
def jC:W Fl:=(a8 (bP 5 (br (bJ dj (aE (aG bF (aj 3) (wC (.int 3))) aQ))))
  jB)
def jD:W L:=(aj 0)
def jE:W Fl:=(a8 (bP 4 (br (bJ dj (aE (aG bF (aj 3) (wC (.int 2))) aQ))))
  jC)
def jF:W Fl:=(a8 (QV (aR (aG vt (jN 1 [] (x8 (aG bF (aj 3) (wC (.int 1)))) (bL 0) (l5 (aR (l8 (wC (.str "a")) [(sF,(aj 0)),(sF,(wC (.str "z")))]))) jD) (jo aQ))) (cf (wC .non)) bu)
  jE)
def jG:W Fl:=(a8 (QV (QS (aR (aG vt (a6 cg (aE (aj 3) aQ)) (wC (.int 5)))) (QS (aR (aG vt (aG bF (aj 3) (wC (.int 0))) (wC (.str "ask")))) (QS (aR (aG (EN false) (aG bF (aj 3) (wC (.int 1))) (aj 2))) (l5 (aR (jv vq vq (wC (.int 1)) (a6 cg (aE (aG bF (aj 3) (wC (.int 1))) aQ)) (wC (.int 8)))))))) (cf (wC .non)) bu)
  jF)
def gR:W Fl:=(a8 (bP 3 (br (j3 (aj 0) " ")))
  jG)
theorem OR{x w0 w1 w2 w3 w4:Str} (e:Txt.split x (Str.ofString " ")=[w0,w1,w2,w3,w4]):iG x=if w0=Str.ofString "ask" then .tup [.str w1,R5 (aI w2),R5 (aI w3),gh w4]else .non:=by unfold iG;rw[e]
theorem kD{n:Int}{tk:List Str}{x w0 w1 w2 w3 w4:Str} (e:Txt.split x (Str.ofString " ")=[w0,w1,w2,w3,w4]) (h:w0=Str.ofString "ask"->¬ (me n (.tup [.str w1,R5 (aI w2),R5 (aI w3),gh w4])=true/\w1∉tk)):Gs n tk x=.non:=by
 unfold Gs;rw[OR e];by_cases c:w0=Str.ofString "ask"
 . rw[if_pos c];exact if_neg (h c)
 . rw[if_neg c];exact if_neg (λz=>by cases z.1)
theorem Kd{n:Int}{tk:List Str}{x w1 w2 w3 w4:Str} (e:Txt.split x (Str.ofString " ")=[Str.ofString "ask",w1,w2,w3,w4]) (h:me n (.tup [.str w1,R5 (aI w2),R5 (aI w3),gh w4])=true/\w1∉tk):Gs n tk x=.tup [.str w1,R5 (aI w2),R5 (aI w3),gh w4]:=by unfold Gs;rw[OR e,if_pos rfl];exact if_pos h
theorem Gz(w:Str)(tk:List Str):QE (.str w) (tk.map D.str)=decide (w∈tk):=by
 unfold QE;rw[List.any_map,Wk,List.any_eq_true,decide_eq_true_iff];constructor
 . rintro⟨z,hz,e⟩;have:(z == w)=true:=e;rwa [<- eq_of_beq this]
 . intro h;exact⟨w,h,by show(w == w)=true;simp⟩
theorem DJ(tk:List Str):(tk.map D.str).all oS=true:=by rw[List.all_map];exact US.mpr λ_ _=>rfl
theorem MT(l:List Nat):(l.filterMap λc=>if iO c=true then none else some (D.str ⟨#[c]⟩))=(l.filter λc=>!iO c).map λc=>D.str ⟨#[c]⟩:=by
 induction l with
 |nil=>rfl
 |cons c l ih=>cases e:iO c<;>simp[Vw,VZ,e,ih]
theorem MU(l:List Nat):((l.filter λc=>!iO c).map λc=>D.str ⟨#[c]⟩).isEmpty=l.all iO:=by
 induction l with
 |nil=>rfl
 |cons c l ih=>cases e:iO c<;>simp[VZ,e,ih]
theorem PJ{x w0 w1 w2 w3 w4:Str}{n i j t b:Int}{x2:L}{Q:Fl->Ev->Prop}(h1:(0<=i/\i<n)/\(0<=j/\j<n)->∀Z,Q (.rt (.d (.tup [.str w1,.int i,.int j,.tup [.int t,.int b]]))) (.d (.str x)::.d (.int n)::x2::Z))(h2:¬((0<=i/\i<n)/\(0<=j/\j<n))->∀Z,Q (.rt (.d .non)) (.d (.str x)::.d (.int n)::x2::Z)) :
  eO [.d (.str x),.d (.int n),x2,.d (.lst ([w0,w1,w2,w3,w4].map D.str)),.d (.int i),.d (.int j),.d (.tup [.int t,.int b])] Q:=by
 walk_at"eO";have no:∀(c:¬((0<=i/\i<n)/\(0<=j/\j<n))),Q (.rt (.d .non)) [.d (.str x),.d (.int n),x2,.d (.lst [.str w0,.str w1,.str w2,.str w3,.str w4]),.d (.int i),.d (.int j),.d (.tup [.int t,.int b])]:=λc=>h2 c _;by_cases a1:0<=i
 .
  rw[if_pos a1];by_cases a2:i<n
  .
   rw[if_neg (λz=>z a2)];by_cases a3:0<=j
   .
    rw[if_pos a3];by_cases a4:j<n
    . rw[if_neg (λz=>z a4)];walk_at"jz";exact⟨x_,h1 ⟨⟨a1,a2⟩,a3,a4⟩ _⟩
    . rw[if_pos a4];exact no λz=>a4 z.2.2
   . rw[if_neg a3];exact no λz=>a3 z.2.1
  . rw[if_pos a2];exact no λz=>a2 z.1.2
 . rw[if_neg a1];exact no λz=>a1 z.1.1
theorem qu:Wq 3 4 fZ gR:=by
 rintro ls so - ⟨x,n,tk,rfl,ax,h⟩;have sp:=pZ ax (y:=Str.ofString " ") x_ y_;have pa:=fK (y:=Str.ofString " ") ax;have no:Gs n tk x=.non->∀Z,bB [.d (.str x),.d (.int n),.d (.lst (tk.map .str))] so (.rt (.d .non)) (.d (.str x)::.d (.int n)::.d (.lst (tk.map .str))::Z):=λz Z=>by rw[z]at h;exact⟨_,aB (aB (aB aZ)),h⟩
 walk_at"gR";refine⟨sp,λa0=>?_⟩;walk_at"jG";rcases Gu (Txt.split x (Str.ofString " "))with⟨w0,w1,w2,w3,w4,e⟩ | hl
 .
  rw[e]at pa ⊢;have p:∀w∈[w0,w1,w2,w3,w4],As 100000 w:=pa;have p1:=p w1 v6;have p2:=p w2 v6;have p3:=p w3 v6;have p4:=p w4 v6;have e0:sizeLine=16777216:=by decide
  have l1:=p1.len;have s1:w1.length=w1.cps.size:=rfl;have B:me n (.tup [.str w1,R5 (aI w2),R5 (aI w3),gh w4])=(((decide (1<=w1.cps.size) && decide (w1.cps.size<=8)) && w1.cps.toList.all iO) && mU (gh w4) && (fG (R5 (aI w2)) n && fG (R5 (aI w3)) n) && (!(Q1 (R5 (aI w2)) (R5 (aI w3))) && Kr (gh w4))):=rfl;rw[if_neg (by simp)];refine⟨_,rfl,wH (p w0 v6),wH G8,?_⟩;rw[uA];by_cases c0:w0=Str.ofString "ask"
  case neg =>
   rw[if_pos (Uy c0)];exact no (kD e λz=>absurd z c0) _
  rw[if_neg (by rw[Uw c0];decide)];subst c0;refine⟨_,rfl,rfl,DJ tk,?_⟩;rw[Gz];by_cases c1:w1∈tk
  . rw[if_pos (Uw c1)];exact no (kD e λ_ z=>z.2 c1) _
  rw[if_neg (by rw[Uy c1];decide)];refine⟨_,rfl,?_⟩;walk_at"w";refine⟨xL,?_⟩;by_cases c2:1<=w1.length
  case neg =>
   rw[if_neg (by omega)];exact no (kD e λ_ z=>by have z1:=z.1;rw[B]at z1;simp only[UE,U4]at z1;omega) _
  rw[if_pos (by omega)];by_cases c3:w1.length<=8
  case neg =>
   rw[if_pos (by omega)];exact no (kD e λ_ z=>by have z1:=z.1;rw[B]at z1;simp only[UE,U4]at z1;omega) _
  rw[if_neg (λz=>z xL)];walk_at"jF"
  refine⟨?_,by unfold fE;rw[tu,<- bf];omega,hX (enc:=λc=>D.str ⟨#[c]⟩) (h:=λc=>if iO c=true then none else some (D.str ⟨#[c]⟩)) w1.cps.toList [] _ (λc hc Q q=>?_) λl2=>?_⟩
  . rw[<- Wi,US];exact λc hc=>Uw (p1.asc c hc)
  .
   walk_at"jD";unfold iO at q
   cases e1:iM (Str.ofString "a") ⟨#[c]⟩with
   | false =>
    rw[show iM "a" ⟨#[c]⟩=false from e1,V2]at q;rw[if_neg (by decide)];exact q
   | true =>
    rw[show iM "a" ⟨#[c]⟩=true from e1,Vr]at q;rw[if_pos rfl]
    cases e2:iM ⟨#[c]⟩ (Str.ofString "z")with
    | false =>
     rw[show iM ⟨#[c]⟩ "z"=false from e2]at q;rw[if_pos rfl];exact q
    | true =>
     rw[show iM ⟨#[c]⟩ "z"=true from e2]at q;rw[if_neg (by decide)];exact q
  rw[Vj,MT];intro a2;refine⟨x_,λa3=>⟨?_,bq (n:=1) rfl x_,?_⟩⟩
  .
   have em:∀l:List Nat,(l.map λc=>D.str ⟨#[c]⟩)=(l.map λc=>(⟨#[c]⟩:Str)).map D.str:=λl=>by rw[VW];rfl
   rw[em];refine Do (n:=1) λz hz=>?_;obtain⟨c,hc,rfl⟩:=UW.mp hz;refine⟨Ul _,λd hd=>?_⟩;have:d=c:=by simpa using hd
   subst this;exact p1.asc d (V6.mp hc).1
  rw[uO,MU]
  cases c4:w1.cps.toList.all iO with
  | false =>
   rw[if_pos rfl];exact no (kD e λ_ z=>by have z1:=z.1;rw[B,c4]at z1;simp at z1) _
  |true =>
  rw[if_neg (by decide)];walk_at"jE";refine⟨w2,rfl,p2.len,p2.asc,?_⟩;walk_at"w";walk_at"jC";refine⟨w3,rfl,p3.len,p3.asc,?_⟩;walk_at"w";walk_at"jB";refine⟨w4,rfl,p4,?_⟩;walk_at"w";unfold jA;have B2:me n (.tup [.str w1,R5 (aI w2),R5 (aI w3),gh w4])=(mU (gh w4) && (fG (R5 (aI w2)) n && fG (R5 (aI w3)) n) && (!(Q1 (R5 (aI w2)) (R5 (aI w3))) && Kr (gh w4))):=by rw[B,c4,Uw xL,Uw xL];rfl
  cases e2:aI w2 with
  | none =>
   walk_at"R5";exact no (kD e λ_ z=>by have z1:=z.1;rw[B2,e2]at z1;simp[R5,fG]at z1) _
  |some i =>
  cases e3:aI w3 with
  | none =>
   walk_at"R5";exact no (kD e λ_ z=>by have z1:=z.1;rw[B2,e3]at z1;simp[R5,fG]at z1) _
  |some j =>
  show a8 _ _ [_,_,_,_,_,_,.d (gh w4)] _;rcases ib w4 with e4|⟨t,b,e4,hr⟩
  . rw[e4];walk_at"R5";exact no (kD e λ_ z=>by have z1:=z.1;rw[B2,e4]at z1;simp[mU]at z1) _
  rw[e4];walk_at"R5";have B3:me n (.tup [.str w1,R5 (aI w2),R5 (aI w3),gh w4])=(decide (0<=i/\i<n) && decide (0<=j/\j<n) && (!decide (i=j) && decide (0<=t))):=by rw[B2,e2,e3,e4,hr];rfl
  by_cases c5:i=j
  . rw[if_pos c5];exact no (kD e λ_ z=>by have z1:=z.1;rw[B3,Uw c5]at z1;simp at z1) _
  rw[if_neg c5];by_cases c6:t<0
  . rw[if_pos c6];exact no (kD e λ_ z=>by have z1:=z.1;rw[B3,Uy (show ¬0<=t by omega)]at z1;simp at z1) _
  rw[if_neg c6];refine PJ (λz Z=>?_) λz Z=>?_
  . rw[Kd e ⟨by rw[B3,Uw z.1,Uw z.2,Uy c5,Uw (show 0<=t by omega)];rfl,c1⟩,e2,e3,e4]at h;exact⟨_,aB (aB (aB aZ)),h⟩
  . exact no (kD e λ_ y=>z (by have y1:=y.1;rw[B3]at y1;simp only[UE,U4]at y1;exact y1.1)) _
 .
  have:Gs n tk x=.non:=by unfold Gs;rw[vc hl];exact if_neg (λz=>by cases z.1)
  rw[if_pos (by omega)];exact no this _
def kE:FS:=λls so=>∃x:Str,ls=[.d (.str x)]/\As 100000 x/\so (.d (J4 (rS x))) ls
def jH:W Fl:=(lb (EK 3 (aj 5)))
def oE:W L:=(aG bF (aj 0) (wC (.int 0)))
def eQ:W Fl:=(a8 (QV (QS (aR (aG uz (aj 5) (wC .non))) (aR (aG EF (aj 4) (wC (.int 20))))) (cf (uo (aE (wC .non) (aE (aj 4) aQ)))) bu)
  jH)
def jc:W Fl:=(a8 (bP 5 (br (bJ fZ (aE (aG bF (aj 1) (aj 4)) (aE (br (a6 cg (aE (aj 2) aQ))) (aE (br (AK 3 (jN 1 [] (D4 (aj 3)) (bL 0) g9 oE))) aQ))))))
  eQ)
def oF:W Fl:=(cf (uo (aE (uo (aE (aj 2) (aE (aj 3) aQ))) (aE (wC .non) aQ))))
def oG:W Fl:=(a8 (D5 (EE (wC (.int 1)) (a6 cg (aE (aj 1) aQ))) (bL 4) jc)
  oF)
def oH:W Fl:=(a8 (bP 3 (jo aQ))
  oG)
def jd:W Fl:=(a8 (QV (aR (aG uz (aj 2) (wC .non))) (cf (uo (aE (wC .non) (aE (wC (.int 0)) aQ)))) bu)
  oH)
def oI:W Fl:=(a8 (bP 2 (br (bJ eM (aE (aG bF (aj 1) (wC (.int 0))) aQ))))
  jd)
def mK:W Fl:=(a8 (bP 1 (br (j3 (aj 0) "\n")))
  oI)
theorem Ke{x:Str}{rows:List Str}{rooms acc:List D}{j:Nat}{a:Addr}{x5:L}{r:Str}{rest:List Str}{Q:Fl->Ev->Prop}(ax:∀r∈rows,As 100000 r)(hj:j<200000)(hr:rows[1+j]?=some r)(ha:∀d∈acc,me (rooms.length:Int) d=true)(hl:rooms.length<=12)(hc:acc.length<=20)(f5:nk x5=true)
  (h1:(me (rooms.length:Int) (iG r)=true/\gw (iG r)∉acc.map gw)/\1+j<=20->∀d,Q .nx [.d (.str x),.d (.lst (rows.map .str)),.d (.lst rooms),.own a (acc++[iG r]),.d (.int (1+(j:Int))),.d d])
  (h2:¬((me (rooms.length:Int) (iG r)=true/\gw (iG r)∉acc.map gw)/\1+j<=20)->∀Z,Q (.rt (.d (.tup [.non,.int (1+(j:Int))]))) (.d (.str x)::Z)) :
  jc [.d (.str x),.d (.lst (rows.map .str)),.d (.lst rooms),.own a acc,.d (.int (1+(j:Int))),x5] Q:=by
 have nm:∀d∈acc,∃s:Str,∃ds,d=.tup (.str s::ds)/\gw d=s:=λd hd=>by obtain⟨s,i,k,z,rfl,_,_⟩:=yr (ha d hd);exact⟨s,_,rfl,rfl⟩
 have e0:sizeLine=16777216:=by decide
 have mem:r∈rows:=Vh hr;walk_at"jc";refine⟨.str r,lH xL (by rw[show((1:Int)+(j:Int)).toNat=1+j by omega,UJ,hr];rfl),f5,xL,?_⟩;have eid:acc=acc.map id:=(List.map_id acc).symm;rw[eid];refine ff (enc:=id) (h:=λd=>D.str (gw d)) acc [] _ (λd hd R q=>?_) λl'=>?_
 . obtain⟨s,ds,rfl,en⟩:=nm d hd;rw[en]at q;dsimp only[id]at q ⊢;walk_at"oE";exact q
 .
  rw[<- eid,Vj];intro a1;have em:(acc.map λd=>D.str (gw d))=(acc.map gw).map D.str:=by rw[VW];rfl
  rw[em];refine⟨nB _ λ_ _=>rfl,r,(rooms.length:Int),acc.map gw,rfl,ax r mem,?_⟩;unfold Gs;have no:¬((me (rooms.length:Int) (iG r)=true/\gw (iG r)∉acc.map gw)/\1+j<=20)->∀Z,Q (.rt (.d (.tup [.non,.int (1+(j:Int))]))) (.d (.str x)::Z):=h2;rcases Gw (rooms.length:Int) (acc.map gw) (iG r)with⟨eg,hg⟩|⟨eg,hg⟩
  . rw[eg];walk_at"w";walk_at"eQ";exact⟨x_,h2 (λz=>hg z.1) _⟩
  .
   obtain⟨s,i,k,z,ez,_,_⟩:=yr hg.1;rw[eg];rw[ez]at h1 h2 hg ⊢;walk_at"w";walk_at"eQ";by_cases c:1+j<=20
   . rw[if_neg (by omega)];walk_at"jH";exact⟨xL,h1 ⟨hg,c⟩ _⟩
   . rw[if_pos (by omega)];exact⟨x_,h2 (λz=>c z.2) _⟩
theorem vk:Wq 1 5 kE mK:=by
 rintro ls so - ⟨x,rfl,ax,h⟩;have sp:=pZ ax (y:=Str.ofString "\n") x_ y_;have pa:=fK (y:=Str.ofString "\n") ax;obtain⟨r0,rs,e⟩:=ic x (Str.ofString "\n");have sl:=PyProof.Rows.split_le x (Str.ofString "\n");have lx:=ax.len;unfold rS at h;rw[e]at h pa sl;dsimp only at h;have e0:sizeLine=16777216:=by decide
 walk_at"mK";refine⟨sp,λa0=>?_⟩;rw[e,UC];walk_at"oI";refine⟨r0,rfl,pa r0 Ui,?_⟩;walk_at"w";unfold dh at h ⊢;rcases Gv (gv r0)with e1|⟨rooms,e1,hb⟩
 . rw[e1]at h ⊢;walk_at"jd";exact⟨x_,_,aB aZ,h⟩
 .
  rw[e1]at h ⊢;walk_at"jd";walk_at"oH";refine⟨x_,λa1=>?_⟩;walk_at"oG";have hb2:=((mz rooms).mp hb).1;have lr:rs.length+1<=100005:=by rw[Uk]at sl;omega
  refine⟨⟨x_,x_⟩,⟨xL,xL⟩,?_⟩;rw[show((((rs.length+1:Nat):Int))-1).toNat=rs.length by omega]
  have ed:yD (.lst rooms) rs=match mB (rooms.length:Int) [] rs 1 with
   |.inl k=>.inl k
   |.inr as=>.inr (rooms,as):=rfl
  rw[ed]at h;refine zH 1 rs.length (λj Z=>∃acc a x4 x5,((∀d∈acc,me (rooms.length:Int) d=true)/\mB (rooms.length:Int) [] rs 1=mB (rooms.length:Int) acc (rs.drop j) (1+j)/\(acc.length=j/\j<=20)/\nk x5=true)/\Z=[.d (.str x),.d (.lst ((r0::rs).map .str)),.d (.lst rooms),.own a acc,x4,x5]) _ ⟨[],a1,.un,.un,⟨(λd hd=>by cases hd),rfl,⟨rfl,x_⟩,rfl⟩,rfl⟩ ?_ ?_
  .
   rintro j Z hj ⟨acc,a,x4,x5,⟨ga,er,hc,f5⟩,rfl⟩ Q q1 _ _ q4;walk_at"w";have ej:rs.drop j=rs[j]::rs.drop (j+1):=VH hj
   have es:mB (rooms.length:Int) acc (rs.drop j) (1+j)=if(me (rooms.length:Int) (iG rs[j])=true/\gw (iG rs[j])∉acc.map gw)/\1+j<=20 then mB (rooms.length:Int) (acc++[iG rs[j]]) (rs.drop (j+1)) (1+j+1)else .inl (1+j):=by rw[ej];rfl
   refine Ke (rows:=r0::rs) (r:=rs[j]) (rest:=rs.drop (j+1)) pa xL (by rw[show 1+j=j+1 by omega,VO,Uu hj]) ga hb2.2 xL f5 (λz x5=>?_) λz Z=>?_
   .
    rw[if_pos z]at es;refine q1 _ ⟨acc++[iG rs[j]],a,_,.d x5,⟨λd hd=>?_,?_,?_,?_⟩,rfl⟩
    .
     rcases Ur.mp hd with hd|hd
     . exact ga d hd
     . rw[Ux.mp hd];exact z.1.1
    .
     rw[er,es]
     congr 1
    . rw[Ue,hc.1,Us];exact⟨rfl,xL⟩
    . rfl
   .
    rw[if_neg z]at es;rw[er,es]at h;refine q4 _ _ ⟨_,aB aZ,?_⟩;have e9:(1:Int)+(j:Int)=((1+j:Nat):Int):=by omega
    rw[e9];exact h
  . rintro Z ⟨acc,a,x4,x5,⟨ga,er,hc,f5⟩,rfl⟩;rw[List.drop_length]at er;rw[er]at h;walk_at"oF";exact⟨x_,x_,_,aB aZ,h⟩
def dm:FS:=λls so=>∃(d:D)(k:Nat),ls=[.d d,.d (.int (k:Int))]/\(∀x,d=.str x->As 100000 x/\rS x=.inl k)/\((∀x,d≠.str x)->k=0)/\so (.d (.bl true)) ls
def jI:W Fl:=(cf (ql (aG oO (QU (AO "row") (aj 2)) (aj 1)) (Ez (aR (QU (l6 "bool") (QU (AO "row") (aj 2)))))))
def jJ:W Fl:=(a8 (QV (aR (QU (zr ["NoNumber","NoRing","NoRow","NoTree"]) (aj 2))) (cf (wC (.bl false))) bu)
  jI)
def eR:W Fl:=(a8 (QV (QS (l5 (aR (QU (Fq "NoText") (aj 2)))) (l5 (aR (QU (l6 "ValueError") (aj 2))))) (cf (wC (.bl false))) bu)
  jJ)
def jK:W Fl:=(a8 (Cq (λxt=>(lb (v5 eh xt (aE (aj 0) aQ)))) "LoadError" 3 (bP 2 (aj 3)))
  eR)
def gS:W Fl:=(a8 (bP 2 (wC .non))
  jK)
theorem Hc{x0:D}{k:Nat}{e:L}{Q:Fl->Ev->Prop}(q:∀ Z,Q (.rt (.d (.bl true))) (.d x0::.d (.int (k:Int))::Z)):eR [.d x0,.d (.int (k:Int)),.d (.exc (Str.ofString "NoText") [Str.ofString "row"] [.int (k:Int)]),e] Q:=by
 have a1:¬ (true ||Str.ofString "NoText" == Str.ofString "LoadError")=false:=by decide +kernel
 have a2:mR "ValueError" (D.exc (Str.ofString "NoText") [Str.ofString "row"] [D.int (k:Int)])=true:=rfl;have a3:¬ ([Str.ofString "NoNumber",Str.ofString "NoRing",Str.ofString "NoRow",Str.ofString "NoTree"].any λc=>c == Str.ofString "NoText" ||c == Str.ofString "LoadError")=true:=by decide +kernel
 have a4:List.lookup (Str.ofString "row") ([Str.ofString "row"].zip [D.int (k:Int)])=some (D.int (k:Int)):=by show List.lookup (Str.ofString "row") [(Str.ofString "row",D.int (k:Int))]=_;rw[U0,show(Str.ofString "row" == Str.ofString "row")=true from by decide +kernel]
 have a2':¬ mR "ValueError" (D.exc (Str.ofString "NoText") [Str.ofString "row"] [D.int (k:Int)])=false:=by rw[a2]; decide
 walk_at"eR";rw[if_neg a1,if_neg a2'];unfold jJ;refine MA (λk hk=>?_) (JT ?_)
 . have a5:([Str.ofString "NoNumber",Str.ofString "NoRing",Str.ofString "NoRow",Str.ofString "NoTree"].any λc=>c == Str.ofString "NoText" ||c == Str.ofString "LoadError")=false:=VF.mpr a3;walk_at"w";rw[a5];exact hk
 walk_at"jI";rw[a4];refine⟨bq (n:=0) rfl x_,?_⟩;rw[if_pos (by rw[jZ];simp)];exact q _
theorem qv:Wq 2 2 dm gS:=by
 rintro ls so - ⟨d,k,rfl,h1,h2,h⟩;walk_at"gS";walk_at"jK";refine⟨d,rfl,λx e=>(h1 x e).1,(λx p e z=>by rw[(h1 x e).2]at z;cases z),(λx j e z=>?_),λz=>?_⟩
 . rw[(h1 x e).2]at z;cases z;exact⟨Bool.or_true _,Hc λZ=>⟨_,aB (aB aZ),h⟩⟩
 . have:=h2 z;subst this;exact⟨Bool.or_true _,Hc (k:=0) λZ=>⟨_,aB (aB aZ),h⟩⟩
def du:FS:=λls so=>∃x:Str,ls=[.d (.str x)]/\As 100000 x/\so (.d (.bl true)) ls
def lY:W Fl:=(cf (aG oO (rk eh (λ_=>False) (aE (aj 0) aQ)) (aj 1)))
def gT:W Fl:=(a8 (QV (aR (aG uz (aj 1) (wC .non))) (cf (bJ dm (aE (aj 0) (aE (aj 2) aQ)))) bu)
  lY)
def kF:W Fl:=(a8 (EM [1,2] (bJ kE (aE (aj 0) aQ)))
  gT)
theorem Ae(z:Str):Rc 1 (gh z)=true:=by
 rcases ib z with e|⟨t,b,e,_⟩
 . rw[e];rfl
 . rw[e];simp[Rc,lh]
theorem Kg{x:Str}(ax:As 100000 x):Rc 2 (iG x)=true:=by
 rcases Gu (Txt.split x (Str.ofString " "))with⟨w0,w1,w2,w3,w4,e⟩ | hl
 .
  have pa:=fK (y:=Str.ofString " ") ax;unfold iG;rw[e]at pa ⊢;dsimp only;split
  .
   have h1:Rc 1 (.str w1)=true:=by simpa[Rc]using(pa w1 v6).ok
   have h2:∀o,Rc 1 (R5 o)=true:=λo=>by cases o<;>rfl
   show lh 1 _=true;simp only[lh,h1,h2,Ae,Bool.and_self]
  . rfl
 . rw[vc hl];rfl
theorem Af{n:Int}:∀{rs:List Str}{acc as:List D}{i:Nat},(∀r∈rs,As 100000 r)->(∀d∈acc,Rc 2 d=true)->mB n acc rs i=.inr as->∀d∈as,Rc 2 d=true
 | [],acc,as,i,_,ha,e=>by cases e;exact ha
 | r::rs,acc,as,i,hr,ha,e=>by
  unfold mB at e;split at e
  .
   refine Af (rs:=rs) (λz hz=>hr z (Ud _ hz)) (λd hd=>?_) e;rcases Ur.mp hd with hd|hd
   . exact ha d hd
   . rw[Ux.mp hd];exact Kg (hr r Ui)
  . cases e
theorem DK{x:Str}{rs:List D}(h:dh x=.lst rs):∀d∈rs,Rc 1 d=true:=by
 unfold dh Dx gv at h;split at h
 .
  split at h
  .
   split at h
   . cases h;intro d hd;obtain⟨z,_,rfl⟩:=UW.mp hd;exact Ae z
   . cases h
  . cases h
 . cases h
theorem GA{x:Str}{p:List D×List D}(ax:As 100000 x)(h:rS x=.inr p):Rc 4 (.tup [.lst p.1,.lst p.2])=true:=by
 have pa:=fK (y:=Str.ofString "\n") ax;unfold rS at h;split at h
 . cases h
 .
  rename_i r rs e;rw[e]at pa;unfold yD at h;split at h
  .
   rename_i rooms er;split at h
   . cases h
   .
    rename_i as el;cases h
    have h1:lh 2 rooms=true:=by
     have:∀ds:List D,(∀d∈ds,Rc 1 d=true)->lh 2 ds=true:=λds hd=>by have:=fg (f:=id) (n:=2) ds λd hm=>Mq (hd d hm) x_;simpa using this
     exact this _ (DK er)
    have h2:lh 2 as=true:=by have:=fg (f:=id) (n:=2) as λd hm=>Af (λz hz=>pa z (Ud _ hz)) (λd hd=>by cases hd) el d hm;simpa using this
    simp only[Rc,lh,h1,h2,Bool.and_self]
  . cases h
theorem sR:Wq 1 2 du kF:=by
 rintro ls so - ⟨x,rfl,ax,h⟩;walk_at"kF";refine⟨x,rfl,ax,?_⟩
 cases e:rS x with
 | inl k =>
  walk_at"J4";walk_at"gT";refine⟨.str x,k,rfl,(λy z=>by cases z;exact⟨ax,e⟩),(λz=>absurd rfl (z x)),?_⟩;exact⟨_,aB aZ,h⟩
 | inr p =>
  walk_at"J4";walk_at"gT";walk_at"lY";have ok:=GA ax e;have sh:=bq ok x_;refine⟨.str x,rfl,(λy z=>by cases z;exact ax),(λy q z eq a b=>?_),(λy k z eq=>?_),λz=>absurd rfl (z x)⟩
  . cases z;rw[e]at eq;cases eq;walk_at"w";refine⟨sh,sh,?_⟩;rw[y9 ok];exact⟨_,aB aZ,h⟩
  . cases z;rw[e]at eq;cases eq
def fs_law:FS:=λls so=>∃ns:List Int,ls=[.d (.lst (ns.map .int))]/\ns.length<=63/\so (.d (.bl true)) ls
theorem DL{ns:List Int}(hl:ns.length<=63):fs_law [.d (.lst (ns.map .int))] (λr _=>r=.d (.bl true)):=⟨ns,rfl,hl,rfl⟩
def DM:W Fl:=(cf (aG oO (rk eh (λ_=>False) (aE (br (jO "\n" (aj 2))) aQ)) (aj 1)))
def DN:W Fl:=(QV (l5 (aR (bJ du (aE (br (jO "\n" (bg gB 0 4 (gG 4 (aE (aj 5) aQ))))) aQ)))) (cf (wC (.bl false))) bu)
def pL:W Fl:=(QV (HJ (aR (aG vt (aj 5) (jo aQ))) (aR (aG oO (bg aD 0 4 (gG 4 (aE (wC (.int 3)) aQ))) (wC (.int 0))))) DN bu)
def t4:W Fl:=(a8 (QV (l5 (aR (bJ dm (aE (aj 6) (aE (wC (.int 0)) aQ))))) (cf (wC (.bl false))) bu)
  pL)
def pM:W Fl:=(a8 (bP 6 (aG bF (jo (aE (wC .non) (aE (wC (.int 5)) (aE (wC (.bl true)) (aE (aj 1) (aE (aj 2) (aE (br (a6 qV (aE (aj 2) aQ))) (aE (Iz 0) (aE (br (jo (aE (wC (.str "rooms 1 1")) aQ))) (aE (wC (.int 0)) (aE (uo aQ) aQ))))))))))) (bg aD 0 4 (gG 4 (aE (wC (.int 10)) aQ)))))
  t4)
def pN:W Fl:=(a8 (QV (l5 (aR (bJ du (aE (br (jO "\n" (aj 5))) aQ)))) (cf (wC (.bl false))) bu)
  pM)
def t5:W Fl:=(a8 (bP 5 (br (bg gB 0 4 (gG 4 (aE (aj 2) aQ)))))
  pN)
def DO:W Fl:=(a8 (bP 4 (bJ cz (aE (aj 0) (aE (aj 3) aQ))))
  t5)
def DP:W Fl:=(a8 (QV (l5 (aR (bJ du (aE (br (aG aW (jO "\n" (aj 2)) (wC (.str "\n")))) aQ)))) (cf (wC (.bl false))) bu)
  DM)
def DQ:W Fl:=(a8 (D5 (EE (wC (.int 3)) (a6 EH (aE (wC (.int 4)) (aE (br (a6 EJ (aE (br (a6 cg (aE (aj 0) aQ))) (aE (wC (.int 43)) aQ)))) aQ)))) (bL 3) DO)
  DP)
def DS:W Fl:=(a8 (bP 2 (br (bJ kA (aE (aj 1) aQ))))
  DQ)
def Kh:W Fl:=(a8 (bP 1 (br (bJ kx (aE (aj 0) (aE (wC (.int 0)) (aE (wC (.int 8)) (aE (wC (.int 9)) aQ)))))))
  DS)
theorem gC{n:Int}{c:Nat}(h:c∈(cM n).cps.toList):c=45∨48<=c/\c<=57:=by
 rcases d8 n with⟨m,_,e⟩|⟨m,_,e⟩
 . rw[e]at h;exact .inr (eF m c h)
 .
  rw[e]at h;rcases Uo.mp h with rfl|h
  . exact .inl rfl
  . exact .inr (eF _ c h)
theorem pO{t b:Int}{c:Nat}(h:c∈(bI t b).cps.toList):c=45∨47<=c/\c<=57:=by
 unfold bI at h;split at h
 . rcases gC h with h|h<;>omega
 .
  have h:c∈((cM t).cps++(Str.ofString "/").cps++(cM b).cps).toList:=h;rw[UR,UR]at h;rcases Ur.mp h with h|h
  .
   rcases Ur.mp h with h|h
   . rcases gC h with h|h<;>omega
   .
    have:c=47:=by
     have e:(Str.ofString "/").cps.toList=[47]:=by decide +kernel
     rw[e]at h;exact Ux.mp h
    omega
  . rcases gC h with h|h<;>omega
theorem DT(n:Int):Txt.split (cM n) (Str.ofString "/")=[cM n]:=ia (ps:=[cM n]) tN v6 λp hp h=>by rw[Ux.mp hp]at h;rcases gC h with h|h<;>omega
theorem DU(a b:Int):Txt.split (cM a++Str.ofString "/"++cM b) (Str.ofString "/")=[cM a,cM b]:=ia (ps:=[cM a,cM b]) tN v6 λp hp h=>by
 simp only[Uo,VY,or_false]at hp;rcases hp with rfl|rfl
 . rcases gC h with h|h<;>omega
 . rcases gC h with h|h<;>omega
theorem Ag{q:Rat}(h:RB 60 q):gh (bI q.num q.den)=Rb q:=by
 have ht:q.num.natAbs<10^60:=Uj h.1 x_;have hb:q.den<10^60:=Uj h.2 x_
 have e:D8 (bI q.num q.den)=some (q.num,(q.den:Int)):=by
  unfold D8 bI;split
  . rename_i c;rw[DT];show(aI (cM q.num)).map (λt=>(t,(1:Int)))=_;rw[tK ht,c];rfl
  .
   rename_i c;rw[DU]
   show(match aI (cM q.num),aI (cM (q.den:Int))with|some t,some b=>if 2<=b/\Int.gcd t b=1 then some (t,b)else none|_,_=>none)=_
   rw[tK ht,tK (n:=(q.den:Int)) (by rw[U6];exact hb)];dsimp only;have:=q.den_pos;have r:Int.gcd q.num (q.den:Int)=1:=by show q.num.natAbs.gcd (q.den:Int).natAbs=1;rw[U6];exact q.reduced
   rw[if_pos ⟨xL,r⟩]
 unfold gh;rw[e];rfl
theorem t6{R:cD}(h:TN R){a:RL}(ha:a∈R.asks):∀ z∈[Str.ofString "ask",a.nm,cM (a.one:Int),cM (a.other:Int),bI a.size.num a.size.den],∀ c∈z.cps.toList,45<=c:=by
 intro z hz c hc;simp only[Uo,VY,or_false]at hz;rcases hz with rfl|rfl|rfl|rfl|rfl
 . rw[show(Str.ofString "ask").cps.toList=[97,115,107] by decide +kernel]at hc;simp only[Uo,VY,or_false]at hc;omega
 . have:=((h.nms a ha).let_ c hc).1;omega
 . rcases gC hc with h|h<;>omega
 . rcases gC hc with h|h<;>omega
 . rcases pO hc with h|h<;>omega
theorem A8{R:cD}(h:TN R){a:RL}(ha:a∈R.asks):Txt.split (D9 a) (Str.ofString " ")=[Str.ofString "ask",a.nm,cM (a.one:Int),cM (a.other:Int),bI a.size.num a.size.den]:=ia wF v6 λz hz hc=>by have:=t6 h ha z hz 32 hc;omega
theorem DV{R:cD}(h:TN R){a:RL}(ha:a∈R.asks):iG (D9 a)=mT a:=by
 have hk:=h.ok.ask a ha;have h12:=h.ok.hi;have sm:∀k:Nat,k<R.n->((k:Int)).natAbs<10^60:=λk hk=>by rw[U6];exact Uj hk (Uv h12 x_)
 unfold iG;rw[A8 h ha];dsimp only;rw[if_pos rfl,tK (sm _ hk.one),tK (sm _ hk.other),Ag (h.ab a ha)];rfl
theorem xa{R:cD}(h:TN R):Txt.split (gz R) (Str.ofString " ")=Str.ofString "rooms"::R.rooms.map λq=>bI q.num q.den:=by
 have ne:R.rooms.map (λq=>bI q.num q.den)≠[]:=λz=>by have:=Vy List.length z;rw[tu]at this;have h2:2<=R.rooms.length:=h.ok.lo;simp at this;rw[this]at h2;simp at h2
 have e:gz R=Str.join (Str.ofString " ") (Str.ofString "rooms"::R.rooms.map λq=>bI q.num q.den):=mh (by
  rw[ka,UC,mi (by simpa using ne),<- ka];unfold gz
  rw[Dn,show(Str.ofString "rooms ").cps.toList=(Str.ofString "rooms").cps.toList++(Str.ofString " ").cps.toList by decide +kernel,UT])
 rw[e];refine ia wF v6 λz hz hc=>?_;rcases Uo.mp hz with rfl|hz
 . exact absurd hc y_
 . obtain⟨q,hq,rfl⟩:=UW.mp hz;rcases pO hc with h|h<;>omega
theorem yH{R:cD}(h:TN R):dh (gz R)=.lst (R.rooms.map Rb):=by
 have e:gv (gz R)=.lst (R.rooms.map Rb):=by
  unfold gv;rw[xa h];dsimp only;rw[if_pos rfl,VW]
  congr 1
  exact List.map_congr_left λq hq=>Ag (h.rb q hq)
 unfold dh;rw[e];exact if_pos (uP (λq hq=>(h.ok.room q hq).1) h.ok.lo h.ok.hi)
theorem t7{R:cD}(h:TN R):∀(as:List RL)(acc:List RL)(i:Nat),(∀a∈as,a∈R.asks)->((acc++as).map (·.nm)).Nodup->i=acc.length+1->acc.length+as.length<=20->mB (R.n:Int) (acc.map mT) (as.map D9) i=.inr ((acc++as).map mT)
 |[],acc,i,_,_,_,_=>by rw[U5];rfl
 | a::as,acc,i,hm,nd,hi,hl=>by
  rw[Uk]at hl;have ha:=hm a Ui;rw[UC];unfold mB;rw[DV h ha];have en:gw (mT a)=a.nm:=rfl;have em:(acc.map mT).map gw=acc.map (·.nm):=by rw[VW];rfl
  have hn:a.nm∉acc.map (·.nm):=by rw[Vg,UC]at nd;have:=UQ.mp nd;intro z;exact this.2.2 _ z _ Ui rfl
  rw[if_pos ⟨⟨JN (h.ok.ask a ha) (h.nms a ha),by rw[en,em];exact hn⟩,xL⟩];have:=t7 h as (acc++[a]) (i+1) (λb hb=>hm b (Ud _ hb)) (by rw[UT];exact nd) (by rw[Ue,Us,hi]) (by rw[Ue,Us];omega);rw[Vg,UT]at this;exact this
theorem DW{R:cD}(h:TN R):∀z∈ie R,10∉z.cps.toList:=λz hz=>by
 rcases Uo.mp hz with rfl|hz
 .
  unfold gz;rw[Dn];intro hc;rcases Ur.mp hc with hc|hc
  . exact absurd hc y_
  . refine wG y_ (λz hz hc=>?_) hc;obtain⟨q,hq,rfl⟩:=UW.mp hz;rcases pO hc with h|h<;>omega
 . obtain⟨a,ha,rfl⟩:=UW.mp hz;exact wG y_ λz hz hc=>by have:=t6 h ha z hz 10 hc;omega
theorem DX{R:cD}(h:TN R)(nd:(R.asks.map (·.nm)).Nodup):rS (Str.join (Str.ofString "\n") (ie R))=.inr (R.rooms.map Rb,R.asks.map mT):=by unfold rS;rw[ia JS (by simp[ie]) (DW h)];show yD (dh (gz R)) (R.asks.map D9)=_;rw[yH h];unfold yD;dsimp only;rw[tu];have:=t7 h R.asks [] 1 (λa ha=>ha) nd rfl (by simpa using h.ok.few);rw[List.map_nil,Vj]at this;rw[show(R.rooms.length:Int)=(R.n:Int)from rfl,this]
theorem vm{n m:Nat}{zs:List Str}(h:w8 n m zs)(k:(n+1)*m<=90000):((zs.map (·.length)).sum+zs.length*(Str.ofString "\n").length<=16777216)/\As 90000 (Txt.join (Str.ofString "\n") zs):=by
 have e1:(Str.ofString "\n").length=1:=by decide +kernel
 have hk:(n+1)*zs.length<=90000:=Uv (Nat.mul_le_mul_left _ h.len) k;have j:=uV (y:=Str.ofString "\n") (m:=1) (a7 y_) h.as;rw[e1,tj];exact⟨DD (n:=n) (m:=1) h.as xL,j.mono hk⟩
theorem w8.mono'{ws:List Str}(h:w8 (2*1000+200) (max 24 (24+3)) ws):w8 2200 27 ws:=h
theorem Ki{R:cD}:∀ d∈[D.non,D.int 5,D.bl true,lj R,D.lst ((ie R).map D.str),D.tup ((ie R).map D.str),D.dct 0,D.lst [D.str (Str.ofString "rooms 1 1")],D.int 0,D.tup []],∀ x,d≠.str x:=by intro d hd x e;subst e;simp only[Uo,VY,or_false]at hd;unfold lj at hd;rcases hd with h|h|h|h|h|h|h|h|h|h<;>cases h
theorem PN{x0 x1 x3 x6:L}{R:cD}{zs:List Str}{a:Addr}{xs:List D}{Q:Fl->Ev->Prop}(hx:gZ xs)(hz:w8 1000 24 zs)(q:∀ys,gZ ys->∀x5 x6,Q .nx [x0,x1,.d (.lst ((ie R).map .str)),x3,.own a ys,x5,x6]) :
  pL [x0,x1,.d (.lst ((ie R).map .str)),x3,.own a xs,.d (.lst (zs.map .str)),x6] Q:=by
 have sh:=Do hz.as;unfold pL;walk_at "v";refine⟨x_,λ_=>⟨sh,bq (n:=1) rfl x_,?_⟩⟩;rw[uO];by_cases c:zs=[]
 . rw[if_neg (by rw[c];decide)];exact q xs hx _ _
 .
  have h0:0<zs.length:=List.length_pos_iff.mpr c;rw[if_pos (by cases zs with|nil=>exact absurd rfl c|cons z zs=>rfl)];refine⟨a,xs,3,rfl,hx,x_,x_,λr ys hy r0 r1=>⟨ys,rfl,?_⟩⟩;walk_at "v";by_cases c2:r=0
  .
   rw[if_pos c2];unfold DN;walk_at "v";refine⟨a,ys,zs,1000,24,rfl,hy,hz,h0,x_,x_,x_,λus ws hu hw l hl=>⟨us,rfl,?_⟩⟩;have j:=vm (hw.mono':w8 2200 27 ws) x_;rcases hl with rfl|⟨b,rfl⟩
   . walk_at "v";refine⟨ws,rfl,j.1,_,rfl,j.2.mono x_,?_⟩;walk_at "v";exact q us hu _ _
   . walk_at "v";refine⟨ws,rfl,j.1,_,rfl,j.2.mono x_,?_⟩;walk_at "v";exact q us hu _ _
  . rw[if_neg c2];exact q ys hy _ _
theorem PP{x0 x3 x6:L}{R:cD}{zs:List Str}{a:Addr}{xs:List D}{Q:Fl->Ev->Prop}(hR:TN R)(hx:gZ xs)(hz:w8 1000 24 zs)(q:∀ys,gZ ys->∀x5 x6,Q .nx [x0,.d (lj R),.d (.lst ((ie R).map .str)),x3,.own a ys,x5,x6]) :
  pM [x0,.d (lj R),.d (.lst ((ie R).map .str)),x3,.own a xs,.d (.lst (zs.map .str)),x6] Q:=by
 unfold pM;walk_at "v";refine⟨x_,λ_=>⟨x_,x_,λ_=>⟨a,xs,10,rfl,hx,x_,x_,λr ys hy r0 r1=>⟨ys,rfl,?_⟩⟩⟩⟩;walk_at "v";obtain⟨v,ev,hv⟩:=Mw (Ki (R:=R)) r0 (by simp only[Uk,UA];omega);refine⟨v,ev,?_⟩;unfold t4;walk_at "v";refine⟨v,0,rfl,λx e=>absurd e (hv x),λ_=>rfl,?_⟩;walk_at "v";exact PN hy hz q
theorem Kj:Wq 1 6 fs_law Kh:=by
 rintro ls so - ⟨ns,rfl,hl,h⟩;unfold Kh;walk_at "v";refine⟨ns,0,8,9,rfl,x_,x_,x_,x_,λR dr=>?_⟩;walk_at "v";have hR:TN R:=⟨dr.ok,dr.nms.1,λq hq=>(dr.ok.room q hq).2,dr.tt,dr.hi,dr.few⟩;have r0:w8 400 10 (ie R):=⟨J5 hR,by have:=hR.m;simp only[ie,Uk,tu];omega⟩;have l0:0<(ie R).length:=by simp[ie]
 unfold DS;walk_at "v";refine⟨R,rfl,hR,λb0=>?_⟩;walk_at "v";unfold DQ;walk_at "v"
 have hn:∃n:Nat,(if(if(43:Int)<(ns.length:Int)then(43:Int)else(ns.length:Int)) > 4 then if(43:Int)<(ns.length:Int)then(43:Int)else(ns.length:Int)else 4)=(n:Int)/\4<=n/\n<=43:=by
  by_cases c:43<ns.length
  . exact⟨43,by rw[if_pos (show(43:Int)<(ns.length:Int) by omega),if_pos (by decide)];rfl,x_,x_⟩
  .
   by_cases c2:4<ns.length
   . exact⟨ns.length,by rw[if_neg (show ¬(43:Int)<(ns.length:Int) by omega),if_pos (show(ns.length:Int) > 4 by omega)],xL,xL⟩
   . exact⟨4,by rw[if_neg (show ¬(43:Int)<(ns.length:Int) by omega),if_neg (show ¬(ns.length:Int) > 4 by omega)];rfl,x_,x_⟩
 obtain⟨n,en,n0,n1⟩:=hn;rw[en];refine⟨⟨x_,x_⟩,⟨xL,xL⟩,?_⟩;refine zH 3 _ (λj Z=>∃x3 x4 x5 x6,Z=[.d (.lst (ns.map .int)),.d (lj R),.d (.lst ((ie R).map .str)),x3,x4,x5,x6]) _ ⟨_,_,_,_,rfl⟩ ?_ ?_
 .
  rintro j Z hj ⟨x3,x4,x5,x6,rfl⟩ Q q1 _ _ _;have hj:j<41:=by omega
  walk_at "v";unfold DO;walk_at "v";refine⟨ns,3+(j:Int),rfl,xL,xL,λa xs hx=>?_⟩;walk_at "v";unfold t5;walk_at "v";refine⟨a,xs,ie R,400,10,rfl,hx,r0,l0,x_,x_,x_,λys zs hy hz l hl=>⟨ys,rfl,?_⟩⟩;have rest:pN [.d (.lst (ns.map .int)),.d (lj R),.d (.lst ((ie R).map .str)),.d (.int (3+(j:Int))),.own a ys,.d (.lst (zs.map .str)),x6] Q:=by have hz:w8 1000 24 zs:=hz;have j:=vm hz x_;unfold pN;walk_at "v";refine⟨zs,rfl,j.1,_,rfl,j.2.mono x_,?_⟩;walk_at "v";exact PP hR hy hz λys hy x5 x6=>q1 _ ⟨_,_,_,_,rfl⟩
  rcases hl with rfl|⟨b,rfl⟩
  . walk_at "v";exact rest
  . walk_at "v";exact rest
 .
  rintro Z ⟨x3,x4,x5,x6,rfl⟩;have jr:=vm r0 x_;have ea:=jr.2.app (a7 (n:=1) (x:=Str.ofString "\n") y_);have la:=ea.len;rw[Vl]at la;have e0:sizeLine=16777216:=by decide
  have ok:=FI hR.ok;have sh:=bq ok x_;unfold DP;walk_at "v";refine⟨ie R,rfl,jr.1,xL,_,rfl,ea.mono x_,?_⟩;walk_at "v";unfold DM;walk_at "v";refine⟨ie R,rfl,jr.1,?_⟩;rw[tj]at *;have rb:=DX hR dr.nms.2;refine⟨_,rfl,(λy z=>by cases z;exact jr.2.mono x_),(λy p z eq a b=>?_),(λy k z eq=>?_),λz=>absurd rfl (z _)⟩
  . cases z;rw[rb]at eq;cases eq;walk_at "v";refine⟨sh,sh,?_⟩;rw[show Q1 (.tup [.lst (R.rooms.map Rb),.lst (R.asks.map mT)]) (lj R)=true from y9 ok];exact⟨_,aB aZ,h⟩
  . cases z;rw[rb]at eq;cases eq
noncomputable abbrev gU:Stmt:=Hd.inCls (Hd.top 1) 0
noncomputable abbrev kG:FuncData:=RF "__init__" "LoadError.__init__" gU XR 27
noncomputable abbrev je:Stmt:=Hd.inCls (Hd.top 3) 0
noncomputable abbrev kH:FuncData:=RF "__init__" "NoRing.__init__" je XR 59
noncomputable abbrev jf:Stmt:=Hd.inCls (Hd.top 5) 0
noncomputable abbrev kI:FuncData:=RF "__init__" "NoText.__init__" jf XR 97
structure Tx (K:W.Frag) (mg:Str->Option Value) (ad:Nat->Addr) (fd:Nat->FuncData):Prop where
 WV:FX K mg "greatest_shared" dF (ad 0) (fd 0) ["one","other"]
 WB:FX K mg "is_whole" pj (ad 1) (fd 1) ["thing"]
 WW:FX K mg "is_number_below" dG (ad 2) (fd 2) ["thing","many"]
 WX:FX K mg "are_two_wholes" eG (ad 3) (fd 3) ["thing"]
 WC:FX K mg "is_ratio" pw (ad 4) (fd 4) ["thing"]
 WY:FX K mg "is_name" nF (ad 5) (fd 5) ["thing"]
 WZ:FX K mg "look_at_rooms" fM (ad 6) (fd 6) ["rooms"]
 W0:FX K mg "is_ask" uZ (ad 7) (fd 7) ["thing","is_end"]
 W1:FX K mg "look_at_each_ask" cY (ad 8) (fd 8) ["asks","is_end"]
 W2:FX K mg "look_at_asks" dW (ad 9) (fd 9) ["asks","places"]
 W3:LV K "look_at_asks" (fd 9) dW
 W4:FX K mg "look_at_ring" gI (ad 10) (fd 10) ["thing"]
 WJ:FX K mg "is_ring" rG (ad 11) (fd 11) ["thing"]
 W5:FX K mg "shown_ratio" iQ (ad 12) (fd 12) ["one"]
 WD:FX K mg "whole_in" kY (ad 13) (fd 13) ["text"]
 WK:FX K mg "ratio_in" kZ (ad 14) (fd 14) ["text"]
 W6:FX K mg "rooms_in" k6 (ad 15) (fd 15) ["row"]
 W7:FX K mg "ask_in" u5 (ad 16) (fd 16) ["row"]
 WE:FX K mg "read_ring" mj (ad 17) (fd 17) ["text"]
 Wy:FX K mg "_law_begun" kb (ad 18) (fd 18) ["_law_script","_law_k"]
 Ws:FX K mg "_law_take" ml (ad 19) (fd 19) ["_law_state","_law_many_here"]
 W8:FX K mg "_law_names" ee (ad 20) (fd 20) ["_law_state","_law_many_here"]
 WL:FX K mg "_law_low" pA (ad 21) (fd 21) ["_law_top","_law_bottom"]
 WG:FX K mg "_law_amount" iR (ad 22) (fd 22) ["_law_state","_law_least","_law_kind"]
 W9:FX K mg "_law_rooms" ke (ad 23) (fd 23) ["_law_state","_law_ties","_law_kind"]
 Xa:FX K mg "_law_ends" mn (ad 24) (fd 24) ["_law_state","_law_shape","_law_places","_law_k"]
 Xb:FX K mg "_law_ring" mq (ad 25) (fd 25) ["_law_script","_law_at","_law_most","_law_count"]
 WM:FX K mg "_law_ratio" kf (ad 26) (fd 26) ["_law_one"]
 Xd:FX K mg "_law_rows" iS (ad 27) (fd 27) ["_law_ring_here"]
 Xe:FX K mg "_law_many" iT (ad 28) (fd 28) ["_law_state","_law_rows_here"]
 Xf:FX K mg "_law_bent_row" fN (ad 29) (fd 29) ["_law_state","_law_row"]
 WN:FX K mg "_law_bent" mr (ad 30) (fd 30) ["_law_state","_law_rows_here"]
 WH:FX K mg "_law_whole" gy (ad 31) (fd 31) ["_law_word"]
 WO:FX K mg "_law_fraction" cZ (ad 32) (fd 32) ["_law_word"]
 Xg:FX K mg "_law_room_row" cu (ad 33) (fd 33) ["_law_row"]
 Xh:FX K mg "_law_ask_row" dX (ad 34) (fd 34) ["_law_row","_law_places","_law_taken"]
 Xi:FX K mg "_law_read" iU (ad 35) (fd 35) ["_law_text"]
 WQ:FX K mg "_law_refused" gJ (ad 36) (fd 36) ["_law_text","_law_due"]
 WI:FX K mg "_law_right" ki (ad 37) (fd 37) ["_law_text"]
 Xj:FX K mg "law" Gq (ad 38) (fd 38) ["_law_script"]
 li:Cn K mg 31 28 kG gU
 Xo:QF K "__init__" "NoRing.__init__" je 60 kH
 Xp:QF K "__init__" "NoText.__init__" jf 98 kI
 Ww:XT K mg "NoRing" 63 60 kH ["self","part","number"] ["part","number"]
 WR:XT K mg "NoText" 101 98 kI ["self","row"] ["row"]
 Xq:XH K mg "LoadError" 31
 Xr:XH K mg "NoNumber" 44
 Xk:XH K mg "NoRing" 63
 Xs:XH K mg "NoRow" 113
 Xu:XH K mg "NoText" 101
 Xv:XH K mg "NoTree" 82
 Xl:mg "ValueError"=none
 WS:mg "abs"=none
 Xm:mg "all"=none
 Xn:mg "bool"=none
 WT:mg "enumerate"=none
 Wz:mg "int"=none
 Wu:mg "isinstance"=none
 Wt:mg "len"=none
 WU:mg "list"=none
 Xw:mg "max"=none
 Xx:mg "min"=none
 Wx:mg "range"=none
 Wv:mg "str"=none
 WA:mg "tuple"=none
 Xy:sD K mg "ASK" (.str "ask")
 Xz:sD K mg "FEWEST_TIES" (.int 2)
 XA:sD K mg "LONGEST_NAME" (.int 8)
 XB:sD K mg "MOST_ASKS" (.int 20)
 XC:sD K mg "MOST_FIGURES" (.int 60)
 XE:sD K mg "MOST_TIES" (.int 12)
 XG:sD K mg "ROOMS" (.str "rooms")
section
variable{P:Program}{w:World}{K:W.Frag}{mg:Str->Option Value}{base:Heap}{ad:Nat->Addr}{fd:Nat->FuncData}
theorem Wp{a b:List Str}{c:Scope}(h:aU a b c:=by exact ⟨rfl,rfl,rfl,y_,rfl,y_,y_⟩):aU a b c:=h
theorem rV:aU ["self","text"] ["self","text"] (au gU):=Wp
theorem xb:aU ["self","part","number"] ["self","part","number"] (au je):=Wp
theorem xc:aU ["self","row"] ["self","row"] (au jf):=Wp
theorem qg(T:Tx K mg ad fd):FnOk P w K mg base CX0 1 28 kG ["self","text"] (M4 K):=T.li.f.ok (k:=0) rV Fs (λcdv A outer s H vs Q E hr q=>⟨_,xu (xv (Fj rfl T.Xl (bE (pv 0) (bE (pv 1) eX)))),IJ q⟩)
theorem iF(T:Tx K mg ad fd):FnOk P w K mg base CX0 2 60 kH ["self","part","number"] (II K ["part","number"]):=T.Xo.ok (k:=1) xb zw (λcdv A outer s H vs Q E hr q=>⟨_,ua (xv (zk T.li (qg T) hr rfl (bE (pv 0) (bE sT eX)))) (ua (ya (pv 0) (pv 1)) (xu (ya (pv 0) (pv 2)))),IL x_ q⟩)
theorem rW(T:Tx K mg ad fd):FnOk P w K mg base CX0 2 98 kI ["self","row"] (II K ["row"]):=T.Xp.ok (k:=1) xc zw (λcdv A outer s H vs Q E hr q=>⟨_,ua (xv (zk T.li (qg T) hr rfl (bE (pv 0) (bE sT eX)))) (xu (ya (pv 0) (pv 1))),IK q⟩)
theorem ck:aU ph ["one","other"] (au dF):=Wp
abbrev Wr(T:Tx K mg ad fd)(P:Program)(w:World)(base:Heap)(d i:Nat)(ps:List Str)(n:Nat)(f:FS):Prop:=FnOk P w K mg base CX0 d (ad i) (fd i) ps (spF K n f)
theorem oJ(T:Tx K mg ad fd):Wr T P w base 1 0 ["one","other"] 2 da:=
 cy (k:=0) T.WV.f ck dH (λcdv A outer s H E hr=>(ai (uq VR (QT (lg hr.units) (af 1) ah (aS _)) (ai (aJ (i:=2) ck.nd rfl v4 (av fu (af 0) (af 1)))
  (ai (aJ (i:=0) ck.nd rfl v4 (af 1))
  (aq (aJ (i:=1) ck.nd rfl v4 (af 2))))))
  (aq (aN (aV BS rfl T.WS y_ (ae (af 0) ag))))))
  mw
theorem yI:aU A2 ["thing"] (au pj):=Wp
theorem mL(T:Tx K mg ad fd):Wr T P w base 1 1 ["thing"] 1 fP:=
 cy (k:=0) T.WB.f yI k7 (λcdv A outer s H E hr=>(aq (aN (lB (jq Ib rfl T.Wu rfl T.Wz y_ (af 0)) (qQ (GH (jq y4 rfl T.Wu rfl T.Xn y_ (af 0))))))))
  wQ
theorem oK:aU pk ["thing","many"] (au dG):=Wp
theorem oM(T:Tx K mg ad fd):Wr T P w base 2 2 ["thing","many"] 2 de:=
 cy (k:=1) T.WW.f oK dJ (λcdv A outer s H E hr=>(aq (aN (lB (bM (mL T) T.WB hr (ae (af 0) ag)) (qQ (zd oV Ih ah (af 0) (af 1)))))))
  mx
theorem pP:aU qq ["thing"] (au eG):=Wp
theorem pQ(T:Tx K mg ad fd):Wr T P w base 2 3 ["thing"] 1 dM:=
 cy (k:=1) T.WX.f pP cJ (λcdv A outer s H E hr=>(aq (aN (lB (jq qW rfl T.Wu rfl T.WA y_ (af 0)) (lB (jm (d6 hr.units) (aV bQ rfl T.Wt y_ (ae (af 0) ag)) ah (aS _)) (lB (bM (mL T) T.WB hr (ae (aY (af 0) ah Wl) ag)) (qQ (bM (mL T) T.WB hr (ae (aY (af 0) ah Wl) ag)))))))))
  nH
theorem yJ:aU A3 ["thing"] (au pw):=Wp
theorem mM(T:Tx K mg ad fd):Wr T P w base 3 4 ["thing"] 1 fQ:=
 cy (k:=2) T.WC.f yJ k8 (λcdv A outer s H E hr=>(aq (aN (lB (bM (pQ T) T.WX hr (ae (af 0) ag)) (lB (jm HS (aY (af 0) ah Wl) ah (aS _)) (qQ (jm (d6 hr.units) (bM (oJ T) T.WV hr (ae (aY (af 0) ah Wl) (ae (aY (af 0) ah Wl) ag))) ah (aS _))))))))
  wR
theorem A9:aU wK ["thing"] (au nF):=Wp
theorem Ba(T:Tx K mg ad fd):Wr T P w base 1 5 ["thing"] 1 pB:=
 cy (k:=0) T.WY.f A9 rN (λcdv A outer s H E hr=>(ai (bA (bN (bV (jq BZ rfl T.Wu rfl T.Wv y_ (af 0)))) (aq (aN m4)) aO)
  (aq (aN (lB (zd oV oV ah (aV bQ rfl T.Wt y_ (ae (af 0) ag)) (Ic T.XA rfl)) (qQ (aV (GN rfl) rfl T.Xm y_ (ae (aA (fC (sc:=(au nF)) (N:=wK) (Nt:=["sign"]) (Nf:=[]) (fi:=[]) rfl rfl rfl (rj (af 0)) rfl y_ y_ y_ x_ rfl y_ x_ (λ_ _ _ _=>(cV x_ (show((["sign"]:List Str)++([]:List Str)).Nodup by decide +kernel) rfl (Or.inl rfl))) (λ_ _ _ _=>fB) (λ_ _ _ _=>(vW aP (l9.cons pY (af 0) (l9.one pY aP)))))) ag))))))))
  yz
theorem eT:aU rF ["rooms"] (au fM):=Wp
theorem qw(T:Tx K mg ad fd):FnOk P w K mg base (Rt P w) 4 (ad 6) (fd 6) ["rooms"] (Rx K 1 eH) :=
 zm (k:=3) T.WZ.f eT (λxp=>fR xp) (λcdv A outer s H E xp hr hE=>(ai (bA (QR.pb (b9 (bN (bV (jq uy rfl T.Wu rfl T.WU y_ (af 0)))) (cn (bN (kU oV oV (Ic T.Xz rfl) (aV bQ rfl T.Wt y_ (ae (af 0) ag)) (Ic T.XE rfl)))))) (aq (cW T.Ww (iF T) hr (eE hE) (ae aP (ae bH ag)))) aO)
  (aq (pW PassesOwn.leaving rfl (ze rfl T.WT (af 0)) (sW rfl (cj (i:=1) eT.nd rfl v4 (cj (i:=2) eT.nd rfl v4 oQ))) (aq (bA (QR.pb (b9 (bN (bV (bM (mM T) T.WC hr (ae (af 2) ag)))) (cn (QT Ld (aY (af 2) ah Wl) ah (aS _))))) (aq (cW T.Ww (iF T) hr (eE hE) (ae aP (ae (af 1) ag)))) aO))))))
  pC
theorem f9(T:Tx K mg ad fd):Fw P w K mg base 3 "look_at_asks" b7:=LS (k:=2) (p:="place") (y:="places") (T.W3.lam.trans rfl) (NL rfl rfl rfl rfl rfl rfl λ_ _ _ _ _ _=>rfl) df (λA outer s H f c c' hr=>(bM (oM T) T.WW hr (ae (af 0) (ae (af 1) ag)))) lq
theorem DY:aU Gn ["thing","is_end"] (au uZ):=Wp
theorem DZ(T:Tx K mg ad fd):Wr T P w base 4 7 ["thing","is_end"] 2 rO:=
 cy (k:=3) T.W0.f DY u7 (λcdv A outer s H E hr=>(ai (bA (QR.pb (b9 (bN (bV (jq qW rfl T.Wu rfl T.WA y_ (af 0)))) (cn (QT (lg hr.units) (aV bQ rfl T.Wt y_ (ae (af 0) ag)) ah (aS _))))) (aq (aN m4)) aO)
  (ai (bA (QR.pb (b9 (bN (bV (bM (Ba T) T.WY hr (ae (aY (af 0) ah Wl) ag)))) (cn (bN (bV (bM (mM T) T.WC hr (ae (aY (af 0) ah Wl) ag))))))) (aq (aN m4)) aO)
  (ai (bA (QR.pb (b9 (bN (bV (GX (f9 T) hr 1 (aY (af 0) ah Wl)))) (cn (bN (bV (GX (f9 T) hr 1 (aY (af 0) ah Wl))))))) (aq (aN m4)) aO)
  (aq (aN (lB (jm (lg hr.units) (aY (af 0) ah Wl) (aY (af 0) ah Wl) (aS _)) (qQ (jm HS (aY (aY (af 0) ah Wl) ah Wl) ah (aS _))))))))))
  A5
theorem b8:aU nG ["asks","is_end"] (au cY):=Wp
theorem mN(T:Tx K mg ad fd):FnOk P w K mg base (Rt P w) 5 (ad 8) (fd 8) ["asks","is_end"] (Rx K 2 cN) :=
 zm (k:=4) T.W1.f b8 (λxp=>dg xp) (λcdv A outer s H E xp hr hE=>(ai (bA (bN (bV (jq uy rfl T.Wu rfl T.WU y_ (af 0)))) (aq (cW T.Ww (iF T) hr (eE hE) (ae aP (ae bH ag)))) aO)
  (ai (aJ (i:=2) b8.nd rfl v4 IX)
  (aq (pW PassesOwn.leaving rfl (ze rfl T.WT (af 0)) (sW rfl (cj (i:=3) b8.nd rfl v4 (cj (i:=4) b8.nd rfl v4 oQ))) (ai (bA (QR.pb (b9 (bN (bV (bM (DZ T) T.W0 hr (ae (af 4) (ae (af 1) ag))))) (cn (LO 2 (aY (af 4) ah Wl) rfl)))) (aq (cW T.Ww (iF T) hr (eE hE) (ae aP (ae (af 3) ag)))) aO)
  (aq (IW 2 (aY (af 4) ah Wl) m4))))))))
  lu
theorem rX:aU sI ["asks","places"] (au dW):=Wp
theorem rY(T:Tx K mg ad fd):FnOk P w K mg base (Rt P w) 6 (ad 9) (fd 9) ["asks","places"] (Rx K 2 fS) :=
 Jf (k:=5) T.W2.f rX (λxp=>gK xp) (λcdv A outer s H E xp hcv hr hE=>(ai (bA (QR.pb (qP (bV (jq uy rfl T.Wu rfl T.WU y_ (af 0))) (m5 (QT AB (aV bQ rfl T.Wt y_ (ae (af 0) ag)) (Ic T.XB rfl) (aS _))))) (aq (cW T.Ww (iF T) hr (eE hE) (ae aP (ae bH ag)))) aO)
  (aq (fk (Jg (mN T) T.W1 hr (eE hE) 1 (LW T.W3 hcv rfl x_ rfl rfl rfl rfl rfl rfl) (af 0))))))
  qr
theorem rZ:aU sJ ["thing"] (au gI):=Wp
theorem r6(T:Tx K mg ad fd):FnOk P w K mg base (Rt P w) 7 (ad 10) (fd 10) ["thing"] (Rx K 1 fT) :=
 zm (k:=6) T.W4.f rZ (λxp=>gL xp) (λcdv A outer s H E xp hr hE=>(ai (bA (QR.pb (b9 (bN (bV (jq qW rfl T.Wu rfl T.WA y_ (af 0)))) (cn (QT (lg hr.units) (aV bQ rfl T.Wt y_ (ae (af 0) ag)) ah (aS _))))) (aq (cW T.Ww (iF T) hr (eE hE) (ae aP (ae bH ag)))) aO)
  (ai (fk (zv (qw T) T.WZ hr (eE hE) (ae (aY (af 0) ah Wl) ag)))
  (aq (fk (zv (rY T) T.W2 hr (eE hE) (ae (aY (af 0) ah Wl) (ae (aA (aV bQ rfl T.Wt y_ (ae (aY (af 0) ah Wl) ag))) ag))))))))
  qt
theorem Bb:aU Dt ["thing"] (au rG):=Wp
theorem t8(T:Tx K mg ad fd):Wr T P w base 8 11 ["thing"] 1 k9:=
 cy (k:=7) T.WJ.f Bb rP (λcdv A outer s H E hr=>(ai (IP rfl rfl T.Xk rfl (λ_ _ xt=>(zp (zo (GT (r6 T) T.W4 hr (ae (af 0) ag))))) (λ_=>(aq (aN m4))))
  (aq (aN m4))))
  yA
theorem gW:aU u4 ["one"] (au iQ):=Wp
theorem sS(T:Tx K mg ad fd):Wr T P w base 1 12 ["one"] 1 gM:=
 cy (k:=0) T.W5.f gW iV (λcdv A outer s H E hr=>(ai (bA (QT (d6 hr.units) (aY (af 0) ah Wl) ah (aS _)) (aq (aN (bO j5 rfl T.Wv y_ (ae (aY (af 0) ah Wl) ag)))) aO)
  (ai (aJ (i:=1) gW.nd rfl v4 (aY (af 0) ah Wl))
  (ai (aJ (i:=2) gW.nd rfl v4 (aY (af 0) ah Wl))
  (aq (aN (Jm (GY (af 1)) aP (.cons (GY (af 2)) .nil))))))))
  rQ
theorem mO:aU tO ["text"] (au kY):=Wp
theorem mP(T:Tx K mg ad fd):Wr T P w base 1 13 ["text"] 1 fU:=
 cy (k:=0) T.WD.f mO pD (λcdv A outer s H E hr=>(ai (aJ (i:=1) mO.nd rfl v4 (aA (yR (bV (CC (af 0))) (aL (af 0) ah trivial) (af 0))))
  (ai (bA (QR.pb (b9 (bN (kU oV oV ah (aV bQ rfl T.Wt y_ (ae (af 1) ag)) (Ic T.XC rfl))) (cn (bN (bV (aV (GN rfl) rfl T.Xm y_ (ae (aA (fC (sc:=(au kY)) (N:=tO) (Nt:=["sign"]) (Nf:=[]) (fi:=[]) rfl rfl rfl (rj (af 1)) rfl y_ y_ y_ x_ rfl y_ x_ (λ_ _ _ _=>(cV x_ (show((["sign"]:List Str)++([]:List Str)).Nodup by decide +kernel) rfl (Or.inl rfl))) (λ_ _ _ _=>fB) (λ_ _ _ _=>(vW aP (l9.cons pY (af 0) (l9.one pY aP)))))) ag))))))) (aq (aN bH)) aO)
  (ai (aJ (i:=2) mO.nd rfl v4 (aA (bO CF rfl T.Wz y_ (ae (af 0) ag))))
  (aq (aN (yR (QT LC (bO j5 rfl T.Wv y_ (ae (af 2) ag)) (af 0) (aS _)) (af 2) bH)))))))
  wV
theorem mQ:aU tP ["text"] (au kZ):=Wp
theorem r9(T:Tx K mg ad fd):Wr T P w base 4 14 ["text"] 1 iW:=
 cy (k:=3) T.WK.f mQ pE (λcdv A outer s H E hr=>(ai (aJ (i:=1) mQ.nd rfl v4 (aA (bO yY rfl T.WA y_ (ae (aA (fC (sc:=(au kZ)) (N:=tP) (Nt:=["part"]) (Nf:=[]) (fi:=[]) rfl rfl rfl (jW (fb (af 0))) rfl y_ y_ y_ x_ rfl y_ x_ (λ_ _ _ _=>(cV x_ (show((["part"]:List Str)++([]:List Str)).Nodup by decide +kernel) rfl (Or.inl rfl))) (λ_ _ _ _=>fB) (λ_ _ _ _=>(bM (mP T) T.WD hr (ae (af 0) ag))))) ag))))
  (ai (bA (QT (d6 hr.units) (aV bQ rfl T.Wt y_ (ae (af 1) ag)) ah (aS _)) (aq (aJ (i:=1) mQ.nd rfl v4 (aA (av ID (af 1) (d5 (ae ah ag)))))) aO)
  (aq (aN (yR (QR.pb (qP (bV (bM (mM T) T.WC hr (ae (af 1) ag))) (m5 (QT (d6 hr.units) (bM (sS T) T.W5 hr (ae (af 1) ag)) (af 0) (aS _))))) (af 1) bH))))))
  wX
theorem se:aU tQ ["row"] (au k6):=Wp
theorem yK(T:Tx K mg ad fd):Wr T P w base 5 15 ["row"] 1 my:=
 cy (k:=4) T.W6.f se pF (λcdv A outer s H E hr=>(ai (aJ (i:=1) se.nd rfl v4 (aA (fb (af 0))))
  (aq (aN (yR (QT (d6 hr.units) (aY (af 1) ah Wl) (Ic T.XG rfl) (aS _)) (fC (sc:=(au k6)) (N:=tQ) (Nt:=["word"]) (Nf:=[]) (fi:=[]) rfl rfl rfl (jW (aL (af 1) ah trivial)) rfl y_ y_ y_ x_ rfl y_ x_ (λ_ _ _ _=>(cV x_ (show((["word"]:List Str)++([]:List Str)).Nodup by decide +kernel) rfl (Or.inl rfl))) (λ_ _ _ _=>fB) (λ_ _ _ _=>(bM (r9 T) T.WK hr (ae (af 0) ag)))) bH)))))
  wY
theorem xf:aU Gp ["row"] (au u5):=Wp
theorem D1(T:Tx K mg ad fd):Wr T P w base 5 16 ["row"] 1 rR:=
 cy (k:=4) T.W7.f xf vb (λcdv A outer s H E hr=>(ai (aJ (i:=1) xf.nd rfl v4 (aA (fb (af 0))))
  (ai (bA (QR.pb (b9 (QT (lg hr.units) (aV bQ rfl T.Wt y_ (ae (af 1) ag)) ah (aS _)) (cn (QT (lg hr.units) (aY (af 1) ah Wl) (Ic T.Xy rfl) (aS _))))) (aq (aN bH)) aO)
  (aq (aN (d5 (ae (aY (af 1) ah Wl) (ae (aA (bM (mP T) T.WD hr (ae (aY (af 1) ah Wl) ag))) (ae (aA (bM (mP T) T.WD hr (ae (aY (af 1) ah Wl) ag))) (ae (aA (bM (r9 T) T.WK hr (ae (aY (af 1) ah Wl) ag))) ag))))))))))
  A6
theorem eA:aU yu ["text"] (au mj):=Wp
theorem kJ(T:Tx K mg ad fd):FnOk P w K mg base (Rt P w) 9 (ad 17) (fd 17) ["text"] (Rx K 1 eh) :=
 zm (k:=8) T.WE.f eA (λxp=>mC xp) (λcdv A outer s H E xp hr hE=>(ai (bA (bN (bV (jq BZ rfl T.Wu rfl T.Wv y_ (af 0)))) (aq (cW T.WR (rW T) hr (eE hE) (ae ah ag))) aO)
  (ai (aJ (i:=1) eA.nd rfl v4 (aA (fb (af 0))))
  (ai (aJ (i:=2) eA.nd rfl v4 (Iv (ae (bM (yK T) T.W6 hr (ae (aY (af 1) ah Wl) ag)) (ae (bz ag) ag))))
  (ai (bA (bN (bV (xW 2 (bM (t8 T) T.WJ hr (ae (af 2) ag))))) (aq (cW T.WR (rW T) hr (eE hE) (ae ah ag))) aO)
  (ai (pW PassesOwn.leaving rfl (CJ rfl T.WT (aL (af 1) ah trivial)) (sW rfl (cj (i:=3) eA.nd rfl v4 (cj (i:=4) eA.nd rfl v4 oQ))) (ai (fk (Fe 2 ah (bM (D1 T) T.W7 hr (ae (af 4) ag)) Wl))
  (aq (bA (bN (bV (xW 2 (bM (t8 T) T.WJ hr (ae (af 2) ag))))) (aq (cW T.WR (rW T) hr (eE hE) (ae (af 3) ag))) aO))))
  (aq (aN (oP 2)))))))))
  vd
theorem jg:aU wL ["_law_script","_law_k"] (au kb):=Wp
theorem fj(T:Tx K mg ad fd):Wr T P w base 1 18 ["_law_script","_law_k"] 2 cz:=
 cy (k:=0) T.Wy.f jg kl (λcdv A outer s H E hr=>(ai (aJ (i:=2) jg.nd rfl v4 ah)
  (ai (bA (QT xN (af 1) (aV bQ rfl T.Wt y_ (ae (af 0) ag)) (aS _)) (aq (aJ (i:=2) jg.nd rfl v4 (aY (af 0) (af 1) Wl))) aO)
  (aq (aN (bz (ae (af 2) (ae (av fu (av aM (av aM (av fu (af 2) ah) (av jY (av jY ah (af 1)) (af 1))) ah) ah) (ae (jm HS (af 2) (av BR ah ah) (aS _)) ag)))))))))
  sM
theorem eB:aU yv ["_law_state","_law_many_here"] (au ml):=Wp
theorem aF(T:Tx K mg ad fd):Wr T P w base 1 19 ["_law_state","_law_many_here"] 2 aD:=
 cy (k:=0) T.Ws.f eB mE (λcdv A outer s H E hr=>(ai (bA (bV (nh (pX 0 ah Wl) (aY (af 0) ah Wl))) (ai (aJ (i:=2) eB.nd rfl v4 (av fu (nh (pX 0 ah Wl) (aY (af 0) ah Wl)) (af 1)))
  (ai (xP 0 ah (av vO (nh (pX 0 ah Wl) (aY (af 0) ah Wl)) (af 1)))
  (ai (xP 0 ah (jm AB (nh (pX 0 ah Wl) (aY (af 0) ah Wl)) ah (aS _)))
  (aq (aN (oP 2)))))) aO)
  (ai (aJ (i:=3) eB.nd rfl v4 ah)
  (ai (pW VR rfl (qC rfl T.Wx (av aM ah (av jY ah (bO GK rfl T.Wz y_ (ae (jm AB (af 1) (av BR ah ah) (aS _)) ag))))) (ur (i:=4) eB.nd rfl v4) (ai (xP 0 ah (av fu (av aM (av jY (nh (pX 0 ah Wl) (aY (af 0) ah Wl)) ah) ah) ah))
  (aq (aJ (i:=3) eB.nd rfl v4 (aA (av aM (av jY (af 3) ah) (av fu (av jY (nh (pX 0 ah Wl) (aY (af 0) ah Wl)) (nh (pX 0 ah Wl) (aY (af 0) ah Wl))) ah)))))))
  (aq (aN (av fu (av vO (af 3) ah) (af 1))))))))
  ve
theorem dz:aU kc ["_law_state","_law_many_here"] (au ee):=Wp
theorem vn(T:Tx K mg ad fd):Wr T P w base 2 20 ["_law_state","_law_many_here"] 2 i3:=
 cy (k:=1) T.W8.f dz km (λcdv A outer s H E hr=>(ai (aJ (i:=2) dz.nd rfl v4 aP)
  (ai (aJ (i:=3) dz.nd rfl v4 (aA (eD (fC (sc:=(au ee)) (N:=kc) (Nt:=["_law_k"]) (Nf:=["_law_letters","_law_state"]) (fi:=[2,0]) rfl rfl rfl (qC rfl T.Wx (av aM ah (bp (aF T) T.Ws hr 0 0 (aX 0 (ae ah ag))))) rfl y_ y_ y_ x_ rfl y_ x_ (λ_ _ _ _=>(cV x_ (show((["_law_k"]:List Str)++(["_law_letters","_law_state"]:List Str)).Nodup by decide +kernel) rfl (Or.inl rfl))) (λ_ _ _ _=>fB) (λ_ _ _ _=>(aY (af 1) (bp (aF T) T.Ws hr 0 2 (aX 2 (ae ah ag))) Wl))))))
  (ai (aJ (i:=4) dz.nd rfl v4 (aA (bp (aF T) T.Ws hr 0 0 (aX 0 (ae (aA (aV bQ rfl T.Wt y_ (ae (af 3) ag))) ag)))))
  (ai (aJ (i:=5) dz.nd rfl v4 (aA (bp (aF T) T.Ws hr 0 0 (aX 0 (ae ah ag)))))
  (aq (aN (fC (sc:=(au ee)) (N:=kc) (Nt:=["_law_k"]) (Nf:=["_law_base","_law_at","_law_letters","_law_turn"]) (fi:=[3,4,2,5]) rfl rfl rfl (qC rfl T.Wx (af 1)) rfl y_ y_ y_ x_ rfl y_ x_ (λ_ _ _ _=>(cV x_ (show((["_law_k"]:List Str)++(["_law_base","_law_at","_law_letters","_law_turn"]:List Str)).Nodup by decide +kernel) rfl (Or.inl rfl))) (λ_ _ _ _=>fB) (λ_ _ _ _=>(av aM (av aM (aL (af 1) trivial (af 2)) (aY (af 3) (av fu (av aM (af 4) (af 0)) ah) Wl)) (aL (af 1) (av aM (af 2) ah) trivial)))))))))))
  sN
theorem gb:aU A4 ["_law_top","_law_bottom"] (au pA):=Wp
theorem sf(T:Tx K mg ad fd):Wr T P w base 1 21 ["_law_top","_law_bottom"] 2 i4:=
 cy (k:=0) T.WL.f gb pG (λcdv A outer s H E hr=>(ai (aJ (i:=2) gb.nd rfl v4 (aA (aV BS rfl T.WS y_ (ae (af 0) ag))))
  (ai (aJ (i:=3) gb.nd rfl v4 (aA (aV BS rfl T.WS y_ (ae (af 1) ag))))
  (ai (uq VR (QT (lg hr.units) (af 2) ah (aS _)) (aq (Lk (i:=2) (j:=3) rfl gb.nd rfl rfl x_ rfl rfl (av fu (af 3) (af 2)) (af 2) rfl)))
  (ai (bA (QT xN (af 1) ah (aS _)) (aq (aJ (i:=3) gb.nd rfl v4 (av qT ah (af 3)))) aO)
  (aq (aN (d5 (ae (av vO (af 0) (af 3)) (ae (av vO (af 1) (af 3)) ag))))))))))
  w5
theorem gX:aU u6 ["_law_state","_law_least","_law_kind"] (au iR):=Wp
theorem gY(T:Tx K mg ad fd):Wr T P w base 2 22 ["_law_state","_law_least","_law_kind"] 3 cH:=
 cy (k:=1) T.WG.f gX i5 (λcdv A outer s H E hr=>by exact(@ai _ _ _ _ _ (@aJ _ _ _ 3 _ _ _ gX.nd rfl v4 (@aA _ _ _ (@av _ _ _ _ _ _ _ _ aM ah (bp (aF T) T.Ws hr 0 0 (aX 0 (@ae _ _ _ _ _ _ (@aY _ _ _ _ _ _ (@bz _ _ _ _ _ (@ae _ _ _ _ _ _ ah (@ae _ _ _ _ _ _ ah (@ae _ _ _ _ _ _ ah (@ae _ _ _ _ _ _ ah (@ae _ _ _ _ _ _ ah ag z_) z_) z_) z_) z_)) (af 2) Wl) ag z_))))) z_ aaa) (@ai _ _ _ _ _ (@aJ _ _ _ 4 _ _ _ gX.nd rfl v4 (@aA _ _ _ (@av _ _ _ _ _ _ _ _ aM (af 1) (bp (aF T) T.Ws hr 0 0 (aX 0 (@ae _ _ _ _ _ _ (@aY _ _ _ _ _ _ (@bz _ _ _ _ _ (@ae _ _ _ _ _ _ ah (@ae _ _ _ _ _ _ ah (@ae _ _ _ _ _ _ ah (@ae _ _ _ _ _ _ ah (@ae _ _ _ _ _ _ (@av _ _ _ _ _ _ _ _ BR ah ah) ag z_) z_) z_) z_) z_)) (af 2) Wl) ag z_))))) z_ aaa) (@aq _ _ _ (@aN _ _ _ _ (bM (sf T) T.WL hr (@ae _ _ _ _ _ _ (af 4) (@ae _ _ _ _ _ _ (af 3) ag z_) z_)))))))
  rT
theorem cA:aU wM ["_law_state","_law_ties","_law_kind"] (au ke):=Wp
theorem vo(T:Tx K mg ad fd):Wr T P w base 3 23 ["_law_state","_law_ties","_law_kind"] 3 i6:=
 cy (k:=2) T.W9.f cA kr (λcdv A outer s H E hr=>(ai (aJ (i:=3) cA.nd rfl v4 (aA (bp (aF T) T.Ws hr 0 0 (aX 0 (ae ah ag)))))
  (ai (aJ (i:=4) cA.nd rfl v4 (aA (bp (gY T) T.WG hr 0 0 (aX 0 (ae ah (ae (af 2) ag))))))
  (ai (bA (QT (d6 hr.units) (af 3) ah (aS _)) (aq (aJ (i:=4) cA.nd rfl v4 (d5 (ae ah (ae ah ag))))) aO)
  (ai (aJ (i:=5) cA.nd rfl v4 (bz (ae (af 4) ag)))
  (ai (uq VR (QT xN (nh (HW 5 rfl T.Wt) (aV bQ rfl T.Wt PySem.boot_len (ae (af 5) ag))) (af 1) (aS _)) (ai (aJ (i:=6) cA.nd rfl v4 (aA (bp (gY T) T.WG hr 0 0 (aX 0 (ae ah (ae (af 2) ag))))))
  (aq (fk (fw 5 (aY (bz (ae (af 4) (ae (af 6) ag))) (bO GK rfl T.Wz y_ (ae (jm (d6 hr.units) (af 3) ah (aS _)) ag)) Wl))))))
  (aq (aN (oP 5)))))))))
  sO
theorem kK:aU yw ["_law_state","_law_shape","_law_places","_law_k"] (au mn):=Wp
theorem xg(T:Tx K mg ad fd):Wr T P w base 2 24 ["_law_state","_law_shape","_law_places","_law_k"] 4 ku:=
 cy (k:=1) T.Xa.f kK mF (λcdv A outer s H E hr=>(ai (aJ (i:=4) kK.nd rfl v4 (aA (bp (aF T) T.Ws hr 0 0 (aX 0 (ae (af 2) ag)))))
  (ai (aJ (i:=5) kK.nd rfl v4 (av fu (av aM (av aM (af 4) ah) (bp (aF T) T.Ws hr 0 0 (aX 0 (ae (av qT (af 2) ah) ag)))) (af 2)))
  (ai (bA (QT (d6 hr.units) (af 1) ah (aS _)) (aq (aN (d5 (ae (av fu (af 3) (af 2)) (ae (av fu (av aM (af 3) (av vO (af 2) ah)) (af 2)) ag))))) aO)
  (ai (bA (QT (d6 hr.units) (af 1) ah (aS _)) (aq (aN (d5 (ae (aA (av jY (av fu (af 3) ah) (av qT (af 2) ah))) (ae (aA (av jY (av qT ah (av fu (af 3) ah)) (av qT (af 2) ah))) ag))))) aO)
  (ai (bA (QT (d6 hr.units) (af 1) ah (aS _)) (aq (aN (d5 (ae ah (ae (aA (av aM ah (av fu (af 5) (av qT (af 2) ah)))) ag))))) aO)
  (aq (aN (d5 (ae (af 4) (ae (af 5) ag)))))))))))
  vf
theorem bo:aU yx ["_law_script","_law_at","_law_most","_law_count"] (au mq):=Wp
theorem xh(T:Tx K mg ad fd):Wr T P w base 4 25 ["_law_script","_law_at","_law_most","_law_count"] 4 kx:=
 cy (k:=3) T.Xb.f bo mG (λcdv A outer s H E hr=>by exact(@ai _ _ _ _ _ (@aJ _ _ _ 4 _ _ _ bo.nd rfl v4 (bM (fj T) T.Wy hr (@ae _ _ _ _ _ _ (af 0) (@ae _ _ _ _ _ _ (af 1) ag z_) z_)) z_ aaa) (@ai _ _ _ _ _ (@aJ _ _ _ 5 _ _ _ bo.nd rfl v4 (@aA _ _ _ (@av _ _ _ _ _ _ _ _ aM ah (bp (aF T) T.Ws hr 0 4 (aX 4 (@ae _ _ _ _ _ _ (@av _ _ _ _ _ _ _ _ qT (af 2) ah) ag z_))))) z_ aaa) (@ai _ _ _ _ _ (@aJ _ _ _ 6 _ _ _ bo.nd rfl v4 (@aA _ _ _ (bp (aF T) T.Ws hr 0 4 (aX 4 (@ae _ _ _ _ _ _ (@aA _ _ _ (@av _ _ _ _ _ _ _ _ aM (af 3) ah)) ag z_)))) z_ aaa) (@ai _ _ _ _ _ (@aJ _ _ _ 7 _ _ _ bo.nd rfl v4 (@aA _ _ _ (@bz _ _ _ _ _ (@ae _ _ _ _ _ _ (@aA _ _ _ (bp (aF T) T.Ws hr 0 4 (aX 4 (@ae _ _ _ _ _ _ ah ag z_)))) (@ae _ _ _ _ _ _ (@aA _ _ _ (bp (aF T) T.Ws hr 0 4 (aX 4 (@ae _ _ _ _ _ _ ah ag z_)))) ag z_) z_))) z_ aaa) (@ai _ _ _ _ _ (@aJ _ _ _ 8 _ _ _ bo.nd rfl v4 (@aA _ _ _ (bp (aF T) T.Ws hr 0 4 (aX 4 (@ae _ _ _ _ _ _ ah ag z_)))) z_ aaa) (@ai _ _ _ _ _ (@aJ _ _ _ 9 _ _ _ bo.nd rfl v4 (@aA _ _ _ (bp (vn T) T.W8 hr 0 4 (aX 4 (@ae _ _ _ _ _ _ (af 6) ag z_)))) z_ aaa) (@ai _ _ _ _ _ (@aJ _ _ _ 10 _ _ _ bo.nd rfl v4 (@aA _ _ _ (bM (vo T) T.W9 hr (@ae _ _ _ _ _ _ (bM (fj T) T.Wy hr (@ae _ _ _ _ _ _ (af 0) (@ae _ _ _ _ _ _ (@aA _ _ _ (@av _ _ _ _ _ _ _ _ aM (af 1) ah)) ag z_) z_)) (@ae _ _ _ _ _ _ (af 5) (@ae _ _ _ _ _ _ (@aY _ _ _ _ _ _ (af 7) ah Wl) ag z_) z_) z_))) z_ aaa) (@ai _ _ _ _ _ (@aJ _ _ _ 4 _ _ _ bo.nd rfl v4 (bM (fj T) T.Wy hr (@ae _ _ _ _ _ _ (af 0) (@ae _ _ _ _ _ _ (@aA _ _ _ (@av _ _ _ _ _ _ _ _ aM (af 1) ah)) ag z_) z_)) z_ aaa) (@ai _ _ _ _ _ (@aJ _ _ _ 11 _ _ _ bo.nd rfl v4 (@bz _ _ _ _ _ ag) z_ aaa) (@ai _ _ _ _ _ (pW VR rfl (qC rfl T.Wx (af 6)) (ur (i:=12) bo.nd rfl v4) (@ai _ _ _ _ _ (BX (sW rfl (cj (i:=13) bo.nd rfl v4 (cj (i:=14) bo.nd rfl v4 oQ))) (bp (xg T) T.Xa hr 0 4 (aX 4 (@ae _ _ _ _ _ _ (af 8) (@ae _ _ _ _ _ _ (af 5) (@ae _ _ _ _ _ _ (af 12) ag z_) z_) z_)))) (@aq _ _ _ (fk (fw 11 (@d5 _ _ _ _ _ _ (@ae _ _ _ _ _ _ (@aY _ _ _ _ _ _ (af 9) (af 12) Wl) (@ae _ _ _ _ _ _ (af 13) (@ae _ _ _ _ _ _ (af 14) (@ae _ _ _ _ _ _ (@aA _ _ _ (bp (gY T) T.WG hr 0 4 (aX 4 (@ae _ _ _ _ _ _ ah (@ae _ _ _ _ _ _ (@aY _ _ _ _ _ _ (af 7) ah Wl) ag z_) z_)))) ag z_) z_) z_) z_))))))) (@aq _ _ _ (@aN _ _ _ _ (@d5 _ _ _ _ _ _ (@ae _ _ _ _ _ _ (af 10) (@ae _ _ _ _ _ _ (af 11) ag z_) z_)))))))))))))))
  vg
theorem vp:aU wN ["_law_one"] (au kf):=Wp
theorem oN(T:Tx K mg ad fd):Wr T P w base 1 26 ["_law_one"] 1 fh:=
 cy (k:=0) T.WM.f vp ky (λcdv A outer s H E hr=>(ai (bA (QT (d6 hr.units) (aY (af 0) ah Wl) ah (aS _)) (aq (aN (bO j5 rfl T.Wv y_ (ae (aY (af 0) ah Wl) ag)))) aO)
  (aq (aN (av aM (av aM (bO j5 rfl T.Wv y_ (ae (aY (af 0) ah Wl) ag)) aP) (bO j5 rfl T.Wv y_ (ae (aY (af 0) ah Wl) ag)))))))
  sP
theorem cP:aU rH ["_law_ring_here"] (au iS):=Wp
theorem xi(T:Tx K mg ad fd):Wr T P w base 2 27 ["_law_ring_here"] 1 kA:=
 cy (k:=1) T.Xd.f cP mH (λcdv A outer s H E hr=>(ai (aJ (i:=1) cP.nd rfl v4 (bz (ae (aA (av aM aP (eD (fC (sc:=(au iS)) (N:=rH) (Nt:=["_law_room"]) (Nf:=[]) (fi:=[]) rfl rfl rfl (jW (aY (af 0) ah Wl)) rfl y_ y_ y_ x_ rfl y_ x_ (λ_ _ _ _=>(cV x_ (show((["_law_room"]:List Str)++([]:List Str)).Nodup by decide +kernel) rfl (Or.inl rfl))) (λ_ _ _ _=>fB) (λ_ _ _ _=>(bM (oN T) T.WM hr (ae (af 0) ag))))))) ag)))
  (ai (pW VR rfl (jW (aY (af 0) ah Wl)) (sW rfl (cj (i:=2) cP.nd rfl v4 (cj (i:=3) cP.nd rfl v4 (cj (i:=4) cP.nd rfl v4 (cj (i:=5) cP.nd rfl v4 oQ))))) (aq (fk (fw 1 (eD (bz (ae aP (ae (af 2) (ae (aA (bO j5 rfl T.Wv y_ (ae (af 3) ag))) (ae (aA (bO j5 rfl T.Wv y_ (ae (af 4) ag))) (ae (aA (bM (oN T) T.WM hr (ae (af 5) ag))) ag)))))))))))
  (aq (aN (oP 1))))))
  vh
theorem gD:aU rJ ["_law_state","_law_rows_here"] (au iT):=Wp
theorem xj(T:Tx K mg ad fd):Wr T P w base 2 28 ["_law_state","_law_rows_here"] 2 kB:=
 cy (k:=1) T.Xe.f gD mI (λcdv A outer s H E hr=>by exact(@ai _ _ _ _ _ (@aJ _ _ _ 2 _ _ _ gD.nd rfl v4 aP z_ aaa) (@ai _ _ _ _ _ (xS gD.nd (j:=3) rfl v4 (sc:=(au iT)) (N:=rJ) (Nt:=[ "_law_letter" ]) (Nf:=[ "_law_state" ]) (fi:=[0]) rfl rfl rfl (rj (@aL _ _ _ _ _ _ _ _ _ (af 2) trivial (@av _ _ _ _ _ _ _ _ aM ah (bp (aF T) T.Ws hr 0 0 (aX 0 (@ae _ _ _ _ _ _ ah ag z_)))))) rfl y_ y_ y_ x_ rfl y_ x_ (λ_ _ _ _=>(cV x_ (show(([ "_law_letter" ]:List Str)++([ "_law_state" ]:List Str)).Nodup by decide +kernel) rfl (Or.inl rfl))) (λ_ _ _ _=>fB) (λ_ _ _ _=>(@av _ _ _ _ _ _ _ _ aM (@av _ _ _ _ _ _ _ _ aM (@av _ _ _ _ _ _ _ _ aM aP (af 0)) aP) (bO j5 rfl T.Wv y_ (@ae _ _ _ _ _ _ (@aA _ _ _ (bp (aF T) T.Ws hr 0 1 (aX 1 (@ae _ _ _ _ _ _ ah ag z_)))) ag z_))))) (@ai _ _ _ _ _ (@aJ _ _ _ 4 _ _ _ gD.nd rfl v4 (@aA _ _ _ (@bz _ _ _ _ _ (@ae _ _ _ _ _ _ (@aA _ _ _ (@bz _ _ _ _ _ (@ae _ _ _ _ _ _ aP ag z_))) (@ae _ _ _ _ _ _ (@aA _ _ _ (@bz _ _ _ _ _ (@ae _ _ _ _ _ _ (@aA _ _ _ (@av _ _ _ _ _ _ _ _ aM aP (@av _ _ _ _ _ _ _ _ oY aP ah))) ag z_))) (@ae _ _ _ _ _ _ (@aA _ _ _ (@av _ _ _ _ _ _ _ _ aM (@bz _ _ _ _ _ (@ae _ _ _ _ _ _ (@aA _ _ _ (@av _ _ _ _ _ _ _ _ aM aP (@av _ _ _ _ _ _ _ _ oY aP ah))) ag z_)) (af 3))) (@ae _ _ _ _ _ _ (@aA _ _ _ (@av _ _ _ _ _ _ _ _ aM (@aL _ _ _ _ _ _ _ _ _ (af 1) trivial ah) (af 3))) ag z_) z_) z_) z_))) z_ aaa) (@aq _ _ _ (@aN _ _ _ _ (@aY _ _ _ _ _ _ (@av _ _ _ _ _ _ _ _ aM (af 4) (@bz _ _ _ _ _ (@ae _ _ _ _ _ _ (@aA _ _ _ (@av _ _ _ _ _ _ _ _ aM (@av _ _ _ _ _ _ _ _ aM (@aL _ _ _ _ _ _ _ _ _ (af 1) trivial ah) (@aL _ _ _ _ _ _ _ _ _ (af 3) trivial ah)) (@bz _ _ _ _ _ (@ae _ _ _ _ _ _ aP ag z_)))) ag z_))) (bp (aF T) T.Ws hr 0 0 (aX 0 (@ae _ _ _ _ _ _ ah ag z_))) Wl)))))))
  vi
theorem bc:aU rK ["_law_state","_law_row"] (au fN):=Wp
theorem qx(T:Tx K mg ad fd):Wr T P w base 2 29 ["_law_state","_law_row"] 2 eK:=
 cy (k:=1) T.Xf.f bc fV (λcdv A outer s H E hr=>by exact(@ai _ _ _ _ _ (@aJ _ _ _ 2 _ _ _ bc.nd rfl v4 (@aA _ _ _ (fb (af 1))) z_ aaa) (@ai _ _ _ _ _ (@aJ _ _ _ 3 _ _ _ bc.nd rfl v4 (@aA _ _ _ (bp (aF T) T.Ws hr 0 0 (aX 0 (@ae _ _ _ _ _ _ (@aA _ _ _ (@av _ _ _ _ _ _ _ _ aM (aV bQ rfl T.Wt y_ (@ae _ _ _ _ _ _ (af 1) ag z_)) ah)) ag z_)))) z_ aaa) (@ai _ _ _ _ _ (@aJ _ _ _ 4 _ _ _ bc.nd rfl v4 (@aA _ _ _ (bp (aF T) T.Ws hr 0 0 (aX 0 (@ae _ _ _ _ _ _ (@aA _ _ _ (aV bQ rfl T.Wt y_ (@ae _ _ _ _ _ _ (af 2) ag z_))) ag z_)))) z_ aaa) (@ai _ _ _ _ _ (@aJ _ _ _ 5 _ _ _ bc.nd rfl v4 (@aA _ _ _ (@av _ _ _ _ _ _ _ _ aM (@av _ _ _ _ _ _ _ _ aM aP aP) aP)) z_ aaa) (@ai _ _ _ _ _ (@aJ _ _ _ 6 _ _ _ bc.nd rfl v4 (@aY _ _ _ _ _ _ (af 5) (bp (aF T) T.Ws hr 0 0 (aX 0 (@ae _ _ _ _ _ _ (@aA _ _ _ (aV bQ rfl T.Wt y_ (@ae _ _ _ _ _ _ (af 5) ag z_))) ag z_))) Wl) z_ aaa) (@ai _ _ _ _ _ (@aJ _ _ _ 7 _ _ _ bc.nd rfl v4 (@aA _ _ _ (@bz _ _ _ _ _ (@ae _ _ _ _ _ _ aP (@ae _ _ _ _ _ _ aP (@ae _ _ _ _ _ _ aP (@ae _ _ _ _ _ _ aP (@ae _ _ _ _ _ _ aP (@ae _ _ _ _ _ _ aP (@ae _ _ _ _ _ _ aP (@ae _ _ _ _ _ _ aP (@ae _ _ _ _ _ _ aP (@ae _ _ _ _ _ _ aP (@ae _ _ _ _ _ _ aP (@ae _ _ _ _ _ _ aP (@ae _ _ _ _ _ _ aP (@ae _ _ _ _ _ _ aP (@ae _ _ _ _ _ _ aP (@ae _ _ _ _ _ _ aP ag z_) z_) z_) z_) z_) z_) z_) z_) z_) z_) z_) z_) z_) z_) z_) z_))) z_ aaa) (@ai _ _ _ _ _ (@aJ _ _ _ 7 _ _ _ bc.nd rfl v4 (@aA _ _ _ (@av _ _ _ _ _ _ _ _ aM (af 7) (@bz _ _ _ _ _ (@ae _ _ _ _ _ _ (@aA _ _ _ (@av _ _ _ _ _ _ _ _ oY aP ah)) (@ae _ _ _ _ _ _ (@aA _ _ _ (@av _ _ _ _ _ _ _ _ aM aP (@av _ _ _ _ _ _ _ _ oY aP ah))) (@ae _ _ _ _ _ _ (@aA _ _ _ (@av _ _ _ _ _ _ _ _ oY aP ah)) (@ae _ _ _ _ _ _ (@aA _ _ _ (@av _ _ _ _ _ _ _ _ aM aP (@av _ _ _ _ _ _ _ _ oY aP ah))) ag z_) z_) z_) z_)))) z_ aaa) (@ai _ _ _ _ _ (@aJ _ _ _ 8 _ _ _ bc.nd rfl v4 (@bz _ _ _ _ _ (@ae _ _ _ _ _ _ (@aA _ _ _ (@av _ _ _ _ _ _ _ _ aM (@av _ _ _ _ _ _ _ _ aM (@aL _ _ _ _ _ _ _ _ _ (af 1) trivial (af 3)) (af 6)) (@aL _ _ _ _ _ _ _ _ _ (af 1) (af 3) trivial))) (@ae _ _ _ _ _ _ (@aA _ _ _ (@av _ _ _ _ _ _ _ _ aM (@aL _ _ _ _ _ _ _ _ _ (af 1) trivial (af 3)) (@aL _ _ _ _ _ _ _ _ _ (af 1) (@av _ _ _ _ _ _ _ _ aM (af 3) ah) trivial))) (@ae _ _ _ _ _ _ (@aA _ _ _ (@av _ _ _ _ _ _ _ _ aM (@av _ _ _ _ _ _ _ _ aM (@aL _ _ _ _ _ _ _ _ _ (af 1) trivial (af 3)) (af 6)) (@aL _ _ _ _ _ _ _ _ _ (af 1) (@av _ _ _ _ _ _ _ _ aM (af 3) ah) trivial))) (@ae _ _ _ _ _ _ (@aA _ _ _ (@av _ _ _ _ _ _ _ _ aM (af 1) aP)) ag z_) z_) z_) z_)) z_ aaa) (@ai _ _ _ _ _ (@aJ _ _ _ 8 _ _ _ bc.nd rfl v4 (@av _ _ _ _ _ _ _ _ aM (af 8) (@bz _ _ _ _ _ (@ae _ _ _ _ _ _ (@aA _ _ _ (FG (af 1))) (@ae _ _ _ _ _ _ (@aA _ _ _ (eD (@aL _ _ _ _ _ _ _ _ _ (af 2) trivial (GI ah)))) (@ae _ _ _ _ _ _ (@aA _ _ _ (@av _ _ _ _ _ _ _ _ aM (af 1) aP)) (@ae _ _ _ _ _ _ (@aA _ _ _ (@av _ _ _ _ _ _ _ _ aM aP (af 1))) (@ae _ _ _ _ _ _ (@aA _ _ _ (eD (af 2))) ag z_) z_) z_) z_) z_))) z_ aaa) (@ai _ _ _ _ _ (fk (fw 8 (eD (@av _ _ _ _ _ _ _ _ aM (@aL _ _ _ _ _ _ _ _ _ (af 2) trivial (af 4)) (@aL _ _ _ _ _ _ _ _ _ (af 2) (@av _ _ _ _ _ _ _ _ aM (af 4) ah) trivial))))) (@ai _ _ _ _ _ (fk (fw 8 (eD (@av _ _ _ _ _ _ _ _ aM (@av _ _ _ _ _ _ _ _ aM (@aL _ _ _ _ _ _ _ _ _ (af 2) trivial (af 4)) (@bz _ _ _ _ _ (@ae _ _ _ _ _ _ (@aY _ _ _ _ _ _ (af 7) (bp (aF T) T.Ws hr 0 0 (aX 0 (@ae _ _ _ _ _ _ ah ag z_))) Wl) ag z_))) (@aL _ _ _ _ _ _ _ _ _ (af 2) (@av _ _ _ _ _ _ _ _ aM (af 4) ah) trivial))))) (@ai _ _ _ _ _ (fk (fw 8 (eD (@av _ _ _ _ _ _ _ _ aM (@av _ _ _ _ _ _ _ _ aM (@aL _ _ _ _ _ _ _ _ _ (af 2) trivial (af 4)) (@aL _ _ _ _ _ _ _ _ _ (af 2) (af 4) (@av _ _ _ _ _ _ _ _ aM (af 4) ah))) (@aL _ _ _ _ _ _ _ _ _ (af 2) (af 4) trivial))))) (@aq _ _ _ (@aN _ _ _ _ (@nh _ _ _ _ _ (pX 8 (bp (aF T) T.Ws hr 0 0 (aX 0 (@ae _ _ _ _ _ _ ah ag z_))) Wl) (@aY _ _ _ _ _ _ (af 8) (bp (aF T) T.Ws hr 0 0 (aX 0 (@ae _ _ _ _ _ _ ah ag z_))) Wl)))))))))))))))))
  pH
theorem gE:aU yy ["_law_state","_law_rows_here"] (au mr):=Wp
theorem qh(T:Tx K mg ad fd):Wr T P w base 3 30 ["_law_state","_law_rows_here"] 2 gB:=
 cy (k:=2) T.WN.f gE mJ (λcdv A outer s H E hr=>by exact(@ai _ _ _ _ _ (@aJ _ _ _ 2 _ _ _ gE.nd rfl v4 (@aA _ _ _ (bp (aF T) T.Ws hr 0 0 (aX 0 (@ae _ _ _ _ _ _ (@aA _ _ _ (aV bQ rfl T.Wt y_ (@ae _ _ _ _ _ _ (af 1) ag z_))) ag z_)))) z_ aaa) (@ai _ _ _ _ _ (@aJ _ _ _ 3 _ _ _ gE.nd rfl v4 (@aA _ _ _ (bp (aF T) T.Ws hr 0 0 (aX 0 (@ae _ _ _ _ _ _ ah ag z_)))) z_ aaa) (@ai _ _ _ _ _ (@aJ _ _ _ 4 _ _ _ gE.nd rfl v4 (@aA _ _ _ (bp (aF T) T.Ws hr 0 0 (aX 0 (@ae _ _ _ _ _ _ (@aA _ _ _ (aV bQ rfl T.Wt y_ (@ae _ _ _ _ _ _ (af 1) ag z_))) ag z_)))) z_ aaa) (@ai _ _ _ _ _ (@bA _ _ _ _ _ _ _ _ (QT xN (af 3) ah (aS _)) (@aq _ _ _ (@aN _ _ _ _ (@av _ _ _ _ _ _ _ _ aM (@av _ _ _ _ _ _ _ _ aM (@aL _ _ _ _ _ _ _ _ _ (af 1) trivial (af 2)) (@bz _ _ _ _ _ (@ae _ _ _ _ _ _ (@aA _ _ _ (bp (qx T) T.Xf hr 0 0 (aX 0 (@ae _ _ _ _ _ _ (@aY _ _ _ _ _ _ (af 1) (af 2) Wl) ag z_)))) ag z_))) (@aL _ _ _ _ _ _ _ _ _ (af 1) (@av _ _ _ _ _ _ _ _ aM (af 2) ah) trivial)))) aO) (@ai _ _ _ _ _ (@bA _ _ _ _ _ _ _ _ (QT (d6 hr.units) (af 3) ah (aS _)) (@aq _ _ _ (@aN _ _ _ _ (@av _ _ _ _ _ _ _ _ aM (@av _ _ _ _ _ _ _ _ aM (@aL _ _ _ _ _ _ _ _ _ (af 1) trivial (af 2)) (@aL _ _ _ _ _ _ _ _ _ (@bz _ _ _ _ _ (@ae _ _ _ _ _ _ aP (@ae _ _ _ _ _ _ aP ag z_) z_)) trivial (@av _ _ _ _ _ _ _ _ aM ah (bp (aF T) T.Ws hr 0 0 (aX 0 (@ae _ _ _ _ _ _ ah ag z_)))))) (@aL _ _ _ _ _ _ _ _ _ (af 1) (af 2) trivial)))) aO) (@ai _ _ _ _ _ (@bA _ _ _ _ _ _ _ _ (QT (d6 hr.units) (af 3) ah (aS _)) (@aq _ _ _ (@aN _ _ _ _ (@av _ _ _ _ _ _ _ _ aM (@av _ _ _ _ _ _ _ _ aM (@aL _ _ _ _ _ _ _ _ _ (af 1) trivial (af 2)) (@bz _ _ _ _ _ (@ae _ _ _ _ _ _ (@aY _ _ _ _ _ _ (af 1) (af 4) Wl) ag z_))) (@aL _ _ _ _ _ _ _ _ _ (af 1) (af 2) trivial)))) aO) (@ai _ _ _ _ _ (@bA _ _ _ _ _ _ _ _ (QT (d6 hr.units) (af 3) ah (aS _)) (@aq _ _ _ (@aN _ _ _ _ (@av _ _ _ _ _ _ _ _ aM (@aL _ _ _ _ _ _ _ _ _ (af 1) trivial (af 2)) (@aL _ _ _ _ _ _ _ _ _ (af 1) (@av _ _ _ _ _ _ _ _ aM (af 2) ah) trivial)))) aO) (@ai _ _ _ _ _ (@bA _ _ _ _ _ _ _ _ (QT (d6 hr.units) (af 3) ah (aS _)) (@aq _ _ _ (@aN _ _ _ _ (@av _ _ _ _ _ _ _ _ aM (@av _ _ _ _ _ _ _ _ aM (@av _ _ _ _ _ _ _ _ aM (@aL _ _ _ _ _ _ _ _ _ (af 1) trivial (af 2)) (@bz _ _ _ _ _ (@ae _ _ _ _ _ _ aP ag z_))) (@aL _ _ _ _ _ _ _ _ _ (af 1) (af 2) trivial)) (GO (@bz _ _ _ _ _ (@ae _ _ _ _ _ _ aP ag z_)) (bp (aF T) T.Ws hr 0 0 (aX 0 (@ae _ _ _ _ _ _ ah ag z_))))))) aO) (@ai _ _ _ _ _ (@bA _ _ _ _ _ _ _ _ (QT (d6 hr.units) (af 3) ah (aS _)) (@aq _ _ _ (@aN _ _ _ _ (bp (xj T) T.Xe hr 0 0 (aX 0 (@ae _ _ _ _ _ _ (af 1) ag z_))))) aO) (@aq _ _ _ (@aN _ _ _ _ (@av _ _ _ _ _ _ _ _ aM (@av _ _ _ _ _ _ _ _ aM (@aL _ _ _ _ _ _ _ _ _ (af 1) trivial ah) (Jr (af 1))) (GO (@bz _ _ _ _ _ (@ae _ _ _ _ _ _ (@aY _ _ _ _ _ _ (af 1) ah Wl) ag z_)) (bp (aF T) T.Ws hr 0 0 (aX 0 (@ae _ _ _ _ _ _ ah ag z_)))))))))))))))))
  vj
theorem jh:aU p6 ["_law_word"] (au gy):=Wp
theorem ji(T:Tx K mg ad fd):Wr T P w base 1 31 ["_law_word"] 1 dj:=
 cy (k:=0) T.WH.f jh kC (λcdv A outer s H E hr=>(ai (aJ (i:=1) jh.nd rfl v4 (af 0))
  (ai (bA (QT (d6 hr.units) (aL (af 0) trivial ah) aP (aS _)) (aq (aJ (i:=1) jh.nd rfl v4 (aA (aL (af 0) ah trivial)))) aO)
  (ai (bA (QR.pb (b9 (QT (d6 hr.units) (af 1) aP (aS _)) (b9 (QT AB (aV bQ rfl T.Wt y_ (ae (af 1) ag)) ah (aS _)) (cn (QT (lg hr.units) (fC (sc:=(au gy)) (N:=p6) (Nt:=["_law_sign"]) (Nf:=[]) (fi:=[]) rfl rfl rfl (rj (af 1)) rfl y_ y_ y_ x_ rfl y_ x_ (λ_ _ _ _=>(cV x_ (show((["_law_sign"]:List Str)++([]:List Str)).Nodup by decide +kernel) rfl (Or.inl rfl))) (λ_ _ _ _=>(xR (bN (vX aP (l9.cons pY (af 0) (l9.one pY aP)))))) (λ_ _ _ _=>(af 0))) (bz ag) (aS _)))))) (aq (aN bH)) aO)
  (ai (bA (QR.pb (qP (QT (d6 hr.units) (aY (af 1) ah Wl) aP (aS _)) (m5 (QT (lg hr.units) (af 0) aP (aS _))))) (aq (aN bH)) aO)
  (aq (aN (bO CF rfl T.Wz y_ (ae (af 0) ag)))))))))
  sQ
theorem eU:aU kg ["_law_word"] (au cZ):=Wp
theorem jL(T:Tx K mg ad fd):Wr T P w base 2 32 ["_law_word"] 1 cK:=
 cy (k:=1) T.WO.f eU fX (λcdv A outer s H E hr=>(ai (xS eU.nd (j:=1) rfl v4 (sc:=(au cZ)) (N:=kg) (Nt:=["_law_part"]) (Nf:=[]) (fi:=[]) rfl rfl rfl (jW (fb (af 0))) rfl y_ y_ y_ x_ rfl y_ x_ (λ_ _ _ _=>(cV x_ (show((["_law_part"]:List Str)++([]:List Str)).Nodup by decide +kernel) rfl (Or.inl rfl))) (λ_ _ _ _=>fB) (λ_ _ _ _=>(bM (ji T) T.WH hr (ae (af 0) ag))))
  (ai (bA (QR.pb (b9 (QT Ln bH (af 1) rfl) (b9 (QT AB (aV bQ rfl T.Wt y_ (ae (af 1) ag)) ah (aS _)) (cn (QR.pb (qP (QT (d6 hr.units) (aV bQ rfl T.Wt y_ (ae (af 1) ag)) ah (aS _)) (m5 (QT xN (aY (af 1) ah Wl) ah (aS _))))))))) (aq (aN bH)) aO)
  (ai (aJ (i:=2) eU.nd rfl v4 (d5 (ae (aY (af 1) ah Wl) (ae (aY (av aM (af 1) (bz (ae ah ag))) ah Wl) ag))))
  (ai (bA (QT (lg hr.units) (bM (sf T) T.WL hr (ae (aY (af 2) ah Wl) (ae (aY (af 2) ah Wl) ag))) (af 2) (aS _)) (aq (aN bH)) aO)
  (aq (aN (oP 2))))))))
  pJ
theorem eV:aU fO ["_law_row"] (au cu):=Wp
theorem qy(T:Tx K mg ad fd):Wr T P w base 3 33 ["_law_row"] 1 eM:=
 cy (k:=2) T.Xg.f eV fY (λcdv A outer s H E hr=>(ai (aJ (i:=1) eV.nd rfl v4 (aA (fb (af 0))))
  (ai (xS eV.nd (j:=2) rfl v4 (sc:=(au cu)) (N:=fO) (Nt:=["_law_word"]) (Nf:=[]) (fi:=[]) rfl rfl rfl (jW (aL (af 1) ah trivial)) rfl y_ y_ y_ x_ rfl y_ x_ (λ_ _ _ _=>(cV x_ (show((["_law_word"]:List Str)++([]:List Str)).Nodup by decide +kernel) rfl (Or.inl rfl))) (λ_ _ _ _=>fB) (λ_ _ _ _=>(bM (jL T) T.WO hr (ae (af 0) ag))))
  (ai (bA (QR.pb (b9 (QT (lg hr.units) (aY (af 1) ah Wl) aP (aS _)) (b9 (bN (kU oV oV ah (aV bQ rfl T.Wt y_ (ae (af 2) ag)) ah)) (cn (QT (LA hr.units) bH (af 2) rfl))))) (aq (aN bH)) aO)
  (ai (bA (QT (lg hr.units) (fC (sc:=(au cu)) (N:=fO) (Nt:=["_law_room"]) (Nf:=[]) (fi:=[]) rfl rfl rfl (jW (af 2)) rfl y_ y_ y_ x_ rfl y_ x_ (λ_ _ _ _=>(cV x_ (show((["_law_room"]:List Str)++([]:List Str)).Nodup by decide +kernel) rfl (Or.inl rfl))) (λ_ _ _ _=>(xR (QT xN (aY (af 0) ah Wl) ah (aS _)))) (λ_ _ _ _=>(af 0))) (bz ag) (aS _)) (aq (aN bH)) aO)
  (aq (aN (oP 2))))))))
  pK
theorem cx:aU lJ ["_law_row","_law_places","_law_taken"] (au dX):=Wp
theorem si(T:Tx K mg ad fd):Wr T P w base 3 34 ["_law_row","_law_places","_law_taken"] 3 fZ:=
 cy (k:=2) T.Xh.f cx gR (λcdv A outer s H E hr=>(ai (aJ (i:=3) cx.nd rfl v4 (aA (fb (af 0))))
  (ai (bA (QR.pb (b9 (QT (lg hr.units) (aV bQ rfl T.Wt y_ (ae (af 3) ag)) ah (aS _)) (b9 (QT (lg hr.units) (aY (af 3) ah Wl) aP (aS _)) (b9 (QT Ln (aY (af 3) ah Wl) (af 2) rfl) (cn (bN (kU oV oV ah (aV bQ rfl T.Wt y_ (ae (aY (af 3) ah Wl) ag)) ah))))))) (aq (aN bH)) aO)
  (ai (bA (QT (lg hr.units) (fC (sc:=(au dX)) (N:=lJ) (Nt:=["_law_sign"]) (Nf:=[]) (fi:=[]) rfl rfl rfl (rj (aY (af 3) ah Wl)) rfl y_ y_ y_ x_ rfl y_ x_ (λ_ _ _ _=>(cV x_ (show((["_law_sign"]:List Str)++([]:List Str)).Nodup by decide +kernel) rfl (Or.inl rfl))) (λ_ _ _ _=>(xR (bN (vX aP (l9.cons pY (af 0) (l9.one pY aP)))))) (λ_ _ _ _=>(af 0))) (bz ag) (aS _)) (aq (aN bH)) aO)
  (ai (aJ (i:=4) cx.nd rfl v4 (aA (bM (ji T) T.WH hr (ae (aY (af 3) ah Wl) ag))))
  (ai (aJ (i:=5) cx.nd rfl v4 (aA (bM (ji T) T.WH hr (ae (aY (af 3) ah Wl) ag))))
  (ai (aJ (i:=6) cx.nd rfl v4 (aA (bM (jL T) T.WO hr (ae (aY (af 3) ah Wl) ag))))
  (ai (bA (QR.pb (b9 (QT oT (af 4) bH (aS _)) (b9 (QT oT (af 5) bH (aS _)) (b9 (QT oT (af 6) bH (aS _)) (b9 (QT (d6 hr.units) (af 4) (af 5) (aS _)) (cn (QT xN (aY (af 6) ah Wl) ah (aS _)))))))) (aq (aN bH)) aO)
  (ai (bA (QR.pb (b9 (bN (kU oV Ih ah (af 4) (af 1))) (cn (bN (kU oV Ih ah (af 5) (af 1)))))) (aq (aN bH)) aO)
  (aq (aN (d5 (ae (aY (af 3) ah Wl) (ae (af 4) (ae (af 5) (ae (af 6) ag))))))))))))))))
  qu
theorem cQ:aU rL ["_law_text"] (au iU):=Wp
theorem xk(T:Tx K mg ad fd):Wr T P w base 4 35 ["_law_text"] 1 kE:=
 cy (k:=3) T.Xi.f cQ mK (λcdv A outer s H E hr=>by exact(@ai _ _ _ _ _ (@aJ _ _ _ 1 _ _ _ cQ.nd rfl v4 (@aA _ _ _ (fb (af 0))) z_ aaa) (@ai _ _ _ _ _ (@aJ _ _ _ 2 _ _ _ cQ.nd rfl v4 (@aA _ _ _ (bM (qy T) T.Xg hr (@ae _ _ _ _ _ _ (@aY _ _ _ _ _ _ (af 1) ah Wl) ag z_))) z_ aaa) (@ai _ _ _ _ _ (@bA _ _ _ _ _ _ _ _ (QT oT (af 2) bH (aS _)) (@aq _ _ _ (@aN _ _ _ _ (@d5 _ _ _ _ _ _ (@ae _ _ _ _ _ _ bH (@ae _ _ _ _ _ _ ah ag z_) z_)))) aO) (@ai _ _ _ _ _ (@aJ _ _ _ 3 _ _ _ cQ.nd rfl v4 (@bz _ _ _ _ _ ag) z_ aaa) (@ai _ _ _ _ _ (pW VR rfl (yV rfl T.Wx ah (aV bQ rfl T.Wt y_ (@ae _ _ _ _ _ _ (af 1) ag z_))) (ur (i:=4) cQ.nd rfl v4) (@ai _ _ _ _ _ (@aJ _ _ _ 5 _ _ _ cQ.nd rfl v4 (@aA _ _ _ (bM (si T) T.Xh hr (@ae _ _ _ _ _ _ (@aY _ _ _ _ _ _ (af 1) (af 4) Wl) (@ae _ _ _ _ _ _ (@aA _ _ _ (aV bQ rfl T.Wt y_ (@ae _ _ _ _ _ _ (af 2) ag z_))) (@ae _ _ _ _ _ _ (@aA _ _ _ (xW 3 (fC (sc:=(au iU)) (N:=rL) (Nt:=[ "_law_one" ]) (Nf:=[]) (fi:=[]) rfl rfl rfl (jW (af 3)) rfl y_ y_ y_ x_ rfl y_ x_ (λ_ _ _ _=>(cV x_ (show(([ "_law_one" ]:List Str)++([]:List Str)).Nodup by decide +kernel) rfl (Or.inl rfl))) (λ_ _ _ _=>fB) (λ_ _ _ _=>(@aY _ _ _ _ _ _ (af 0) ah Wl))))) ag z_) z_) z_))) z_ aaa) (@ai _ _ _ _ _ (@bA _ _ _ _ _ _ _ _ (QR.pb (b9 (QT oT (af 5) bH (aS _)) (cn (QT AB (af 4) ah (aS _))))) (@aq _ _ _ (@aN _ _ _ _ (@d5 _ _ _ _ _ _ (@ae _ _ _ _ _ _ bH (@ae _ _ _ _ _ _ (af 4) ag z_) z_)))) aO) (@aq _ _ _ (fk (fw 3 (af 5))))))) (@aq _ _ _ (@aN _ _ _ _ (@d5 _ _ _ _ _ _ (@ae _ _ _ _ _ _ (@d5 _ _ _ _ _ _ (@ae _ _ _ _ _ _ (af 2) (@ae _ _ _ _ _ _ (af 3) ag z_) z_)) (@ae _ _ _ _ _ _ bH ag z_) z_))))))))))
  vk
theorem dA:aU sL ["_law_text","_law_due"] (au gJ):=Wp
theorem kM(T:Tx K mg ad fd):Wr T P w base 10 36 ["_law_text","_law_due"] 2 dm:=
 cy (k:=9) T.WQ.f dA gS (λcdv A outer s H E hr=>(ai (aJ (i:=2) dA.nd rfl v4 bH)
  (ai (Fp (i:=3) rfl rfl T.Xq rfl dA.nd rfl rfl v4 (λ_ _ xt=>(zp (zo (GT (kJ T) T.WE hr (ae (af 0) ag))))) (λ_=>(aq (aJ (i:=2) dA.nd rfl v4 (af 3)))))
  (ai (bA (QR.pb (b9 (bN (bV (LM T.Xu rfl T.Wu rfl (af 2)))) (cn (bN (bV (jq sy rfl T.Wu rfl T.Xl y_ (af 2))))))) (aq (aN m4)) aO)
  (ai (bA (bV (IR (qE T.Xr rfl (qE T.Xk rfl (qE T.Xs rfl (qE T.Xv rfl IQ)))) rfl T.Wu (af 2))) (aq (aN m4)) aO)
  (aq (aN (lB (jm (d6 hr.units) (GR (af 2)) (af 1) (aS _)) (qQ (GH (jq y4 rfl T.Wu rfl T.Xn y_ (GR (af 2)))))))))))))
  qv
theorem jj:aU wO ["_law_text"] (au ki):=Wp
theorem jk(T:Tx K mg ad fd):Wr T P w base 11 37 ["_law_text"] 1 du:=
 cy (k:=10) T.WI.f jj kF (λcdv A outer s H E hr=>(ai (BX (sW rfl (cj (i:=1) jj.nd rfl v4 (cj (i:=2) jj.nd rfl v4 oQ))) (bM (xk T) T.Xi hr (ae (af 0) ag)))
  (ai (bA (QT oT (af 1) bH (aS _)) (aq (aN (bM (kM T) T.WQ hr (ae (af 0) (ae (af 2) ag))))) aO)
  (aq (aN (jm (d6 hr.units) (zv (kJ T) T.WE hr GS (ae (af 0) ag)) (af 1) (aS _)))))))
  sR
theorem sj:aU Of ["_law_script"] (au Gq):=Wp
theorem MV(T:Tx K mg ad fd):Wr T P w base 12 38 ["_law_script"] 1 fs_law:=
 cy (k:=11) T.Xj.f sj Kh (λcdv A outer s H E hr=>by exact(@ai _ _ _ _ _ (@aJ _ _ _ 1 _ _ _ sj.nd rfl v4 (@aA _ _ _ (bM (xh T) T.Xb hr (@ae _ _ _ _ _ _ (af 0) (@ae _ _ _ _ _ _ ah (@ae _ _ _ _ _ _ ah (@ae _ _ _ _ _ _ ah ag z_) z_) z_) z_))) z_ aaa) (@ai _ _ _ _ _ (@aJ _ _ _ 2 _ _ _ sj.nd rfl v4 (@aA _ _ _ (bM (xi T) T.Xd hr (@ae _ _ _ _ _ _ (af 1) ag z_))) z_ aaa) (@ai _ _ _ _ _ (pW VR rfl (yV rfl T.Wx ah (aV (Lh rfl) rfl T.Xw y_ (@ae _ _ _ _ _ _ ah (@ae _ _ _ _ _ _ (@aA _ _ _ (aV (Li rfl) rfl T.Xx y_ (@ae _ _ _ _ _ _ (@aA _ _ _ (aV bQ rfl T.Wt y_ (@ae _ _ _ _ _ _ (af 0) ag z_))) (@ae _ _ _ _ _ _ ah ag z_) z_))) ag z_) z_))) (ur (i:=3) sj.nd rfl v4) (@ai _ _ _ _ _ (@aJ _ _ _ 4 _ _ _ sj.nd rfl v4 (bM (fj T) T.Wy hr (@ae _ _ _ _ _ _ (af 0) (@ae _ _ _ _ _ _ (af 3) ag z_) z_)) z_ aaa) (@ai _ _ _ _ _ (@aJ _ _ _ 5 _ _ _ sj.nd rfl v4 (@aA _ _ _ (bp (qh T) T.WN hr 0 4 (aX 4 (@ae _ _ _ _ _ _ (af 2) ag z_)))) z_ aaa) (@ai _ _ _ _ _ (@bA _ _ _ _ _ _ _ _ (bN (bV (bM (jk T) T.WI hr (@ae _ _ _ _ _ _ (@aA _ _ _ (eD (af 5))) ag z_)))) (@aq _ _ _ (@aN _ _ _ _ m4)) aO) (@ai _ _ _ _ _ (@aJ _ _ _ 6 _ _ _ sj.nd rfl v4 (@aY _ _ _ _ _ _ (@bz _ _ _ _ _ (@ae _ _ _ _ _ _ bH (@ae _ _ _ _ _ _ ah (@ae _ _ _ _ _ _ m4 (@ae _ _ _ _ _ _ (af 1) (@ae _ _ _ _ _ _ (af 2) (@ae _ _ _ _ _ _ (@aA _ _ _ (bO yY rfl T.WA y_ (@ae _ _ _ _ _ _ (af 2) ag z_))) (@ae _ _ _ _ _ _ Ff (@ae _ _ _ _ _ _ (@aA _ _ _ (@bz _ _ _ _ _ (@ae _ _ _ _ _ _ aP ag z_))) (@ae _ _ _ _ _ _ ah (@ae _ _ _ _ _ _ (@d5 _ _ _ _ _ _ ag) ag z_) z_) z_) z_) z_) z_) z_) z_) z_) z_)) (bp (aF T) T.Ws hr 0 4 (aX 4 (@ae _ _ _ _ _ _ ah ag z_))) Wl) z_ aaa) (@ai _ _ _ _ _ (@bA _ _ _ _ _ _ _ _ (bN (bV (bM (kM T) T.WQ hr (@ae _ _ _ _ _ _ (af 6) (@ae _ _ _ _ _ _ ah ag z_) z_)))) (@aq _ _ _ (@aN _ _ _ _ m4)) aO) (@aq _ _ _ (@bA _ _ _ _ _ _ _ _ (QR.pb (qP (QT (lg hr.units) (af 5) (@bz _ _ _ _ _ ag) (aS _)) (m5 (QT (d6 hr.units) (bp (aF T) T.Ws hr 0 4 (aX 4 (@ae _ _ _ _ _ _ ah ag z_))) ah (aS _))))) (@aq _ _ _ (@bA _ _ _ _ _ _ _ _ (bN (bV (bM (jk T) T.WI hr (@ae _ _ _ _ _ _ (@aA _ _ _ (eD (bp (qh T) T.WN hr 0 4 (aX 4 (@ae _ _ _ _ _ _ (af 5) ag z_))))) ag z_)))) (@aq _ _ _ (@aN _ _ _ _ m4)) aO)) aO)))))))) (@ai _ _ _ _ _ (@bA _ _ _ _ _ _ _ _ (bN (bV (bM (jk T) T.WI hr (@ae _ _ _ _ _ _ (@aA _ _ _ (@av _ _ _ _ _ _ _ _ aM (eD (af 2)) aP)) ag z_)))) (@aq _ _ _ (@aN _ _ _ _ m4)) aO) (@aq _ _ _ (@aN _ _ _ _ (jm (d6 hr.units) (zv (kJ T) T.WE hr GS (@ae _ _ _ _ _ _ (@aA _ _ _ (eD (af 2))) ag z_)) (af 1) (aS _)))))))))
  Kj
end
noncomputable def TV(i:Nat):Addr:=([122,129,136,143,150,155,176,197,190,183,162,169,204,209,214,226,233,221,240,247,266,254,261,273,280,287,294,306,350,345,357,311,316,321,326,331,301,338,364]:List Addr).getD i 0
noncomputable abbrev TX:Value:=(.str "ringloads.divisors" 324)
noncomputable abbrev TY:Value:=XX
noncomputable abbrev TZ:Value:=XY
noncomputable abbrev Ua:Value:=XU
noncomputable abbrev Ub:Value:=XS
noncomputable def Uc(i:Nat):FuncData:=[Rk "greatest_shared" dF TX 121,Rk "is_whole" pj TY 128,Rk "is_number_below" dG TY 135,Rk "are_two_wholes" eG TY 142,Rk "is_ratio" pw TY 149,Rk "is_name" nF TY 154,Rk "look_at_rooms" fM TZ 175,Rk "is_ask" uZ TZ 196,Rk "look_at_each_ask" cY TZ 189,Rk "look_at_asks" dW TZ 182,Rk "look_at_ring" gI TZ 161,Rk "is_ring" rG TZ 168,Rk "shown_ratio" iQ Ua 203,Rk "whole_in" kY Ua 208,Rk "ratio_in" kZ Ua 213,Rk "rooms_in" k6 Ua 225,Rk "ask_in" u5 Ua 232,Rk "read_ring" mj Ua 220,Rk "_law_begun" kb Ub 239,Rk "_law_take" ml Ub 246,Rk "_law_names" ee Ub 265,Rk "_law_low" pA Ub 253,Rk "_law_amount" iR Ub 260,Rk "_law_rooms" ke Ub 272,Rk "_law_ends" mn Ub 279,Rk "_law_ring" mq Ub 286,Rk "_law_ratio" kf Ub 293,Rk "_law_rows" iS Ub 305,Rk "_law_many" iT Ub 349,Rk "_law_bent_row" fN Ub 344,Rk "_law_bent" mr Ub 356,Rk "_law_whole" gy Ub 310,Rk "_law_fraction" cZ Ub 315,Rk "_law_room_row" cu Ub 320,Rk "_law_ask_row" dX Ub 325,Rk "_law_read" iU Ub 330,Rk "_law_refused" gJ Ub 300,Rk "_law_right" ki Ub 337,Rk "law" Gq Ub 363].getD i (Rk "law" Gq TX 0)
theorem tx{Pm:Params}{h:Heap}{mg:Str->Option Value}(X:(Hd.Kf Pm).In h)(G:h.Ns mainGlobals mg):Tx (Hd.Kf Pm) mg TV Uc where
 WV:=FX.mk' X G (a:=122) (c:=121) (md:=TX) z_ z_ z_ z_ Wn
 WB:=FX.mk' X G (a:=129) (c:=128) (md:=TY) z_ z_ z_ z_ Wm
 WW:=FX.mk' X G (a:=136) (c:=135) (md:=TY) z_ z_ z_ z_ Wn
 WX:=FX.mk' X G (a:=143) (c:=142) (md:=TY) z_ z_ z_ z_ Wm
 WC:=FX.mk' X G (a:=150) (c:=149) (md:=TY) z_ z_ z_ z_ Wm
 WY:=FX.mk' X G (a:=155) (c:=154) (md:=TY) z_ z_ z_ z_ Wm
 WZ:=FX.mk' X G (a:=176) (c:=175) (md:=TZ) z_ z_ z_ z_ Wm
 W0:=FX.mk' X G (a:=197) (c:=196) (md:=TZ) z_ z_ z_ z_ Wn
 W1:=FX.mk' X G (a:=190) (c:=189) (md:=TZ) z_ z_ z_ z_ Wn
 W2:=FX.mk' X G (a:=183) (c:=182) (md:=TZ) z_ z_ z_ z_ Wn
 W3:=LV.mk' (c0:=182) z_ rfl z_
 W4:=FX.mk' X G (a:=162) (c:=161) (md:=TZ) z_ z_ z_ z_ Wm
 WJ:=FX.mk' X G (a:=169) (c:=168) (md:=TZ) z_ z_ z_ z_ Wm
 W5:=FX.mk' X G (a:=204) (c:=203) (md:=Ua) z_ z_ z_ z_ Wm
 WD:=FX.mk' X G (a:=209) (c:=208) (md:=Ua) z_ z_ z_ z_ Wm
 WK:=FX.mk' X G (a:=214) (c:=213) (md:=Ua) z_ z_ z_ z_ Wm
 W6:=FX.mk' X G (a:=226) (c:=225) (md:=Ua) z_ z_ z_ z_ Wm
 W7:=FX.mk' X G (a:=233) (c:=232) (md:=Ua) z_ z_ z_ z_ Wm
 WE:=FX.mk' X G (a:=221) (c:=220) (md:=Ua) z_ z_ z_ z_ Wm
 Wy:=FX.mk' X G (a:=240) (c:=239) (md:=Ub) z_ z_ z_ z_ Wn
 Ws:=FX.mk' X G (a:=247) (c:=246) (md:=Ub) z_ z_ z_ z_ Wn
 W8:=FX.mk' X G (a:=266) (c:=265) (md:=Ub) z_ z_ z_ z_ Wn
 WL:=FX.mk' X G (a:=254) (c:=253) (md:=Ub) z_ z_ z_ z_ Wn
 WG:=FX.mk' X G (a:=261) (c:=260) (md:=Ub) z_ z_ z_ z_ Wo
 W9:=FX.mk' X G (a:=273) (c:=272) (md:=Ub) z_ z_ z_ z_ Wo
 Xa:=FX.mk' X G (a:=280) (c:=279) (md:=Ub) z_ z_ z_ z_ λ_ _ _ _ _ _ u l=>match u,l with | [_,_,_,_],_=>rfl
 Xb:=FX.mk' X G (a:=287) (c:=286) (md:=Ub) z_ z_ z_ z_ λ_ _ _ _ _ _ u l=>match u,l with | [_,_,_,_],_=>rfl
 WM:=FX.mk' X G (a:=294) (c:=293) (md:=Ub) z_ z_ z_ z_ Wm
 Xd:=FX.mk' X G (a:=306) (c:=305) (md:=Ub) z_ z_ z_ z_ Wm
 Xe:=FX.mk' X G (a:=350) (c:=349) (md:=Ub) z_ z_ z_ z_ Wn
 Xf:=FX.mk' X G (a:=345) (c:=344) (md:=Ub) z_ z_ z_ z_ Wn
 WN:=FX.mk' X G (a:=357) (c:=356) (md:=Ub) z_ z_ z_ z_ Wn
 WH:=FX.mk' X G (a:=311) (c:=310) (md:=Ub) z_ z_ z_ z_ Wm
 WO:=FX.mk' X G (a:=316) (c:=315) (md:=Ub) z_ z_ z_ z_ Wm
 Xg:=FX.mk' X G (a:=321) (c:=320) (md:=Ub) z_ z_ z_ z_ Wm
 Xh:=FX.mk' X G (a:=326) (c:=325) (md:=Ub) z_ z_ z_ z_ Wo
 Xi:=FX.mk' X G (a:=331) (c:=330) (md:=Ub) z_ z_ z_ z_ Wm
 WQ:=FX.mk' X G (a:=301) (c:=300) (md:=Ub) z_ z_ z_ z_ Wn
 WI:=FX.mk' X G (a:=338) (c:=337) (md:=Ub) z_ z_ z_ z_ Wm
 Xj:=FX.mk' X G (a:=364) (c:=363) (md:=Ub) z_ z_ z_ z_ Wm
 li:=Cn.mk' X G z_ z_ z_ z_ z_ z_ z_ Wn
 Xo:=pS (oc:=.type "function") (od:=none) (osl:=#[]) z_ z_ z_
 Xp:=pS (oc:=.type "function") (od:=none) (osl:=#[]) z_ z_ z_
 Ww:=XT.mk' X G z_ z_ z_ ((pS (x:="__init__") (qual:="NoRing.__init__") (st:=je) (f:=60) (oc:=.type "function") (od:=none) (osl:=#[]) z_ z_ z_).binds Wo) z_ z_
 WR:=XT.mk' X G z_ z_ z_ ((pS (x:="__init__") (qual:="NoText.__init__") (st:=jf) (f:=98) (oc:=.type "function") (od:=none) (osl:=#[]) z_ z_ z_).binds Wn) z_ z_
 Xq:=XH.mk' X G z_ z_ z_ z_
 Xr:=XH.mk' X G z_ z_ z_ z_
 Xk:=XH.mk' X G z_ z_ z_ z_
 Xs:=XH.mk' X G z_ z_ z_ z_
 Xu:=XH.mk' X G z_ z_ z_ z_
 Xv:=XH.mk' X G z_ z_ z_ z_
 Xl:=UZ X G z_
 WS:=UZ X G z_
 Xm:=UZ X G z_
 Xn:=UZ X G z_
 WT:=UZ X G z_
 Wz:=UZ X G z_
 Wu:=UZ X G z_
 Wt:=UZ X G z_
 WU:=UZ X G z_
 Xw:=UZ X G z_
 Xx:=UZ X G z_
 Wx:=UZ X G z_
 Wv:=UZ X G z_
 WA:=UZ X G z_
 Xy:=y6 (Wc X G (v:=(.str "ask" 439)) z_)
 Xz:=nj (Wc X G (v:=(.int 2 376)) z_)
 XA:=nj (Wc X G (v:=(.int 8 337)) z_)
 XB:=nj (Wc X G (v:=(.int 20 380)) z_)
 XC:=nj (Wc X G (v:=(.int 60 435)) z_)
 XE:=nj (Wc X G (v:=(.int 12 378)) z_)
 XG:=y6 (Wc X G (v:=(.str "rooms" 437)) z_)
theorem walkF(w:World)(mg:Str→Option Value)(fa:Addr)(h:Heap)(X:(Hd.Kf w.params).In h)(G:h.Ns mainGlobals mg) (hmg:mg "law"=some (.ref fa)) :
  ∃ fd:FuncData,(∀(s:Shared)(u:Value),BindsTo s fd ⟨[u],[]⟩ [("_law_script",u)])∧∀ base:Heap,(Hd.Kf w.params).In base→base.Ns mainGlobals mg→FnOk PySem.Challenge.pw_ringloads_k75_ring_texts_refused w (Hd.Kf w.params) mg base CX0 12 fa fd ["_law_script"] (spF (Hd.Kf w.params) 1 fs_law):=by
 have T:=tx X G
 have e:=hmg.symm.trans T.Xj.m
 cases e
 exact⟨_,fun s v=>.of_eq rfl,fun base _ _=>MV T⟩
theorem tabR(w:World):∀x∈L2.lamNames,W.tabIn (Hd.Kf w.params) x=none∨((PyProof.Rows.recsOf Hd.q).find? λe=>e.name == x).isSome=true:=by
 intro x hx;simp only[L2.lamNames,Uo,VY,or_false]at hx;rcases hx with rfl|rfl|rfl
 . exact .inr z_
 . exact .inl z_
 . exact .inl z_
theorem walk{l:W.OpenLaw}{q:Program}{loose:List Str}{XP:(Str->Option Value)->Heap->Prop}{YP:World->Heap->Prop}{d:DefRec}{K:Params->W.Frag}(hn:l.most=some 63)(hq:PyProof.Rows.importsNone q=true)(hdf:d.params.defaults=[])
  (hY:∀(w:World)(h:Heap),YP w h->(K w.params).In h) (hto:∀w:World,L2.tabsOk (K w.params)=true) (hrc:∀(w:World),∀x∈L2.lamNames,W.tabIn (K w.params) x=none∨((PyProof.Rows.recsOf q).find? λe=>e.name == x).isSome=true)
  (F:∀(w:World)(mg:Str->Option Value)(fa:Addr)(h:Heap),(K w.params).In h->h.Ns mainGlobals mg->mg d.name=some (.ref fa) ->
   ∃ fd:FuncData,(∀(s:Shared)(u:Value),BindsTo s fd ⟨[u],[]⟩ [("_law_script",u)])/\∀ base:Heap,(K w.params).In base->base.Ns mainGlobals mg->FnOk l.prog w (K w.params) mg base CX0 12 fa fd ["_law_script"] (spF (K w.params) 1 fs_law)) :
  W.WalkO q loose XP YP l.row.toRowW d [] (λf vs=>PySem.call f vs) :=
 L2.walk_of (n:=63) (k:=12) (x:="_law_script") (CX:=λ_=>CX0) (sp:=λw=>spF (K w.params) 1 fs_law) hn hq x_ hdf ⟨rfl,x_,x_,rfl⟩ hY hto hrc F (λ_ H a ns hl hO hS=>B0 hl hO hS (DL hl)) λ_ _ _ _ _ z=>z
end My
open PySem PySem.W PyProof.Rows
noncomputable abbrev PySem.W.Fast.tw14477362626684842352:PySem.Program:=PySem.Challenge.pw_ringloads_k75_ring_texts_refused
theorem PySem.W.Fast.te14477362626684842352:PySem.Challenge.pw_ringloads_k75_ring_texts_refused=PySem.W.Fast.tw14477362626684842352:=rfl
set_option maxRecDepth 100000 in
theorem PySem.Challenge.cw_ringloads_k75_ring_texts_refused_holds : PySem.Challenge.rw_ringloads_k75_ring_texts_refused.Holds := by
 w_on;o_law
 refine W.holds_open (q:=Hd.q) (loose:=Hd.loose) (Xt:=Hd.Xt) (XP:=XL Hd.q []) (Yf:=Hook.obs Hd.Hk) (Ya:=Hook.val Hd.Hk) (YP:=Hook.says Hd.Hk) (N:=_) Hd.left (Hook.of Hd.Hk) (Hook.keeps Hd.Hk) (fun s e=>xl_of s (VM.mp e).1) XL.keeps (by rfl) (by rfl) (by rfl) (fun s e=>recFacts_of (VM.mp e).2) (by rfl) (by assumption) y_ ⟨rfl,rfl,rfl,rfl,rfl,y_⟩ ?hw ?hc
 case hw=>w_witness2
 case hc=>exact My.walk (l:=PySem.Challenge.rw_ringloads_k75_ring_texts_refused) (K:=Hd.Kf) rfl y_ rfl (fun w h Y=>PySem.W.kIn_of Y) (fun w=>by kernel_rfl) My.tabR My.walkF