import PyProof.Rows.All
import Wide.All
import OpenK.AllK
import Wide.FinOn
import Lean
import PyProof.EqAt
import PyProof.EqKinds
import PyProof.TupleCall
import PyProof.ExcArgs
import KE.KSortKey
import KE.KIsAll
import PyProof.ExcInit
import PyProof.StationsW
import PyProof.NsDelKeeps
import PyProof.RulesAs
import PyProof.PassesOwn
import PyProof.ExcBaseAll.ValueError
import PyProof.InstStoreFacts
import PyProof.Rows.EqDataRows
import PyProof.ReprRoads
import PyProof.Rows.Range3
import PyProof.ConsumeWalk
import PyProof.FString5
import PyProof.ReprLen
import PyProof.Rows.TupAdd
import PyProof.Rows.RuleIs
import PyProof.ListNew
import KE.KRevIter
import PyProof.Rows.SeqMore2
import PyProof.ListRange
import KE.KEqDict
import PyProof.NeKinds
import PyProof.CallStr
import PyProof.ListMulAny
import PyProof.Rows.SetFrom
import PyProof.SetRoads
import KE.KSortTup
import PySem.Challenge.RW_ringloads_k41_whole_near_and_all_ways
set_option Elab.async false
set_option linter.all false
set_option maxRecDepth 100000
set_option maxHeartbeats 0
theorem z_ {α:Sort _} {a b:α} (h:a=b:=by kernel_rfl):a=b:=h
theorem y_ {p:Prop} [Decidable p] (h:decide p=true:=by decide +kernel):p:=of_decide_eq_true h
theorem xp {p:Prop} [Decidable p] (h:decide p=true:=by decide):p:=of_decide_eq_true h
theorem xL{p:Prop}(h:p:=by omega):p:=h
theorem x_{p:Prop}(h:p:=by simp):p:=h
section
open PySem PySem.Spec PyProof.Rows PySem.W
theorem fI:type_of% @List.mem_cons_of_mem:=@List.mem_cons_of_mem
theorem gV:type_of% @List.getElem?_eq_getElem:=@List.getElem?_eq_getElem
theorem k5:type_of% @List.mem_cons_self:=@List.mem_cons_self
theorem so:type_of% @Nat.lt_of_lt_of_le:=@Nat.lt_of_lt_of_le
theorem YA:type_of% @List.getElem?_eq_some_iff:=@List.getElem?_eq_some_iff
theorem YB:type_of% @List.getElem_mem:=@List.getElem_mem
theorem YC:type_of% @List.getD_eq_getElem?_getD:=@List.getD_eq_getElem?_getD
theorem YD:type_of% @List.length_map:=@List.length_map
theorem YE:type_of% @wpAny_bind:=@wpAny_bind
theorem YF:type_of% @Nat.pow_le_pow_right:=@Nat.pow_le_pow_right
theorem YG:type_of% @Heap.get?_push_of_some:=@Heap.get?_push_of_some
theorem YH:type_of% @Nat.le_trans:=@Nat.le_trans
theorem YI:type_of% @Int.natAbs_natCast:=@Int.natAbs_natCast
theorem YJ:type_of% @decide_eq_true_eq:=@decide_eq_true_eq
theorem YK:type_of% @List.mem_cons:=@List.mem_cons
theorem YL:type_of% @Nat.lt_of_le_of_lt:=@Nat.lt_of_le_of_lt
theorem YM:type_of% @Heap.lt_size:=@Heap.lt_size
theorem YN:type_of% @Nat.le_refl:=@Nat.le_refl
theorem YO:type_of% @List.mem_range:=@List.mem_range
theorem YQ:type_of% @List.map_cons:=@List.map_cons
theorem YR:type_of% @PassesOwn.never:=@PassesOwn.never
theorem YS:type_of% @List.getElem?_map:=@List.getElem?_map
theorem YT:type_of% @List.size_toArray:=@List.size_toArray
theorem YU:type_of% @List.mem_map:=@List.mem_map
theorem YV:type_of% @Bool.and_eq_true:=@Bool.and_eq_true
theorem YW:type_of% @List.mem_append_right:=@List.mem_append_right
theorem YX:type_of% @wpAny_pure:=@wpAny_pure
theorem YY:type_of% @List.mem_append:=@List.mem_append
theorem YZ:type_of% @decide_eq_false:=@decide_eq_false
theorem Y0:type_of% @List.length_range:=@List.length_range
theorem Y1:type_of% @List.mem_append_left:=@List.mem_append_left
theorem Y2:type_of% @Heap.get?_push_size:=@Heap.get?_push_size
theorem Y3:type_of% @List.map_map:=@List.map_map
theorem Y4:type_of% @List.length_append:=@List.length_append
theorem Y5:type_of% @Option.some.inj:=@Option.some.inj
theorem Y6:type_of% @List.getElem?_append_right:=@List.getElem?_append_right
theorem Y7:type_of% @Int.fmod_eq_emod_of_nonneg:=@Int.fmod_eq_emod_of_nonneg
theorem Y8:type_of% @List.take_of_length_le:=@List.take_of_length_le
theorem Y9:type_of% @List.map_append:=@List.map_append
theorem Za:type_of% @List.mem_singleton:=@List.mem_singleton
theorem Zb:type_of% @Nat.ne_of_lt:=@Nat.ne_of_lt
theorem Zc:type_of% @List.nodup_cons:=@List.nodup_cons
theorem Zd:type_of% @Bool.false_eq_true:=@Bool.false_eq_true
theorem Ze:type_of% @PySem.W.mg_none_of:=@PySem.W.mg_none_of
theorem Zf:type_of% @Nat.add_sub_cancel_left:=@Nat.add_sub_cancel_left
theorem Zg:type_of% @decide_eq_true:=@decide_eq_true
theorem Zh:type_of% @List.length_zip:=@List.length_zip
theorem Zj:type_of% @List.nodup_append:=@List.nodup_append
theorem Zk:type_of% @Rat.num_divInt_den:=@Rat.num_divInt_den
theorem Zl:type_of% @Int.toNat_natCast:=@Int.toNat_natCast
theorem Zm:type_of% @Option.some.injEq:=@Option.some.injEq
theorem Zn:type_of% @Int.natAbs_mul:=@Int.natAbs_mul
theorem Zo:type_of% @List.append_assoc:=@List.append_assoc
theorem Zp:type_of% @List.replicate_succ:=@List.replicate_succ
theorem Zq:type_of% @List.getElem?_set_self:=@List.getElem?_set_self
theorem Zr:type_of% @List.getElem?_set_ne:=@List.getElem?_set_ne
theorem Zs:type_of% @Rat.le_refl:=@Rat.le_refl
theorem Zt:type_of% @List.lookup_cons:=@List.lookup_cons
theorem Zu:type_of% @List.filter_cons:=@List.filter_cons
theorem Zv:type_of% @List.mem_filter:=@List.mem_filter
theorem Zw:type_of% @List.drop_eq_getElem_cons:=@List.drop_eq_getElem_cons
theorem Zx:type_of% @Rat.le_trans:=@Rat.le_trans
theorem Zy:type_of% @List.length_cons:=@List.length_cons
theorem Zz:type_of% @List.length_take:=@List.length_take
theorem ZA:type_of% @List.zip_append:=@List.zip_append
theorem ZC:type_of% @Bool.false_ne_true:=@Bool.false_ne_true
theorem ZD:type_of% @List.map_congr_left:=@List.map_congr_left
theorem ZE:type_of% @List.getElem?_range:=@List.getElem?_range
theorem ZF:type_of% @List.filterMap_cons:=@List.filterMap_cons
theorem ZG:type_of% @List.getElem?_append_left:=@List.getElem?_append_left
theorem ZH:type_of% @Rat.not_lt:=@Rat.not_lt
theorem ZI:type_of% @List.ext_getElem:=@List.ext_getElem
theorem ZJ:type_of% @List.getElem_zip:=@List.getElem_zip
theorem ZK:type_of% @Nat.dvd_trans:=@Nat.dvd_trans
theorem ZL:type_of% @List.perm_append_comm:=@List.perm_append_comm
theorem ZM:type_of% @List.getElem_of_mem:=@List.getElem_of_mem
theorem ZN:type_of% @Int.mul_ne_zero:=@Int.mul_ne_zero
theorem ZO:type_of% @Int.eq_ofNat_of_zero_le:=@Int.eq_ofNat_of_zero_le
theorem ZP:type_of% @Int.fdiv_eq_ediv_of_nonneg:=@Int.fdiv_eq_ediv_of_nonneg
theorem ZQ:type_of% @wpAny_holding:=@wpAny_holding
theorem ZR:type_of% @List.zip_cons_cons:=@List.zip_cons_cons
theorem ZS:type_of% @Rat.le_of_lt:=@Rat.le_of_lt
theorem ZT:type_of% @exists_eq_left':=@exists_eq_left'
theorem ZU:type_of% @Nat.le_of_dvd:=@Nat.le_of_dvd
theorem ZV:type_of% @Rat.divInt_mul_divInt:=@Rat.divInt_mul_divInt
theorem ZW:type_of% @wpAny_truthy_bool:=@wpAny_truthy_bool
theorem ZX:type_of% @Nat.le_of_lt:=@Nat.le_of_lt
theorem ZY:type_of% @Rat.sub_eq_add_neg:=@Rat.sub_eq_add_neg
theorem ZZ:type_of% @PySem.W.kia_one:=@PySem.W.kia_one
theorem Z4:type_of% @Ne.symm:=@Ne.symm
theorem Z5:type_of% @List.length_drop:=@List.length_drop
theorem Z8:type_of% @List.getElem_map:=@List.getElem_map
theorem aaa:type_of% @if_false:=@if_false
theorem aab:type_of% @List.sublist_append_right:=@List.sublist_append_right
theorem aac:type_of% @PySem.mem_of_lookup:=@PySem.mem_of_lookup
theorem aad:type_of% @if_true:=@if_true
theorem aae:type_of% @Nat.zero_le:=@Nat.zero_le
theorem aaf:type_of% @List.length_filter_le:=@List.length_filter_le
theorem aag:type_of% @List.foldl_cons:=@List.foldl_cons
theorem aah:type_of% @List.length_set:=@List.length_set
theorem aai:type_of% @List.append_nil:=@List.append_nil
theorem aaj:type_of% @Rat.natCast_pos:=@Rat.natCast_pos
theorem aak:type_of% @decide_eq_false_iff_not:=@decide_eq_false_iff_not
theorem aal:type_of% @List.not_mem_nil:=@List.not_mem_nil
theorem aam:type_of% @List.length_eq_zero_iff:=@List.length_eq_zero_iff
theorem aan:type_of% @PyProof.Rows.callWith_type1:=@PyProof.Rows.callWith_type1
theorem aao:type_of% @List.flatten_cons:=@List.flatten_cons
theorem aap:type_of% @Nat.mul_le_mul_left:=@Nat.mul_le_mul_left
theorem aaq:type_of% @Nat.pow_add:=@Nat.pow_add
theorem aar:type_of% @Nat.le_add_right:=@Nat.le_add_right
theorem aas:type_of% @decide_eq_decide:=@decide_eq_decide
theorem aat:type_of% @Rat.mul_le_mul_of_nonneg_right:=@Rat.mul_le_mul_of_nonneg_right
theorem aau:type_of% @List.all_eq_true:=@List.all_eq_true
theorem aav:type_of% @Rat.div_def:=@Rat.div_def
theorem aaw:type_of% @of_decide_eq_true:=@of_decide_eq_true
theorem aax:type_of% @Nat.dvd_mul_right:=@Nat.dvd_mul_right
theorem aay:type_of% @List.foldl_append:=@List.foldl_append
theorem aaz:type_of% @wpAny_mono:=@wpAny_mono
theorem aaA:type_of% @List.nil_append:=@List.nil_append
theorem aaB:type_of% @Option.map_eq_some_iff:=@Option.map_eq_some_iff
theorem aaC:type_of% @List.set_set:=@List.set_set
theorem aaD:type_of% @Fast.te14364793385576792824:=@Fast.te14364793385576792824
theorem aaE:type_of% @List.sum_cons:=@List.sum_cons
theorem aaF:type_of% @List.any_cons:=@List.any_cons
theorem aaG:type_of% @Nat.lt_irrefl:=@Nat.lt_irrefl
theorem aaH:type_of% @Nat.dvd_mul_left:=@Nat.dvd_mul_left
theorem aaI:type_of% @wpAny_Call_Name_kw:=@wpAny_Call_Name_kw
theorem aaJ:type_of% @List.mem_filterMap:=@List.mem_filterMap
theorem aaK:type_of% @Int.emod_lt_of_pos:=@Int.emod_lt_of_pos
theorem aaL:type_of% @Nat.mod_lt:=@Nat.mod_lt
theorem aaM:type_of% @List.getElem_range:=@List.getElem_range
theorem aaN:type_of% @Nat.mul_le_mul:=@Nat.mul_le_mul
theorem aaO:type_of% @List.set_append_right:=@List.set_append_right
theorem aaP:type_of% @wpAny_passesOwn:=@wpAny_passesOwn
theorem aaQ:type_of% @Int.emod_nonneg:=@Int.emod_nonneg
theorem aaR:type_of% @List.mem_iff_getElem:=@List.mem_iff_getElem
theorem aaS:type_of% @List.Sublist.refl:=@List.Sublist.refl
theorem aaT:type_of% @Bool.and_eq_true_iff:=@Bool.and_eq_true_iff
theorem aaU:type_of% @Nat.pow_lt_pow_right:=@Nat.pow_lt_pow_right
theorem aaV:type_of% @wpAny_newObj_type:=@wpAny_newObj_type
theorem aaW:type_of% @List.map_nil:=@List.map_nil
theorem aaX:type_of% @List.of_mem_zip:=@List.of_mem_zip
theorem aaY:type_of% @wpAny_standAt:=@wpAny_standAt
theorem aaZ:type_of% @piece_app:=@piece_app
theorem aa0:type_of% @segRun_of:=@segRun_of
end
theorem aa1{p:Prop}(h:p:=by exact λ_ _=>rfl):p:=h
theorem aa2{p:Prop}(h:p:=by exact λ_ _ _ _ _ _ u l=>match u,l with | [_],_=>rfl):p:=h
theorem aa3{p:Prop}(h:p:=by exact λ_ _ _ _ _ _ u l=>match u,l with | [_,_],_=>rfl):p:=h
theorem aa4{p:Prop}(h:p:=by exact λ_ _ _ _ _ _ u l=>match u,l with | [_,_,_],_=>rfl):p:=h
theorem aa5{p:Prop}(h:p:=by exact λ_ _ _ _ _ _ u l=>match u,l with | [_,_,_,_],_=>rfl):p:=h
section
open PySem PySem.Spec
abbrev acZ:Value:=.str "law_ringloads_k41_whole_near_and_all_ways" 857
abbrev ac0:Value:=.str "ringloads.errors" 206
abbrev ac1:Value:=.str "ringloads.slides" 672
abbrev ac2:Value:=.str "ringloads.ratios" 306
abbrev ac3:Value:=.str "ringloads.rounding" 780
abbrev ac4:Value:=.str "ringloads.cuts" 441
abbrev ac5:Value:=.str "ringloads.crossing" 393
abbrev ac6:Value:=.str "ringloads.ways" 498
abbrev ac7:Value:=.str "ringloads.loads" 538
abbrev ac8:Value:=.str "ringloads.parting" 603
abbrev ac9:Value:=.str "ringloads.names" 275
end
theorem ade{p:Prop}(h:p:=by first | exact .inl rfl | exact .inr rfl):p:=h
abbrev adf(x:PySem.Str):Prop:=(x == ("__debug__":PySem.Str))=false
abbrev adg(x:PySem.Str):Prop:=(x == ("__classdict__":PySem.Str))=false
namespace L2
open PySem PySem.Spec PyProof.Rows
noncomputable abbrev TX:=Sum Int Str
noncomputable def OY:TX->Value->Bool
 |.inl k,v=>Value.isInt k v
 |.inr x,v=>Value.isStrOf x v
noncomputable def SU(w:World):TX->Int
 |.inl k=>hashInt k
 |.inr x=>hashStr w x
theorem cj:∀{k:TX}{v:Value},OY k v=true->(∃i t,k=Sum.inl i/\v=Value.int i t)∨(∃x t,k=Sum.inr x/\v=Value.str x t)
 | .inl i,v,h=>by obtain⟨t,e⟩:=Value.isInt_shape (k:=i) (v:=v) h;exact .inl ⟨i,t,rfl,e⟩
 | .inr x,v,h=>by obtain⟨t,e⟩:=Value.isStrOf_shape (x:=x) (v:=v) h;exact .inr ⟨x,t,rfl,e⟩
theorem OZ(a b:Int):decide ((Sum.inl a:TX)=Sum.inl b)=(a == b):=by
 by_cases e:a=b
 . subst e;simp
 . have h:¬(Sum.inl a:TX)=Sum.inl b:=λq=>e (Sum.inl.inj q);rw[YZ h];exact(beq_eq_false_iff_ne.mpr e).symm
theorem O0(a b:Str):decide ((Sum.inr a:TX)=Sum.inr b)=decide (a=b):=by
 by_cases e:a=b
 . subst e;simp
 . have h:¬(Sum.inr a:TX)=Sum.inr b:=λq=>e (Sum.inr.inj q);rw[YZ h,YZ e]
theorem O1(a:Int)(b:Str):decide ((Sum.inl a:TX)=Sum.inr b)=false:=YZ (λq=>nomatch q)
theorem O2(a:Str)(b:Int):decide ((Sum.inr a:TX)=Sum.inl b)=false:=YZ (λq=>nomatch q)
noncomputable def Fv(prog:Program)(w:World):PySem.KeyKind prog w TX where
 is:=OY
 hash:=SU w
 inj:=λv a b ha hb=>by
  rcases cj ha with⟨i,t,rfl,rfl⟩|⟨x,t,rfl,rfl⟩
  .
   rcases cj hb with⟨j,u,rfl,e⟩|⟨y,u,rfl,e⟩
   . injection e with e1 _;rw[e1]
   . exact nomatch e
  .
   rcases cj hb with⟨j,u,rfl,e⟩|⟨y,u,rfl,e⟩
   . exact nomatch e
   . injection e with e1 _;rw[e1]
 byValue:=λk v h=>by rcases cj h with⟨i,t,rfl,rfl⟩|⟨x,t,rfl,rfl⟩<;>rfl
 pyHash:=λhv h=>by
  rcases cj hv with⟨i,t,rfl,rfl⟩|⟨x,t,rfl,rfl⟩
  . exact wpAny_pyHash_int h
  . exact wpAny_pyHash_str h
 eqBool:=λhu hv h=>by
  rcases cj hu with⟨i,t,rfl,rfl⟩|⟨x,t,rfl,rfl⟩
  .
   rcases cj hv with⟨j,u,rfl,rfl⟩|⟨y,u,rfl,rfl⟩
   . rw[OZ]at h;exact wpAny_eqBool_int h
   . rw[O1]at h;exact SeqAt.EqAt.int_str i t y u _ _ _ _ h
  .
   rcases cj hv with⟨j,u,rfl,rfl⟩|⟨y,u,rfl,rfl⟩
   . rw[O2]at h;exact SeqAt.EqAt.str_int x t j u _ _ _ _ h
   . rw[O0]at h;exact wpAny_eqBool_str h
 «strs»:=λk x t v h=>by
  rcases cj h with⟨i,u,rfl,e⟩|⟨y,u,rfl,e⟩
  . exact nomatch e
  . injection e with e1 _;subst e1;cases v<;>rfl
inductive V where
 |non|bl (b:Bool)|int (i:Int)|str (x:Str)|byt (b:Array UInt8)|flt (b:UInt64)|ref (a:Addr)|ty (n:String)
 deriving DecidableEq
def cJ:V->Value->Prop
 |.non,u=>u=Value.none
 |.bl b,u=>u=Value.bool b
 |.int i,u=>∃t,u=Value.int i t
 |.str x,u=>∃t,u=Value.str x t
 |.byt b,u=>∃t,u=Value.bytes b t
 |.flt b,u=>∃t,u=Value.float b t
 |.ref a,u=>u=Value.ref a
 |.ty n,u=>u=Value.type n
abbrev cC:List V->List Value->Prop:=Paired cJ
theorem cC.length{xs:List V}{us:List Value}(r:cC xs us):xs.length=us.length:=Paired.length r
theorem cC.get:∀{xs:List V}{us:List Value}{i:Nat}{x:V},cC xs us->xs[i]?=some x->∃u,us[i]?=some u/\cJ x u
 |_,_,_,_,.nil,e=>by simp at e
 |_,_,0,_,.cons r _,e=>by simp at e;subst e;exact⟨_,rfl,r⟩
 | _,_,i+1,x,.cons _ t,e=>by obtain⟨u,h1,h2⟩:=cC.get (i:=i) (x:=x) t (by simpa using e);exact⟨u,by simpa using h1,h2⟩
theorem cC.set{x:V}{u:Value}(r:cJ x u):∀{xs:List V}{us:List Value}(i:Nat),cC xs us->cC (xs.set i x) (us.set i u)
 |_,_,_,.nil=>.nil
 |_,_,0,.cons _ t=>.cons r t
 |_,_,i+1,.cons q t=>.cons q (cC.set r i t)
theorem cC.append:∀{xs ys:List V}{us ws:List Value},cC xs us->cC ys ws->cC (xs++ys) (us++ws)
 |_,_,_,_,.nil,s=>s
 |_,_,_,_,.cons r t,s=>.cons r (cC.append t s)
theorem cC.take:∀{xs:List V}{us:List Value}(n:Nat),cC xs us->cC (xs.take n) (us.take n)
 |_,_,0,_=>.nil
 |_,_,_+1,.nil=>.nil
 |_,_,n+1,.cons r t=>.cons r (cC.take n t)
theorem cC.drop:∀{xs:List V}{us:List Value}(n:Nat),cC xs us->cC (xs.drop n) (us.drop n)
 |_,_,0,r=>r
 |_,_,_+1,.nil=>.nil
 |_,_,n+1,.cons _ t=>cC.drop n t
def Q6:Option V->Option Value->Prop
 |some v,some u=>cJ v u
 |none,none=>True
 |_,_=>False
def KV{κ:Type}:List (κ×V)->List (κ×Value)->Prop:=Paired λ(p:κ×V) (q:κ×Value)=>p.1=q.1/\cJ p.2 q.2
noncomputable def kV:TX->V
 |.inl i=>.int i
 |.inr x=>.str x
inductive HO where
 |lst (xs:List V)
 |tup (xs:List V)
 |dK (kvs:List (TX×V))|dT (kvs:List (List TX×V))
 |set (S:Int->Bool) (n:Nat)
 |ins (C dx:Addr) (fs:List (Str×V))
 |own (x:Addr)
 |xd (fs:List (Str×V))
 |met (f x:Addr)
 |rng (lo hi:Int)
 |frz (o:Obj) (u:HO)
 |tbl (q:Str)
 |ext (φ:Heap->Prop)
noncomputable abbrev Hp:=Addr->Option HO
noncomputable def TY(H:Hp)(a:Addr)(o:HO):Hp:=λb=>if b=a then some o else H b
theorem bF{H:Hp}{a:Addr}{o:HO}:TY H a o a=some o:=by unfold TY;rw[if_pos rfl]
theorem aH{H:Hp}{a b:Addr}{o:HO}(h:b≠a):TY H a o b=H b:=by unfold TY;rw[if_neg h]
theorem bJ{H:Hp}{a b:Addr}{o:HO}(h:H a=some o)(h':H b=none):a≠b:=by intro e;subst e;rw[h]at h';cases h'
def sV(oc:Obj)(q:Str):Prop:=∃vs t,oc.data=.fields vs/\vs[1]?=some (.str q t)
section
variable(P:Program)(w:World)
def ip(H:Hp)(h:Heap)(a:Addr):HO->Prop
 |.lst xs=>xs.length<=sizeLine/\∃(its:List Value)(n:Nat),cC xs its/\h.get? a=some {cls:=.type "list",data:=.seq its.toArray n}
 |.tup xs=>xs.length<=sizeLine/\∃its:List Value,cC xs its/\IsTup h a its.toArray
 |.dK kvs=>kvs.length<=sizeLine/\(a == sysModules)=false/\∃vs,KV kvs vs/\h.DictOf (Fv P w) a vs
 | .dT kvs=>kvs.length<=sizeLine/\(a == sysModules)=false/\∃xs:List (List TX×Addr×Value),
   Paired (λ(p:List TX×V) (q:List TX×Addr×Value)=>p.1=q.1/\H q.2.1=some (.tup (p.1.map kV))/\cJ p.2 q.2.2) kvs xs /\
   ∃o es ep,h.get? a=some o/\o.ExactDict/\o.data=.dict es ep/\es.toList=xs.map (entryOfKey (tupleKind (Fv P w)))/\(xs.map (·.1)).Nodup
 |.set S n=>h.SetOf (intKind P w) a S n
 | .ins C dx fs=>H dx=some (.own a)/\fs.length<=1000/\dx≠a/\h.get? a=some (W.instObj C dx) /\
   ∃mA,h.Ns1 dx mA/\(∀f,Q6 (fs.lookup f) (mA f))/\PySem.Within mA (fs.map (·.1))
 |.own _=>∃o,h.get? a=some o
 |.xd fs=>∃mA,h.Ns1 a mA/\∀f,Q6 (fs.lookup f) (mA f)
 |.rng lo hi=>∃ t u v,h.get? a=some {cls:=.type "range",data:=.fields #[.int lo t,.int hi u,.int 1 v] }
 |.frz o u=>h.get? a=some o/\ip H h a u
 |.tbl q=>∃ps:Array Value,h.get? a=some {cls:=.none,data:=.fields ps}/\TriplesOk ps.toList/\∀pos cv,codeAmong pos ps.toList=some cv->∃c' oc,cv=.ref c'/\H c'=some (.frz oc (.own c'))/\sV oc q
 |.met f x=>h.get? a=some (W.methodObj (.ref f) (.ref x))
 |.ext φ=>φ h/\(∃o,h.get? a=some o)/\∀h1 h2:Heap,φ h1->(∀o,h1.get? a=some o->h2.get? a=some o)->φ h2
def TZ(H:Hp)(h:Heap):Prop:=∀a o,H a=some o->ip P w H h a o
end
section
variable{P:Program}{w:World}{H H':Hp}{h h':Heap}{a:Addr}{o:HO}
theorem ip.lt(x:ip P w H h a o):a<h.objs.size:=by
 cases o with
 |lst xs=>obtain⟨_,_,_,_,e⟩:=x;exact YM e
 |tup xs=>obtain⟨_,_,_,p⟩:=x;exact p.lt
 |dK kvs=>obtain⟨_,_,_,_,o,_,_,e,_⟩:=x;exact YM e
 |dT kvs=>obtain⟨_,_,_,_,o,_,_,e,_⟩:=x;exact YM e
 |set S n=>obtain⟨o,_,_,_,e,_⟩:=x;exact YM e
 |ins C dx fs=>obtain⟨_,_,_,e,_⟩:=x;exact YM e
 |own y=>obtain⟨_,e⟩:=x;exact YM e
 |xd fs=>obtain⟨_,⟨_,_,_,e,_⟩,_⟩:=x;exact YM e
 |rng lo hi=>obtain⟨_,_,_,e⟩:=x;exact YM e
 |frz ob u=>obtain⟨e,_⟩:=x;exact YM e
 |tbl q=>obtain⟨_,e,_⟩:=x;exact YM e
 |met f y=>exact YM (show h.get? a=some _ from x)
 |ext φ=>obtain⟨_,⟨_,e⟩,_⟩:=x;exact YM e
theorem Paired.mapP{α β:Type}{F G:α->β->Prop}:∀{l₁:List α}{l₂:List β},Paired F l₁ l₂->(∀a b,F a b->G a b)->Paired G l₁ l₂
 |_,_,.nil,_=>.nil
 |_,_,.cons r t,f=>.cons (f _ _ r) (Paired.mapP t f)
theorem ip.stay(x:ip P w H h a o)(k:∀b u,(b=a∨H b=some (.own a))->h.get? b=some u->h'.get? b=some u)
  (ho:∀b,H b=some (.own a)->H' b=some (.own a)) (ht:∀b xs,H b=some (.tup xs)->H' b=some (.tup xs)) (hf:∀b o q,sV o q->H b=some (.frz o (.own b))->H' b=some (.frz o (.own b))):ip P w H' h' a o:=by
 induction o with
 |lst xs=>obtain⟨z,its,n,r,e⟩:=x;exact⟨z,its,n,r,k _ _ (.inl rfl) e⟩
 |tup xs=>obtain⟨z,its,r,ob,e,c⟩:=x;exact⟨z,its,r,ob,k _ _ (.inl rfl) e,c⟩
 |dK kvs=>obtain⟨z,y,vs,r,ob,es,ep,e,c⟩:=x;exact⟨z,y,vs,r,ob,es,ep,k _ _ (.inl rfl) e,c⟩
 | dT kvs =>
  obtain⟨z,y,xs,r,ob,es,ep,e,c⟩:=x;exact⟨z,y,xs,Paired.mapP r λp q z=>⟨z.1,ht _ _ z.2.1,z.2.2⟩,ob,es,ep,k _ _ (.inl rfl) e,c⟩
 |set S n=>obtain⟨ob,es,ep,t,e,c⟩:=x;exact⟨ob,es,ep,t,k _ _ (.inl rfl) e,c⟩
 | ins C dx fs =>
  obtain⟨d,z,ne,e,mA,⟨od,es,ep,e2,c⟩,r⟩:=x;exact⟨ho _ d,z,ne,k _ _ (.inl rfl) e,mA,⟨od,es,ep,k _ _ (.inr d) e2,c⟩,r⟩
 |own y=>obtain⟨ob,e⟩:=x;exact⟨ob,k _ _ (.inl rfl) e⟩
 |xd fs=>obtain⟨mA,⟨od,es,ep,e,c⟩,r⟩:=x;exact⟨mA,⟨od,es,ep,k _ _ (.inl rfl) e,c⟩,r⟩
 |rng lo hi=>obtain⟨t,u,v,e⟩:=x;exact⟨t,u,v,k _ _ (.inl rfl) e⟩
 |frz ob u ih=>obtain⟨e,q⟩:=x;exact⟨k _ _ (.inl rfl) e,ih q⟩
 | tbl q =>
  obtain⟨ps,e,tr,m⟩:=x
  exact⟨ps,k a _ (.inl rfl) e,tr,λpos cv z=>let ⟨c',oc,a1,a2,a3⟩:=m pos cv z;⟨c',oc,a1,hf _ _ _ a3 a2,a3⟩⟩
 | met f y =>
  have e:h.get? a=some (W.methodObj (.ref f) (.ref y)):=x;show h'.get? a=some (W.methodObj (.ref f) (.ref y));exact k a _ (.inl rfl) e
 |ext φ=>obtain⟨p,⟨o,e⟩,st⟩:=x;exact⟨st _ _ p λo q=>k _ _ (.inl rfl) q,⟨o,k _ _ (.inl rfl) e⟩,st⟩
theorem TZ.lt(x:TZ P w H h)(e:H a=some o):a<h.objs.size:=(x a o e).lt
theorem TZ.fresh(x:TZ P w H h)(e:h.objs.size<=a):H a=none:=by
 cases q:H a with
 |none=>rfl
 |some u=>exact absurd (so (x.lt q) e) (aaG _)
theorem TZ.kept(x:TZ P w H h)(k:∀b u,h.get? b=some u->h'.get? b=some u):TZ P w H h':=λa o e =>
 (x a o e).stay (λb u _ q=>k b u q) (λ_ q=>q) (λ_ _ q=>q) λ_ _ _ _ q=>q
theorem TZ.laid(x:TZ P w H h)(k:∀b u,h.get? b=some u->h'.get? b=some u)(hp:h.objs.size<=a)(new:ip P w (TY H a o) h' a o):TZ P w (TY H a o) h':=λb u e=>by
 have hn:=x.fresh hp;by_cases hb:b=a
 . subst hb;rw[bF]at e;cases e;exact new
 . rw[aH hb]at e;exact(x b u e).stay (λc v _ q=>k c v q) (λc q=>by rw[aH (bJ q hn)];exact q) (λc xs q=>by rw[aH (bJ q hn)];exact q) λc ob _ _ q=>by rw[aH (bJ q hn)];exact q
end
def Rd(H:Hp)(a:Addr)(u:HO):Prop:=H a=some u∨∃o,H a=some (.frz o u)
theorem Rd.ok{P:Program}{w:World}{H:Hp}{h:Heap}{a:Addr}{u:HO}(r:Rd H a u)(x:TZ P w H h):ip P w H h a u:=by
 rcases r with r|⟨o,r⟩
 . exact x a u r
 . obtain⟨_,q⟩:=x a _ r;exact q
def Ua:Option HO->Prop
 |some (.lst _)=>True
 |some (.dK _)=>True
 |some (.dT _)=>True
 |some (.set _ _)=>True
 |some (.ins _ _ _)=>True
 |some (.ext _)=>True
 |_=>False
section
variable{P:Program}{w:World}{H:Hp}{h h':Heap}{x e:Addr}{o':HO}
theorem TZ.write(ok:TZ P w H h)(mu:Ua (H x))(he:e=x∨H e=some (.own x))(k:∀b u,b≠e->h.get? b=some u->h'.get? b=some u)(heo:∃u,h'.get? e=some u)
  (new:ip P w (TY H x o') h' x o'):TZ P w (TY H x o') h':=λb u q=>by
 have nown:∀c y,H c=some (.own y)->c≠x:=λc y r z=>by subst z;rw[r]at mu;exact mu
 have ntup:∀c xs,H c=some (.tup xs)->c≠x:=λc xs r z=>by subst z;rw[r]at mu;exact mu
 have nfrz:∀c o u,H c=some (.frz o u)->c≠x:=λc o u r z=>by subst z;rw[r]at mu;exact mu
 by_cases hb:b=x
 . subst hb;rw[bF]at q;cases q;exact new
 .
  rw[aH hb]at q;by_cases hbe:b=e
  .
   have q':H b=some (.own x):=by
    rcases he with z|z
    . exact absurd (hbe.trans z) hb
    . rw[hbe];exact z
   rw[q]at q';cases q';obtain⟨v,hv⟩:=heo;exact⟨v,by rw[hbe];exact hv⟩
  .
   refine(ok b u q).stay (λc v hc r=>k c v ?_ r) (λc r=>by rw[aH (nown c b r)];exact r) (λc xs r=>by rw[aH (ntup c xs r)];exact r) λc ob _ _ r=>by rw[aH (nfrz c ob _ r)];exact r
   rcases hc with rfl|hc
   . exact hbe
   .
    rintro rfl;rcases he with z|z
    . exact nown c b hc z
    . rw[hc]at z;cases z;exact hb rfl
end
structure Un (fs ex:List Addr) (H H':Hp) (h h':Heap):Prop where
 keep:∀b o,h.get? b=some o->H b=none->b∉fs->b∉ex->h'.get? b=some o
 slot:∀b o,h.get? b=some o->H b=none->b∈fs->b∉ex->∃sl,h'.get? b=some {o with slots:=sl}
 free:∀b o,h.get? b=some o->H b=none->b∉ex->H' b=none
 there:∀b o,h.get? b=some o->b∉ex->∃o',h'.get? b=some o'
 tups:∀b xs,H b=some (.tup xs)->H' b=some (.tup xs)
 frzs:∀b o u,H b=some (.frz o u)->H' b=some (.frz o u)
 tbls:∀b q,H b=some (.tbl q)->H' b=some (.tbl q)
section
variable{fs ex:List Addr}{H H1:Hp}{h h1 h':Heap}{a x e:Addr}{o:HO}
theorem Un.any(u:Un fs ex H H1 h h1){b:Addr}{ob:Obj}(q:h.get? b=some ob)(n:H b=none)(hx:b∉ex):∃sl,h1.get? b=some {ob with slots:=sl}:=by
 by_cases hb:b∈fs
 . exact u.slot b ob q n hb hx
 . exact⟨ob.slots,u.keep b ob q n hb hx⟩
theorem Un.kept(k:∀b u,h.get? b=some u->h'.get? b=some u):Un fs ex H H h h' :=
 ⟨λb ob q _ _ _=>k b ob q,λb ob q _ _ _=>⟨ob.slots,k b ob q⟩,λ_ _ _ n _=>n,λb ob q _=>⟨ob,k b ob q⟩,λ_ _ q=>q,λ_ _ _ q=>q,λ_ _ q=>q⟩
theorem Un.refl:Un fs ex H H h h:=Un.kept λ_ _ q=>q
theorem Un.laid(k:∀b u,h.get? b=some u->h'.get? b=some u)(hp:h.objs.size<=a)(hn:H a=none):Un fs ex H (TY H a o) h h' where
 keep:=λb u q _ _ _=>k b u q
 slot:=λb u q _ _ _=>⟨u.slots,k b u q⟩
 free:=λb u q n _=>by rw[aH (Zb (so (YM q) hp))];exact n
 there:=λb u q _=>⟨u,k b u q⟩
 tups:=λb xs q=>by rw[aH (bJ q hn)];exact q
 frzs:=λb u xs q=>by rw[aH (bJ q hn)];exact q
 tbls:=λb ps q=>by rw[aH (bJ q hn)];exact q
theorem Un.write(mu:Ua (H x))(he:e=x∨H e=some (.own x))(k:∀b u,b≠e->h.get? b=some u->h'.get? b=some u)(heo:∃u,h'.get? e=some u):Un fs ex H (TY H x o) h h':=by
 have hx:∀b,H b=none->b≠x:=λb n z=>by subst z;rw[n]at mu;exact mu
 have hb:∀b,H b=none->b≠e:=λb n z=>by
  subst z;rcases he with r|r
  . exact hx b n r
  . rw[n]at r;cases r
 have hm:∀b u,H b=some u->¬Ua (some u)->b≠x:=λb u q nm z=>by subst z;rw[q]at mu;exact nm mu
 refine⟨λb u q n _ _=>k b u (hb b n) q,λb u q n _ _=>⟨u.slots,k b u (hb b n) q⟩,λb u q n _=>by rw[aH (hx b n)];exact n,λb u q _=>?_,
  λb xs q=>by rw[aH (hm b _ q λz=>z)];exact q,λb u xs q=>by rw[aH (hm b _ q λz=>z)];exact q,λb ps q=>by rw[aH (hm b _ q λz=>z)];exact q⟩
 by_cases hbe:b=e
 . subst hbe;exact heo
 . exact⟨u,k b u hbe q⟩
end
noncomputable def Ub(h:Heap)(H:Hp):List Addr:=(List.range h.objs.size).filter λa=>(H a).isSome
noncomputable def Jo(h:Heap)(H:Hp):Heap:=W.hideAll h (Ub h H)
theorem Fw(h:Heap)(H:Hp):(Jo h H).objs.size=h.objs.size:=W.hideAll_size _ _
theorem Jp{h:Heap}{H:Hp}{b:Addr}{o:Obj}(e:h.get? b=some o)(n:H b=none):(Jo h H).get? b=some o :=
 W.hideAll_get _ e λhm=>by have q:(H b).isSome=true:=(Zv.mp hm).2;rw[n]at q;simp at q
theorem Mv{h:Heap}{H:Hp}{b:Addr}{o:Obj}(e:(Jo h H).get? b=some o):h.get? b=some o/\H b=none:=by
 have e':h.get? b=some o:=W.of_hideAll (Ub h H) e;refine⟨e',?_⟩
 cases q:H b with
 |none=>rfl
 | some x =>
  have hm:b∈Ub h H:=Zv.mpr ⟨YO.mpr (YM e'),by simp[q]⟩;have z:(Jo h H).get? b=none:=W.hideAll_none (Ub h H) hm;rw[z]at e;cases e
noncomputable def sW(g h:Heap)(L:Addr):List (Addr×Obj):=(List.range h.objs.size).filterMap λa=>if a=L∨(g.get? a).isSome=true then none else(h.get? a).map λo=>(a,o)
theorem A3{g h:Heap}{L a:Addr}{o:Obj}(h1:a≠L)(h2:g.get? a=none)(h3:h.get? a=some o):(a,o)∈sW g h L :=
 aaJ.mpr ⟨a,YO.mpr (YM h3),by simp[h1,h2,h3]⟩
theorem vv{g h:Heap}{L:Addr}{p:Addr×Obj}(hp:p∈sW g h L):p.1≠L/\g.get? p.1=none/\h.get? p.1=some p.2:=by
 obtain⟨b,_,e⟩:=aaJ.mp hp;split at e
 . cases e
 .
  rename_i hn
  cases q:h.get? b with
  |none=>rw[q]at e;simp at e
  | some u =>
   rw[q]at e;simp only[Option.map_some,Zm]at e;subst e;refine⟨λz=>hn (.inl z),?_,q⟩;show g.get? b=none
   cases r:g.get? b with
   |none=>rfl
   |some v=>exact(hn (.inr (by simp[r]))).elim
noncomputable def rest(g h:Heap)(L d:Addr):List (Addr×Obj):=(sW g h L).filter λp=>decide (p.1≠d)
theorem Jq{g h:Heap}{L:Addr}:News g L h (sW g h L):=λp hp=>let ⟨a,b,c⟩:=vv hp;⟨c,a,b⟩
def O3(mg:Str->Option Value)(h:Heap):Prop:=∃ bm ob,mg "__builtins__"=some (.ref bm)/\bm≠builtinsNs/\h.get? bm=some ob/\ob.cls=.type "module"/\ob.dict=some builtinsNs/\ob.data=.plain
noncomputable def lamNames:List Str:=["look_at_asks","by_lesser_place","look_at_string"]
noncomputable def wb(x:Str):Str:=(x++".<locals>.")++"<lambda>"
def Uc(K:W.Frag)(H:Hp):Prop:=∀x∈lamNames,∀c P,W.tabIn K x=some (c,P)->H P=some (.tbl (wb x))
theorem Uc.un{K:W.Frag}{fs ex:List Addr}{H H':Hp}{h h':Heap}(t:Uc K H)(u:Un fs ex H H' h h'):Uc K H':=λx hx c P e=>u.tbls _ _ (t x hx c P e)
structure Mod (K:W.Frag) (mg:Str->Option Value) (base:Heap):Prop where
 kin:K.In base
 glob:base.Ns mainGlobals mg
 blt:∃ mb,base.Ns builtinsNs mb/\∀ x:Str,x≠"__name__"->mb x=bootBuiltins x
 nolimit:base.NoLimit
 sysm:∃mm,base.Ns sysModules mm
 bmn:O3 mg base
 cds:∀x∈lamNames,∀c P,W.tabIn K x=some (c,P)->W.CodeHd base c P
/-- the context: a def's body (or a comprehension's Mw) running. base: fixed through the whole law;s₀,H₀: the entry;outer: the frames whose slots others may change (a def's callers);stack: all frames that run;
  ex: iterators that were made ahead of the entry and are walked here (a comprehension's);fn: the names whose cells were made at the entry (a def: all;a comprehension's Mw: its own);calm: not ki an except suite;pn: ab that every state bears;xe: what is wanted of an exception that leaves the code -/
structure Cx where
 prog:Program
 w:World
 K:W.Frag
 mg:Str->Option Value
 base:Heap
 A:Around
 N:List Str
 s₀:Shared
 H₀:Hp
 env:Env
 outer:List Env
 stack:List Env
 ex:List Addr
 fn:Str->Bool
 calm:Bool
 pn:List (Addr×Obj)
 xe:Value->Shared->Prop
noncomputable def Ud(l:List Env):List Addr:=l.filterMap (·.frame)
noncomputable abbrev Cx.fs(X:Cx):List Addr:=Ud X.outer
def Ue(sc:Scope)(x:Str):Prop:=sc.names.lookup x=some .local∨sc.names.lookup x=some .cell∨sc.names.lookup x=some .free
def Ug(sc:Scope)(x:Str):Prop:=sc.names.lookup x=some .local∨sc.names.lookup x=some .cell
def SV(env:Env)(h:Heap)(m:Str->Option Value)(x:Str)(u:Value):Prop :=
 (env.kindOf x=some .local/\m x=some u)∨((env.kindOf x=some .cell∨env.kindOf x=some .free)/\∃c,env.cells.lookup x=some c/\h.IsCell c (some u))
structure Cx.Ok (X:Cx):Prop where
 mod:Mod X.K X.mg X.base
 kind:X.env.scope.kind=.function
 glob:X.env.globals=mainGlobals
 blt:X.env.builtins=builtinsNs
 above:X.s₀.heap.objs.size<=X.env.locals
 inj:∀x y c,X.env.cells.lookup x=some c->X.env.cells.lookup y=some c->x=y
 has:∀x,(X.env.kindOf x=some .cell∨X.env.kindOf x=some .free)->∃c,X.env.cells.lookup x=some c
 cab:∀x c,X.fn x=true->X.env.cells.lookup x=some c->X.s₀.heap.objs.size<=c
 hd:X.calm=true->X.A.handled=none
 frames:X.A.frames=some X.stack
 stk:X.stack=X.outer∨(X.stack=X.env::X.outer/\X.env.frame=some X.env.locals)
 exf:∀b∈X.ex,b≠X.env.locals/\∀x c,X.env.cells.lookup x=some c->c≠b
 bs:∀b o,X.base.get? b=some o->X.s₀.heap.get? b=some o/\X.H₀ b=none
 bsz:X.base.objs.size<=X.s₀.heap.objs.size
 noex:∀b o,X.base.get? b=some o->b∉X.ex
 exfs:∀b∈X.ex,b∉X.fs
 funs:X.s₀.heap.FunFrames X.base X.outer
 frf:∀b∈X.fs,X.H₀ b=none
 tbs:Uc X.K X.H₀
structure Uh (X:Cx) (ab:List (Addr×Obj)) (σ:List (Option V)) (H:Hp) (s:Shared):Prop where
 ok:X.Ok
 os:s.os=X.s₀.os
 bare:AllBare s.gens
 base:Un X.fs X.ex X.H₀ H X.s₀.heap s.heap
 loc:∃m,s.heap.Ns X.env.locals m/\∀(i:Nat)(x:Str)(v:V),X.N[i]?=some x->σ[i]?=some (some v)->Ue X.env.scope x->∃u,cJ v u/\SV X.env s.heap m x u
 cell:∀x c,X.env.cells.lookup x=some c->∃v,s.heap.IsCell c v
 free:H X.env.locals=none
 freeC:∀x c,X.env.cells.lookup x=some c->H c=none∨(X.fn x=false/\∃o,H c=some (.frz o (.own c)))
 pin:∀p∈X.pn++ab,s.heap.get? p.1=some p.2/\H p.1=none/\p.1≠X.env.locals/\p.1∉X.fs/\∀v,p.2.data≠.cell v
 hok:TZ X.prog X.w H s.heap
 len:σ.length=X.N.length
section
variable{X:Cx}{ab:List (Addr×Obj)}{σ:List (Option V)}{H H':Hp}{s:Shared}{h':Heap}
theorem Cx.Ok.nofr(ok:X.Ok){b:Addr}{o:Obj}(e:X.base.get? b=some o):b∉X.fs:=λhb=>by have:=(ok.funs.mem hb).1;rw[e]at this;cases this
theorem Uh.bs(I:Uh X ab σ H s):∀b o,X.base.get? b=some o->s.heap.get? b=some o/\H b=none:=λb o e =>
 ⟨I.base.keep b o (I.ok.bs b o e).1 (I.ok.bs b o e).2 (I.ok.nofr e) (I.ok.noex b o e),I.base.free b o (I.ok.bs b o e).1 (I.ok.bs b o e).2 (I.ok.noex b o e)⟩
theorem Uh.bk(I:Uh X ab σ H s):∀b o,X.base.get? b=some o->s.heap.get? b=some o:=λb o e=>(I.bs b o e).1
theorem Uh.tbs(I:Uh X ab σ H s):Uc X.K H:=I.ok.tbs.un I.base
theorem Uh.mod(I:Uh X ab σ H s):Mod X.K X.mg X.base:=I.ok.mod
theorem Uh.kIn(I:Uh X ab σ H s):X.K.In s.heap:=I.ok.mod.kin.keeps I.bk
theorem Uh.lt(I:Uh X ab σ H s):X.env.locals<s.heap.objs.size:=let ⟨_,hn,_⟩:=I.loc;hn.lt
theorem Uh.sz(I:Uh X ab σ H s):X.s₀.heap.objs.size<=s.heap.objs.size:=YH I.ok.above (ZX I.lt)
theorem Uh.nofs(I:Uh X ab σ H s){a:Addr}(h:s.heap.objs.size<=a):a∉X.fs:=λhb=>by obtain⟨_,o,ho,_⟩:=I.ok.funs.mem hb;exact absurd (so (YM ho) (YH I.sz h)) (aaG _)
theorem Uh.cne(I:Uh X ab σ H s):∀x c,X.env.cells.lookup x=some c->c≠X.env.locals:=λx c e z=>by obtain⟨v,o,ho,hd⟩:=I.cell x c e;obtain⟨m,⟨o',es,ep,ho',hd',_⟩,_⟩:=I.loc;rw[z,ho']at ho;cases ho;rw[hd']at hd;cases hd
theorem Uh.funs(I:Uh X ab σ H s):s.heap.FunFrames X.base X.outer:=by
 have all:∀(l:List Env),(∀b∈Ud l,b∈X.fs)->X.s₀.heap.FunFrames X.base l->s.heap.FunFrames X.base l:=by
  intro l
  induction l with
  |nil=>intro _ _;trivial
  | cons env r ih =>
   intro hs hl;obtain⟨hk,⟨L,o,hf,hn,ho,hd⟩,hr⟩:=hl;have hL:L∈X.fs:=hs L (by unfold Ud;rw[ZF,hf];exact k5);obtain⟨sl,e⟩:=I.base.slot L o ho (I.ok.frf L hL) hL λz=>I.ok.exfs L z hL;exact⟨hk,⟨L,_,hf,hn,e,hd⟩,ih (λb hb=>hs b (by unfold Ud;rw[ZF,hf];exact fI _ hb)) hr⟩
 exact all X.outer (λ_ hb=>hb) I.ok.funs
theorem Uh.stack(I:Uh X ab σ H s):s.heap.FunFrames X.base X.stack:=by
 rcases I.ok.stk with e|⟨e,hf⟩
 . rw[e];exact I.funs
 . rw[e];obtain⟨m,hn,_⟩:=I.loc;refine .cons (by rw[I.ok.kind];decide) hf hn ?_ I.funs;exact Heap.get?_none_of_le (YH I.ok.bsz I.ok.above)
theorem Uh.stkSub(I:Uh X ab σ H s):∀b∈Ud X.stack,b∈X.env.locals::X.fs:=λb hb=>by
 rcases I.ok.stk with e|⟨e,hf⟩
 . rw[e]at hb;exact fI _ hb
 . rw[e]at hb;unfold Ud at hb;rw[ZF,hf]at hb;exact hb
theorem Uh.stkFree(I:Uh X ab σ H s):∀b∈Ud X.stack,H b=none:=λb hb=>by
 rcases YK.mp (I.stkSub b hb)with e|hb
 . rw[e];exact I.free
 . obtain⟨_,o,ho,_⟩:=I.ok.funs.mem hb;exact I.base.free b o ho (I.ok.frf b hb) λz=>I.ok.exfs b z hb
theorem Uh.step{g':Array GenState}{t':Nat}{d':Drawn}{ch:List Addr}(I:Uh X ab σ H s)
  (hch:∀b∈ch,(b∈X.ex∨X.s₀.heap.objs.size<=b)/\b≠X.env.locals/\(∀x c,X.env.cells.lookup x=some c->c≠b)/\∀p∈X.pn++ab,p.1≠b)
  (keep:∀b o,b≠X.env.locals->b∉X.fs->b∉ch->s.heap.get? b=some o->H b=none->h'.get? b=some o)
  (slot:∀b o,b≠X.env.locals->b∈X.fs->b∉ch->s.heap.get? b=some o->H b=none->∃sl,h'.get? b=some {o with slots:=sl}) (free:∀b o,b∉ch->s.heap.get? b=some o->H b=none->H' b=none)
  (there:∀b o,b∉ch->s.heap.get? b=some o->∃o',h'.get? b=some o')
  (tups:∀b xs,H b=some (.tup xs)->H' b=some (.tup xs)) (frzs:∀b o u,H b=some (.frz o u)->H' b=some (.frz o u)) (tbls:∀b q,H b=some (.tbl q)->H' b=some (.tbl q))
  (ns:∀m,s.heap.Ns X.env.locals m->h'.Ns X.env.locals m) (hok:TZ X.prog X.w H' h') (hg:AllBare g') :
  Uh X ab σ H' {s with heap:=h',gens:=g',drawn:=d',toks:=t' }:=by
 have neL:∀b o,X.s₀.heap.get? b=some o->b≠X.env.locals:=λb o e=>Zb (so (YM e) I.ok.above)
 have neC:∀b o,X.s₀.heap.get? b=some o->b∉X.ex->b∉ch:=λb o e hx hb=>by
  rcases(hch b hb).1 with z|z
  . exact hx z
  . exact absurd (so (YM e) z) (aaG _)
 have cellK:∀x c,X.env.cells.lookup x=some c->∀v,s.heap.IsCell c v->h'.IsCell c v:=λx c e v ⟨o,ho,hd⟩=>by
  have nch:c∉ch:=λz=>(hch c z).2.2.1 x c e rfl;rcases I.freeC x c e with hn|⟨_,o2,hz⟩
  .
   by_cases hc:c∈X.fs
   . obtain⟨sl,q⟩:=slot c o (I.cne x c e) hc nch ho hn;exact⟨_,q,hd⟩
   . exact⟨o,keep c o (I.cne x c e) hc nch ho hn,hd⟩
  . have e1:=(I.hok c _ hz).1;rw[ho]at e1;cases e1;exact⟨o,(hok c _ (frzs c _ _ hz)).1,hd⟩
 refine⟨I.ok,I.os,hg,⟨λb o e n hb hx=>?_,λb o e n hb hx=>?_,λb o e n hx=>?_,λb o e hx=>?_,λb xs e=>tups b xs (I.base.tups b xs e),λb o xs e=>frzs b o xs (I.base.frzs b o xs e),λb ps e=>?_⟩,?_,λx c e=>?_,?_,λx c e=>?_,λp hp=>?_,hok,I.len⟩
 . exact keep b o (neL b o e) hb (neC b o e hx) (I.base.keep b o e n hb hx) (I.base.free b o e n hx)
 . obtain⟨sl,e1⟩:=I.base.slot b o e n hb hx;obtain⟨sl',e2⟩:=slot b _ (neL b o e) hb (neC b o e hx) e1 (I.base.free b o e n hx);exact⟨sl',e2⟩
 . obtain⟨o',e1⟩:=I.base.there b o e hx;exact free b o' (neC b o e hx) e1 (I.base.free b o e n hx)
 . obtain⟨o',e1⟩:=I.base.there b o e hx;exact there b o' (neC b o e hx) e1
 . exact tbls b ps (I.base.tbls b ps e)
 .
  obtain⟨m,hn,hl⟩:=I.loc;refine⟨m,ns m hn,λi x v e1 e2 e3=>?_⟩;obtain⟨u,r,l⟩:=hl i x v e1 e2 e3;refine⟨u,r,?_⟩;rcases l with l|⟨k,c,e,z⟩
  . exact .inl l
  . exact .inr ⟨k,c,e,cellK x c e _ z⟩
 . obtain⟨v,z⟩:=I.cell x c e;exact⟨v,cellK x c e v z⟩
 . obtain⟨m,⟨o,_,_,ho,_⟩,_⟩:=I.loc;exact free _ o (λz=>(hch _ z).2.1 rfl) ho I.free
 .
  obtain⟨v,o,ho,hd⟩:=I.cell x c e;rcases I.freeC x c e with hn|⟨hf,o2,hz⟩
  . exact .inl (free c o (λz=>(hch c z).2.2.1 x c e rfl) ho hn)
  . exact .inr ⟨hf,o2,frzs c _ _ hz⟩
 . obtain⟨e,n,ne,nf,d⟩:=I.pin p hp;have nch:p.1∉ch:=λz=>(hch p.1 z).2.2.2 p hp rfl;exact⟨keep p.1 p.2 ne nf nch e n,free p.1 p.2 nch e n,ne,nf,d⟩
theorem Uh.un{t':Nat}(I:Uh X ab σ H s)(u:Un X.fs [] H H' s.heap h')(hok:TZ X.prog X.w H' h'):Uh X ab σ H' {s with heap:=h',toks:=t' }:=by
 obtain⟨m,⟨o,es,ep,ho,r⟩,_⟩:=id I.loc;obtain⟨sl,hL⟩:=u.any ho I.free x_
 exact I.step (g':=s.gens) (d':=s.drawn) (ch:=[]) (λ_ z=>nomatch z) (λb o _ hb _ e n=>u.keep b o e n hb x_) (λb o _ hb _ e n=>u.slot b o e n hb x_) (λb o _ e n=>u.free b o e n x_) (λb o _ e=>u.there b o e x_) u.tups u.frzs u.tbls (λm' hm=>by
  obtain⟨o',es',ep',ho',r'⟩:=hm;rw[ho]at ho';cases ho'
  exact⟨_,es',ep',hL,r'⟩) hok I.bare
theorem Uh.call{g':Array GenState}{t':Nat}{d':Drawn}{ch:List Addr}(I:Uh X ab σ H s)(u:Un (Ud X.stack) ch H H' s.heap h')(hok:TZ X.prog X.w H' h')(hg:AllBare g')
  (hch:∀b∈ch,(b∈X.ex∨X.s₀.heap.objs.size<=b)/\b≠X.env.locals/\(∀x c,X.env.cells.lookup x=some c->c≠b)/\∀p∈X.pn++ab,p.1≠b) :
  Uh X ab σ H' {s with heap:=h',gens:=g',drawn:=d',toks:=t' }:=by
 obtain⟨m,⟨o,es,ep,ho,r⟩,_⟩:=id I.loc;obtain⟨sl,hL⟩:=u.any ho I.free λz=>(hch _ z).2.1 rfl
 exact I.step (ch:=ch) hch (λb o hL hb hc e n=>u.keep b o e n (λz=>(YK.mp (I.stkSub b z)).elim hL hb) hc) (λb o _ _ hc e n=>u.any e n hc) (λb o hc e n=>u.free b o e n hc) (λb o hc e=>u.there b o e hc) u.tups u.frzs u.tbls (λm' hm=>by
  obtain⟨o',es',ep',ho',r'⟩:=hm;rw[ho]at ho';cases ho'
  exact⟨_,es',ep',hL,r'⟩) hok hg
theorem Uh.turned{t':Nat}{it:Addr}(I:Uh X ab σ H s)(k:∀b o,b≠it->s.heap.get? b=some o->h'.get? b=some o)(hn:H it=none)(hL:it≠X.env.locals)
  (h1:it∈X.ex∨X.s₀.heap.objs.size<=it) (h2:∀x c,X.env.cells.lookup x=some c->c≠it) (h3:∀p∈X.pn++ab,p.1≠it):Uh X ab σ H {s with heap:=h',toks:=t' }:=by
 have nit:∀b u,H b=some u->b≠it:=λb u e z=>by rw[z,hn]at e;cases e
 refine I.step (g':=s.gens) (d':=s.drawn) (ch:=[it]) (λb hb=>?_) (λb o _ _ hc e _=>k b o (λz=>hc (by simp[z])) e) (λb o _ _ hc e _=>⟨o.slots,k b o (λz=>hc (by simp[z])) e⟩) (λ_ _ _ _ n=>n)
  (λb o hc e=>⟨o,k b o (λz=>hc (by simp[z])) e⟩) (λ_ _ e=>e) (λ_ _ _ e=>e) (λ_ _ e=>e) (λm hm=>?_) (λb u e=>?_) I.bare
 .
  have e:b=it:=by simpa using hb
  subst e;exact⟨h1,hL,h2,h3⟩
 . obtain⟨o,es,ep,ho,r⟩:=hm;exact⟨o,es,ep,k _ o (Z4 hL) ho,r⟩
 .
  refine(I.hok b u e).stay (λc v hc q=>k c v ?_ q) (λ_ q=>q) (λ_ _ q=>q) λ_ _ _ _ q=>q;rcases hc with z|z
  . rw[z];exact nit b u e
  . exact nit c _ z
theorem Uh.tok(I:Uh X ab σ H s)(t:Nat):Uh X ab σ H {s with toks:=t}:=I.un (h':=s.heap) (t':=t) Un.refl I.hok
theorem Uh.kept{t':Nat}(I:Uh X ab σ H s)(k:∀b u,s.heap.get? b=some u->h'.get? b=some u):Uh X ab σ H {s with heap:=h',toks:=t' }:=I.un (Un.kept k) (I.hok.kept k)
theorem Uh.laid{a:Addr}{o:HO}{t':Nat}(I:Uh X ab σ H s)(k:∀b u,s.heap.get? b=some u->h'.get? b=some u)(hp:s.heap.objs.size<=a)(new:ip X.prog X.w (TY H a o) h' a o) :
  Uh X ab σ (TY H a o) {s with heap:=h',toks:=t' }:=I.un (Un.laid k hp (I.hok.fresh hp)) (I.hok.laid k hp new)
theorem Uh.write{x e:Addr}{o:HO}{t':Nat}(I:Uh X ab σ H s)(mu:Ua (H x))(he:e=x∨H e=some (.own x))(k:∀b u,b≠e->s.heap.get? b=some u->h'.get? b=some u)(heo:∃u,h'.get? e=some u)
  (new:ip X.prog X.w (TY H x o) h' x o):Uh X ab σ (TY H x o) {s with heap:=h',toks:=t' }:=I.un (Un.write mu he k heo) (I.hok.write mu he k heo new)
theorem Uh.pins_of{pins':List (Addr×Obj)}(I:Uh X ab σ H s)(h:∀p∈pins',s.heap.get? p.1=some p.2/\H p.1=none/\p.1≠X.env.locals/\p.1∉X.fs/\∀v,p.2.data≠.cell v):Uh X pins' σ H s :=
 ⟨I.ok,I.os,I.bare,I.base,I.loc,I.cell,I.free,I.freeC,λp hp=>(YY.mp hp).elim (λz=>I.pin p (Y1 _ z)) (h p),I.hok,I.len⟩
theorem CH{N:List Str}(hN:N.Nodup){i j:Nat}{x:Str}(a:N[i]?=some x)(b:N[j]?=some x):i=j:=by obtain⟨h1,e1⟩:=YA.mp a;obtain⟨h2,e2⟩:=YA.mp b;exact(List.getElem_inj hN).mp (e1.trans e2.symm)
theorem y3{M:Model}{A:Around}{E:Value->Shared->Prop}{i:Nat}{x:Str}{v:V}{u:Value}{Q:Unit->Shared->Prop}(I:Uh X ab σ H s)(hN:X.N.Nodup)(hi:X.N[i]?=some x)(hx:Ug X.env.scope x)(r:cJ v u)
  (h:∀s',Uh X ab (σ.set i (some v)) H s'->(∃a,Heap.SameBut a s.heap s'.heap/\(a=X.env.locals∨X.env.cells.lookup x=some a))->Q () s') (hf:X.fn x=true∨X.env.scope.names.lookup x=some .local:=by first|exact .inl rfl|exact .inr rfl|assumption):wpAny M A (storeName X.env x u) Q E s:=by
 obtain⟨m,hn,hl⟩:=id I.loc;have hcls:(X.env.scope.kind == .class ||(X.env.scope.kind == .module && X.env.locals != X.env.globals))=false:=by rw[I.ok.kind];rfl
 have hiσ:i<σ.length:=by rw[I.len];exact(YA.mp hi).1
 have cne:=I.cne
 have tracked:∀{a:Addr}{h':Heap},(∃o,s.heap.get? a=some o/\H a=none)->Heap.SameBut a s.heap h'->TZ X.prog X.w H h':=λ{a h'} ha hs b ob e=>by
  obtain⟨_,_,hfree⟩:=ha;refine(I.hok b ob e).stay (λc w' hc q=>(hs.2 c ?_).trans q) (λ_ q=>q) (λ_ _ q=>q) λ_ _ _ _ q=>q;rintro rfl;rcases hc with rfl|hc
  . rw[hfree]at e;cases e
  . rw[hfree]at hc;cases hc
 rcases hx with hk|hk
 .
  refine wpAny_storeName_local hk hn (λh' hn' hs=>?_) hcls;obtain⟨oL,_,_,hoL,_⟩:=id hn;refine h _ ⟨I.ok,I.os,I.bare,⟨λb o e n hb hx=>?_,λb o e n hb hx=>?_,I.base.free,λb o e hx=>?_,I.base.tups,I.base.frzs,I.base.tbls⟩,⟨_,hn',λj y v' e1 e2 e3=>?_⟩,λy c e=>?_,I.free,I.freeC,λp hp=>?_,tracked ⟨oL,hoL,I.free⟩ hs,by simpa using I.len⟩ ⟨_,hs,.inl rfl⟩
  . exact(hs.2 b (Zb (so (YM e) I.ok.above))).trans (I.base.keep b o e n hb hx)
  . obtain⟨sl,e1⟩:=I.base.slot b o e n hb hx;exact⟨sl,(hs.2 b (Zb (so (YM e) I.ok.above))).trans e1⟩
  . obtain⟨o',e1⟩:=I.base.there b o e hx;exact⟨o',(hs.2 b (Zb (so (YM e) I.ok.above))).trans e1⟩
  .
   by_cases hj:j=i
   . subst hj;rw[hi]at e1;cases e1;rw[Zq hiσ]at e2;cases e2;exact⟨u,r,.inl ⟨hk,x_⟩⟩
   .
    rw[Zr (Z4 hj)]at e2;obtain⟨u',r',q⟩:=hl j y v' e1 e2 e3;refine⟨u',r',?_⟩;rcases q with⟨k,e⟩|⟨k,c,e,z⟩
    . refine .inl ⟨k,?_⟩;have:y≠x:=λe=>hj (CH hN e1 (e ▸ hi));simp[this,e]
    . exact .inr ⟨k,c,e,z.sameBut hs (cne y c e)⟩
  . obtain⟨w',z⟩:=I.cell y c e;exact⟨w',z.sameBut hs (cne y c e)⟩
  . obtain⟨e,n,ne,nf,d⟩:=I.pin p hp;exact⟨(hs.2 p.1 ne).trans e,n,ne,nf,d⟩
 .
  have hfn:X.fn x=true:=by
   rcases hf with z|z
   . exact z
   . rw[z]at hk;cases hk
  obtain⟨c,hc⟩:=I.ok.has x (.inl hk);obtain⟨w',z⟩:=I.cell x c hc;refine wpAny_storeName_cell I.ok.kind hk hc z (λh' hc' hs=>?_);obtain⟨oc,hoc,hocd⟩:=id z;refine h {s with heap:=h' } ⟨I.ok,I.os,I.bare,⟨λb o e n hb hx=>?_,λb o e n hb hx=>?_,I.base.free,λb o e hx=>?_,I.base.tups,I.base.frzs,I.base.tbls⟩,⟨m,hn.sameBut hs (Z4 (cne x c hc)),λj y v' e1 e2 e3=>?_⟩,λy c' e=>?_,I.free,I.freeC,λp hp=>?_,tracked ⟨oc,hoc,(I.freeC x c hc).resolve_right λz=>by rw[hfn]at z;exact absurd z.1 xp⟩ hs,by simpa using I.len⟩ ⟨c,hs,.inr hc⟩
  . exact(hs.2 b (Zb (so (YM e) (I.ok.cab x c hfn hc)))).trans (I.base.keep b o e n hb hx)
  . obtain⟨sl,e1⟩:=I.base.slot b o e n hb hx;exact⟨sl,(hs.2 b (Zb (so (YM e) (I.ok.cab x c hfn hc)))).trans e1⟩
  . obtain⟨o',e1⟩:=I.base.there b o e hx;exact⟨o',(hs.2 b (Zb (so (YM e) (I.ok.cab x c hfn hc)))).trans e1⟩
  .
   by_cases hj:j=i
   . subst hj;rw[hi]at e1;cases e1;rw[Zq hiσ]at e2;cases e2;exact⟨u,r,.inr ⟨.inl hk,c,hc,hc'⟩⟩
   .
    rw[Zr (Z4 hj)]at e2;obtain⟨u',r',q⟩:=hl j y v' e1 e2 e3;refine⟨u',r',?_⟩;rcases q with q|⟨k,c',e,z'⟩
    . exact .inl q
    . refine .inr ⟨k,c',e,z'.sameBut hs ?_⟩;rintro rfl;exact hj (CH hN e1 (I.ok.inj _ _ _ e hc ▸ hi))
  .
   by_cases hcc:c'=c
   . subst hcc;exact⟨_,hc'⟩
   . obtain⟨w2,z2⟩:=I.cell y c' e;exact⟨w2,z2.sameBut hs hcc⟩
  . obtain⟨e,n,ne,nf,d⟩:=I.pin p hp;refine⟨(hs.2 p.1 ?_).trans e,n,ne,nf,d⟩;intro q;rw[q,hoc]at e;have q':oc=p.2:=Y5 e;exact d w' (by rw[<- q'];exact hocd)
theorem sD{M:Model}{A:Around}{E:Value->Shared->Prop}{i:Nat}{x:Str}{v:V}{u:Value}{Q:Unit->Shared->Prop}(I:Uh X ab σ H s)(hN:X.N.Nodup)(hi:X.N[i]?=some x)(hx:Ug X.env.scope x)(r:cJ v u)
  (h:∀s',Uh X ab (σ.set i (some v)) H s'->Q () s') (hf:X.fn x=true∨X.env.scope.names.lookup x=some .local:=by first|exact .inl rfl|exact .inr rfl|assumption):wpAny M A (storeName X.env x u) Q E s :=
 y3 I hN hi hx r (λs' I' _=>h s' I') hf
theorem Uh.call'{s':Shared}{ch:List Addr}(I:Uh X ab σ H s)(ho:s'.os=s.os)(u:Un (Ud X.stack) ch H H' s.heap s'.heap)(hok:TZ X.prog X.w H' s'.heap)(hg:AllBare s'.gens)
  (hch:∀b∈ch,(b∈X.ex∨X.s₀.heap.objs.size<=b)/\b≠X.env.locals/\(∀x c,X.env.cells.lookup x=some c->c≠b)/\∀p∈X.pn++ab,p.1≠b):Uh X ab σ H' s':=by
 obtain⟨h',g',d',t',o'⟩:=s';have e:o'=s.os:=ho;subst e;exact I.call (g':=g') (t':=t') (d':=d') u hok hg hch
end
noncomputable abbrev XK:=Value->Option Addr->Hp->Prop
noncomputable abbrev St:=List (Option V)
noncomputable abbrev VK:=V->Hp->Prop
abbrev TE:=St->Hp->VK->Prop
noncomputable abbrev TT:=St->Hp->(Bool->Hp->Prop)->Prop
noncomputable abbrev TA:=St->Hp->(List V->Hp->Prop)->Prop
structure OS where
 nx:St->Hp->Prop
 rt:VK
 bk:St->Hp->Prop:=λ_ _=>False
 ct:St->Hp->Prop:=λ_ _=>False
abbrev TS:=OS->St->Hp->Prop
inductive EP (X:Cx) (ab:List (Addr×Obj)) (σ:St) (Q:VK) (u:Value) (s':Shared):Prop
 |mk (v:V) (H':Hp) (i:Uh X ab σ H' s') (r:cJ v u) (q:Q v H')
theorem EP.on{G:Prop}{X:Cx}{ab:List (Addr×Obj)}{σ:St}{Q:VK}{u:Value}{s':Shared}(h:EP X ab σ Q u s')(k:∀v H',Uh X ab σ H' s'->cJ v u->Q v H'->G):G:=by cases h with|mk v H' i r q=>exact k v H' i r q
inductive TP (X:Cx) (ab:List (Addr×Obj)) (σ:St) (Q:Bool->Hp->Prop) (b:Bool) (s':Shared):Prop
 |mk (H':Hp) (i:Uh X ab σ H' s') (q:Q b H')
inductive AP (X:Cx) (ab:List (Addr×Obj)) (σ:St) (Q:List V->Hp->Prop) (us:List Value) (s':Shared):Prop
 |mk (vs:List V) (H':Hp) (i:Uh X ab σ H' s') (r:cC vs us) (q:Q vs H')
inductive Ui (X:Cx) (ab:List (Addr×Obj)) (D:St->Hp->Prop) (s':Shared):Prop
 |mk (σ':St) (H':Hp) (i:Uh X ab σ' H' s') (q:D σ' H')
inductive Uj (X:Cx) (ab:List (Addr×Obj)) (D:VK) (u:Value) (s':Shared):Prop
 |mk (v:V) (σ':St) (H':Hp) (i:Uh X ab σ' H' s') (r:cJ v u) (q:D v H')
def SP(X:Cx)(ab:List (Addr×Obj))(D:OS)(f:Flow)(s':Shared):Prop :=
 match f with
 |.next=>Ui X ab D.nx s'
 |.brk=>Ui X ab D.bk s'
 |.cont=>Ui X ab D.ct s'
 |.ret u=>Uj X ab D.rt u s'
def PE(X:Cx)(e:Expr)(t:TE):Prop :=
 ∀(ab:List (Addr×Obj))(s:Shared)(σ:St)(H:Hp)(Q:VK),Uh X ab σ H s->t σ H Q->wpAny (model X.prog X.w) X.A (eval e X.env) (EP X ab σ Q) X.xe s
def PT(X:Cx)(e:Expr)(t:TT):Prop :=
 ∀(ab:List (Addr×Obj))(s:Shared)(σ:St)(H:Hp)(Q:Bool->Hp->Prop),Uh X ab σ H s->t σ H Q->wpAny (model X.prog X.w) X.A (isTrue e X.env (eval e X.env)) (TP X ab σ Q) X.xe s
def PA(X:Cx)(es:List Expr)(t:TA):Prop :=
 ∀(pos:Pos)(ab:List (Addr×Obj))(s:Shared)(σ:St)(H:Hp)(Q:List V->Hp->Prop),Uh X ab σ H s->t σ H Q->wpAny (model X.prog X.w) X.A (spliced (backTo pos (starEach es X.env))) (AP X ab σ Q) X.xe s
def PS(X:Cx)(st:Stmt)(t:TS):Prop :=
 ∀(ab:List (Addr×Obj))(s:Shared)(σ:St)(H:Hp)(D:OS),Uh X ab σ H s->t D σ H->wpAny (model X.prog X.w) X.A (exec st X.env) (SP X ab D) X.xe s
def Uk(X:Cx)(st:List Stmt)(t:TS):Prop :=
 ∀(ab:List (Addr×Obj))(s:Shared)(σ:St)(H:Hp)(D:OS),Uh X ab σ H s->t D σ H->wpAny (model X.prog X.w) X.A (execs st X.env) (SP X ab D) X.xe s
theorem Ul{α:Type}{t:Sem α}{Q Q':α->Shared->Prop}{M:Model}{A:Around}{E:Value->Shared->Prop}{s:Shared}(h:wpAny M A t Q E s)(hQ:∀a s,Q a s->Q' a s):wpAny M A t Q' E s:=aaz h hQ λ_ _ x=>x
section
variable{X:Cx}
theorem Um{a b:Expr}{ta tb:TE}(ha:PE X a ta)(hb:PE X b tb){ab:List (Addr×Obj)}{s:Shared}{σ:St}{H:Hp}{R:V->V->Hp->Prop}(I:Uh X ab σ H s)(h:ta σ H λx H1=>tb σ H1 λy H2=>R x y H2)
  {α:Type} {Q:α->Shared->Prop} {f:Value->Value->Sem α}
  (hf:∀v u s2 x y H2,Uh X ab σ H2 s2->cJ x v->cJ y u->R x y H2->wpAny (model X.prog X.w) X.A (f v u) Q X.xe s2) :
  wpAny (model X.prog X.w) X.A (eval a X.env) (λv s₁=>wpAny (model X.prog X.w) X.A (eval b X.env) (λu s₂=>wpAny (model X.prog X.w) X.A (f v u) Q X.xe s₂) X.xe s₁) X.xe s:=by
 refine Ul (ha ab s σ H _ I h) λv s1 ⟨x,H1,I1,r1,q1⟩=>?_;refine Ul (hb ab s1 σ H1 _ I1 q1) λu s2 ⟨y,H2,I2,r2,q2⟩=>?_;exact hf v u s2 x y H2 I2 r1 r2 q2
def SW(i:Nat):TE:=λσ H Q=>∃v,σ[i]?=some (some v)/\Q v H
def tC(v:V):TE:=λ_ H Q=>Q v H
theorem jY{i:Nat}{x:Str}{pos:Pos}(hN:X.N[i]?=some x)(hv:Ue X.env.scope x) (hd:adf x:=by decide) (hcd:adg x:=by decide):PE X (.Name x pos) (SW i):=by
 intro ab s σ H Q I h;obtain⟨v,e,h⟩:=h;obtain⟨m,hn,hl⟩:=I.loc;obtain⟨u,r,l⟩:=hl i x v hN e hv;have Uo:EP X ab σ Q u s:=⟨v,H,I,r,h⟩;rcases l with⟨hk,hm⟩|⟨hk,c,hc,hcell⟩
 . exact wpAny_Name (wpAny_loadName_local I.ok.kind hk hn hm Uo) hd
 .
  rcases hk with hk|hk
  . exact wpAny_Name (wpAny_loadName_cell I.ok.kind hk hc hcell Uo) hd
  . exact wpAny_Name (wpAny_loadName_free I.ok.kind hk hc hcell Uo hcd) hd
theorem O4 {i j pos}:PE X (.Constant (.int i) j pos) (tC (.int i)):=λ_ _ _ H _ I h=>wpAny_Constant_int ⟨.int i,H,I.tok _,⟨_,rfl⟩,h⟩
theorem Rg {b j pos}:PE X (.Constant (.bool b) j pos) (tC (.bl b)):=λ_ _ _ H _ I h=>Constant_bool ⟨.bl b,H,I,rfl,h⟩
theorem O5 {j pos}:PE X (.Constant .none j pos) (tC .non):=λ_ _ _ H _ I h=>Constant_none ⟨.non,H,I,rfl,h⟩
theorem Ly {x j pos}:PE X (.Constant (.str x) j pos) (tC (.str x)):=λ_ _ _ H _ I h=>Calls.Constant_str ⟨.str x,H,I.tok _,⟨_,rfl⟩,h⟩
def Gl(X:Cx)(x:Str):Prop:=X.env.kindOf x=some .globalImplicit
theorem A4{E:Value->Shared->Prop}{ab:List (Addr×Obj)}{s:Shared}{σ:St}{H:Hp}{x:Str}{u:Value}{pos:Pos}{Q:Value->Shared->Prop}(I:Uh X ab σ H s)(hg:Gl X x)(hm:X.mg x=some u)(h:Q u s)
  (hd:adf x:=by decide):wpAny (model X.prog X.w) X.A (eval (.Name x pos) X.env) Q E s :=
 Calls.Name_function_global I.ok.kind hg (Calls.loadGlobal_global (by rw[I.ok.glob];exact I.mod.glob.keeps I.bk) hm h) hd
theorem oB{E:Value->Shared->Prop}{ab:List (Addr×Obj)}{s:Shared}{σ:St}{H:Hp}{x:Str}{u:Value}{pos:Pos}{Q:Value->Shared->Prop}(I:Uh X ab σ H s)(hg:Gl X x)(hm:X.mg x=none)(hv:bootBuiltins x=some u)(h:Q u s)
  (hn:x≠"__name__":=by decide) (hd:adf x:=by decide):wpAny (model X.prog X.w) X.A (eval (.Name x pos) X.env) Q E s:=by
 obtain⟨mb,h1,h2⟩:=I.mod.blt;exact Calls.Name_function_global I.ok.kind hg (Calls.loadGlobal_builtin (by rw[I.ok.glob];exact I.mod.glob.keeps I.bk) hm (by rw[I.ok.blt];exact h1.keeps I.bk) ((h2 x hn).trans hv) h) hd
theorem Mx{x:Str}{v:V}{u:Value}{pos:Pos}(hg:Gl X x)(hm:X.mg x=some u)(r:cJ v u) (hd:adf x:=by decide):PE X (.Name x pos) (tC v) :=
 λ_ _ _ H _ I h=>A4 I hg hm ⟨v,H,I,r,h⟩ hd
theorem Mz{x:Str}{v:V}{u:Value}{pos:Pos}(hg:Gl X x)(hm:X.mg x=none)(hv:bootBuiltins x=some u)(r:cJ v u) (hn:x≠"__name__":=by decide) (hd:adf x:=by decide):PE X (.Name x pos) (tC v) :=
 λ_ _ _ H _ I h=>oB I hg hm hv ⟨v,H,I,r,h⟩ hn hd
variable{a b:Expr}{ta tb:TE}{pos:Pos}
noncomputable def tB(t:TE):TT:=λσ H Q=>t σ H λx H1=>∃c,x=.bl c/\Q c H1
end
def Up(K:W.Frag)(H:Hp)(a:Addr)(xs:List V):Prop :=
 Rd H a (.lst xs) ∨
  ∃(o:Obj)(its:Array Value)(n:Nat),K.lookup a=some o/\o.cls=.type "list"/\o.dict=none/\o.data=.seq its n/\its.size<=sizeLine/\cC xs its.toList
def Uq(K:W.Frag)(H:Hp)(a:Addr)(xs:List V):Prop :=
 Rd H a (.tup xs) ∨
  ∃(o:Obj)(its:Array Value)(n:Nat),K.lookup a=some o/\o.cls=.type "tuple"/\o.data=.seq its n/\its.size<=sizeLine/\cC xs its.toList
noncomputable def SX:Value->Option V
 |.none=>some .non
 |.bool b=>some (.bl b)
 |.int i _=>some (.int i)
 |.str x _=>some (.str x)
 |.bytes b _=>some (.byt b)
 |.float b _=>some (.flt b)
 |.ref a=>some (.ref a)
 |.type n=>some (.ty n)
 |_=>none
theorem cJ.abs{x:V}{u:Value}(r:cJ x u):SX u=some x:=by
 cases x with
 |non=>cases r;rfl
 |bl _=>cases r;rfl
 |int _=>obtain⟨t,rfl⟩:=r;rfl
 |str _=>obtain⟨t,rfl⟩:=r;rfl
 |byt _=>obtain⟨t,rfl⟩:=r;rfl
 |flt _=>obtain⟨t,rfl⟩:=r;rfl
 |ref _=>cases r;rfl
 |ty _=>cases r;rfl
theorem cJ.inj{x y:V}{u:Value}(r:cJ x u)(q:cJ y u):x=y:=Y5 (r.abs.symm.trans q.abs)
theorem cC.inj:∀{xs ys:List V}{us:List Value},cC xs us->cC ys us->xs=ys
 |_,_,_,.nil,.nil=>rfl
 |_,_,_,.cons r t,.cons r' t'=>by rw[r.inj r',cC.inj t t']
section
variable{X:Cx}{ab:List (Addr×Obj)}{σ:St}{H:Hp}{s:Shared}{a:Addr}{xs ys:List V}
theorem Up.of{K:W.Frag}(h:H a=some (.lst xs)):Up K H a xs:=.inl (.inl h)
theorem Uq.of{K:W.Frag}(h:H a=some (.tup xs)):Uq K H a xs:=.inl (.inl h)
theorem Uh.list(I:Uh X ab σ H s)(h:Up X.K H a xs):∃its:List Value,cC xs its/\PlainL s.heap a its.toArray/\xs.length<=sizeLine:=by
 rcases h with h|⟨o,its,n,hk,hc,hd,hs,hz,r⟩
 . obtain⟨z,its,n,r,e⟩:=h.ok I.hok;exact⟨its,r,⟨_,n,e,rfl,rfl,rfl⟩,z⟩
 . refine⟨its.toList,r,⟨o,n,I.kIn a o hk,hc,hd,by simpa using hs⟩,?_⟩;have e:=r.length;simp only[Array.length_toList]at e;omega
theorem Uh.tuple(I:Uh X ab σ H s)(h:Uq X.K H a xs):∃its:List Value,cC xs its/\IsTup s.heap a its.toArray/\xs.length<=sizeLine:=by
 rcases h with h|⟨o,its,n,hk,hc,hs,hz,r⟩
 . obtain⟨z,its,r,p⟩:=h.ok I.hok;exact⟨its,r,p,z⟩
 . refine⟨its.toList,r,⟨o,I.kIn a o hk,hc,n,by simpa using hs⟩,?_⟩;have e:=r.length;simp only[Array.length_toList]at e;omega
theorem Uh.list_inj(I:Uh X ab σ H s)(h:Up X.K H a xs)(h':Up X.K H a ys):xs=ys:=by
 obtain⟨its,r,⟨o,n,e,_,_,d⟩,_⟩:=I.list h;obtain⟨its',r',⟨o',n',e',_,_,d'⟩,_⟩:=I.list h';rw[e]at e';cases e';rw[d]at d';injection d' with d1 _;have:its=its':=by simpa using congrArg Array.toList d1
 subst this;exact r.inj r'
theorem Uh.tuple_inj(I:Uh X ab σ H s)(h:Uq X.K H a xs)(h':Uq X.K H a ys):xs=ys:=by
 obtain⟨its,r,⟨o,e,_,n,d⟩,_⟩:=I.tuple h;obtain⟨its',r',⟨o',e',_,n',d'⟩,_⟩:=I.tuple h';rw[e]at e';cases e';rw[d]at d';injection d' with d1 _;have:its=its':=by simpa using congrArg Array.toList d1
 subst this;exact r.inj r'
end
noncomputable abbrev Cx.wish(X:Cx)(E:Value->Shared->Prop):Cx:={X with xe:=E}
noncomputable abbrev Cx.nox(X:Cx):Cx:=X.wish λ_ _=>False
theorem Cx.Ok.wish{X:Cx}(ok:X.Ok)(E:Value->Shared->Prop):(X.wish E).Ok :=
 ⟨ok.mod,ok.kind,ok.glob,ok.blt,ok.above,ok.inj,ok.has,ok.cab,ok.hd,ok.frames,ok.stk,ok.exf,ok.bs,ok.bsz,ok.noex,ok.exfs,ok.funs,ok.frf,ok.tbs⟩
theorem Cx.Ok.unwish{X:Cx}{E:Value->Shared->Prop}(ok:(X.wish E).Ok):X.Ok :=
 ⟨ok.mod,ok.kind,ok.glob,ok.blt,ok.above,ok.inj,ok.has,ok.cab,ok.hd,ok.frames,ok.stk,ok.exf,ok.bs,ok.bsz,ok.noex,ok.exfs,ok.funs,ok.frf,ok.tbs⟩
section
variable{X:Cx}{ab:List (Addr×Obj)}{σ:St}{H:Hp}{s:Shared}{E:Value->Shared->Prop}
theorem Uh.wish(I:Uh X ab σ H s)(E:Value->Shared->Prop):Uh (X.wish E) ab σ H s:=⟨I.ok.wish E,I.os,I.bare,I.base,I.loc,I.cell,I.free,I.freeC,I.pin,I.hok,I.len⟩
theorem Uh.unwish(I:Uh (X.wish E) ab σ H s):Uh X ab σ H s:=⟨I.ok.unwish,I.os,I.bare,I.base,I.loc,I.cell,I.free,I.freeC,I.pin,I.hok,I.len⟩
theorem SP.unwish{D:OS}{f:Flow}{s':Shared}(h:SP (X.wish E) ab D f s'):SP X ab D f s':=by
 cases f with
 |next=>obtain⟨σ',H',I,q⟩:=h;exact⟨σ',H',I.unwish,q⟩
 |brk=>obtain⟨σ',H',I,q⟩:=h;exact⟨σ',H',I.unwish,q⟩
 |cont=>obtain⟨σ',H',I,q⟩:=h;exact⟨σ',H',I.unwish,q⟩
 |ret u=>obtain⟨v,σ',H',I,r,q⟩:=h;exact⟨v,σ',H',I.unwish,r,q⟩
theorem Uk.nox{st:List Stmt}{t:TS}(h:Uk X.nox st t):Uk X st t:=λab s σ H D I hw =>
 aaz (h ab s σ H D (I.wish _) hw) (λ_ _ q=>q.unwish) λ_ _ z=>False.elim z
end
section
variable{X:Cx}
theorem Uh.quiet{ab:List (Addr×Obj)}{σ:St}{H:Hp}{s:Shared}(I:Uh X ab σ H s):interactive X.env=false:=by simp[interactive,I.ok.kind]
end
noncomputable abbrev TG:=V->St->Hp->(St->Hp->Prop)->Prop
noncomputable abbrev Ur:=List V->St->Hp->(St->Hp->Prop)->Prop
def PG(X:Cx)(target:Expr)(t:TG):Prop :=
 ∀(ab:List (Addr×Obj))(s:Shared)(σ:St)(H:Hp)(v:V)(u:Value)(Q:St->Hp->Prop),Uh X ab σ H s->cJ v u->t v σ H Q ->
  wpAny (model X.prog X.w) X.A (assign target X.env u) (λ_ s'=>∃σ' H',Uh X ab σ' H' s'/\Q σ' H') X.xe s
def Us(X:Cx)(ts:List Expr)(t:Ur):Prop :=
 ∀(ab:List (Addr×Obj))(s:Shared)(σ:St)(H:Hp)(vs:List V)(us:List Value)(Q:St->Hp->Prop),Uh X ab σ H s->cC vs us->t vs σ H Q ->
  wpAny (model X.prog X.w) X.A (assignInOrder ((assignEach ts X.env).map (·.2)) us) (λ_ s'=>∃σ' H',Uh X ab σ' H' s'/\Q σ' H') X.xe s
noncomputable abbrev Rh:=V->V->V->Hp->(Hp->Prop)->Prop
def Ss(X:Cx)(t:Rh):Prop :=
 ∀(ab:List (Addr×Obj))(s:Shared)(σ:St)(H:Hp)(o i v:V)(ov iv u:Value)(Q:Hp->Prop),Uh X ab σ H s->cJ o ov->cJ i iv->cJ v u->t o i v H Q ->
  wpAny (model X.prog X.w) X.A (setItem ov iv u) (λ_ s'=>∃H',Uh X ab σ H' s'/\Q H') X.xe s
section
variable{X:Cx}{pos:Pos}
noncomputable def Ri(i:Nat):TG:=λv σ H Q=>Q (σ.set i (some v)) H
theorem w5{i:Nat}{x:Str}(hN:X.N.Nodup)(hi:X.N[i]?=some x)(hx:Ug X.env.scope x)(hf:X.fn x=true∨X.env.scope.names.lookup x=some .local:=by first|exact .inl rfl|exact .inr rfl|assumption):PG X (.Name x pos) (Ri i):=by intro ab s σ H v u Q I r h;exact wpAny_assign_Name (sD I hN hi hx r (λs' I'=>⟨_,H,I',h⟩) hf)
noncomputable def SY:Ur:=λvs σ H Q=>vs=[]/\Q σ H
noncomputable def Rj(t:TG)(u:Ur):Ur:=λvs σ H Q=>∃v r,vs=v::r/\t v σ H λσ' H'=>u r σ' H' Q
theorem Fx:Us X [] SY:=by intro ab s σ H vs us Q I r h;obtain⟨e,h⟩:=h;subst e;cases r;exact assignInOrder_nil ⟨σ,H,I,h⟩
theorem CI{e:Expr}{es:List Expr}{t:TG}{u:Ur}(h1:PG X e t)(h2:Us X es u)
  (hs:(assignEach (e::es) X.env).map (·.2)=assign e X.env::(assignEach es X.env).map (·.2):=by rfl):Us X (e::es) (Rj t u):=by
 intro ab s σ H vs us Q I r h;obtain⟨v,vr,e1,h⟩:=h;subst e1
 cases r with
 | cons r rr =>
  rw[hs];refine assignInOrder_cons (Ul (h1 ab s σ H _ _ _ I r h) λ_ s1 ⟨σ1,H1,I1,q1⟩=>?_);exact h2 ab s1 σ1 H1 _ _ Q I1 rr q1
noncomputable def SZ(K:W.Frag)(n:Nat)(t:Ur):TG:=λv σ H Q=>∃a xs,v=.ref a/\Uq K H a xs/\xs.length=n/\t xs σ H Q
theorem Lz{es:List Expr}{k:Nat}{t:Ur}{n:Nat}(hc:X.calm=true)(h:Us X es t)
  (hn:(assignEach es X.env).length=n:=by rfl) (hst:(assignEach es X.env).findIdx? (·.1)=none:=by rfl):PG X (.Tuple es k pos) (SZ X.K n t):=by
 intro ab s σ H v u Q I r hw;obtain⟨a,xs,e1,hq,hl,hw⟩:=hw;subst e1;cases r;obtain⟨its,rv,ht,hz⟩:=I.tuple hq;refine assign_Tuple_tuple (I.ok.hd hc) ht (by simp[hn,<- hl,rv.length]) hst λh' hx=>?_;have I1:Uh X ab σ H {s with heap:=h' }:=I.kept (t':=s.toks) λb o e=>hx b o (Zb (YM e)) e;exact h ab _ σ H xs _ Q I1 (by simpa using rv) hw
noncomputable def Ta(to ti:TE)(t:Rh):TG:=λv σ H Q=>to σ H λo H1=>ti σ H1 λi H2=>t o i v H2 λH3=>Q σ H3
theorem O6{o i:Expr}{to ti:TE}{t:Rh}(ho:PE X o to)(hi:PE X i ti)(hs:Ss X t)
  (ha:∀v,assign (.Subscript o i pos) X.env v=(do
   let ov <- holding [v] (eval o X.env)
   let iv <- holding [v,ov] (eval i X.env)
   standAt pos
   holding [v,ov,iv] (setItem ov iv v)
   release [v,ov,iv] []):=by intro _;rfl):PG X (.Subscript o i pos) (Ta to ti t):=by
 intro ab s σ H v u Q I r h;rw[ha];refine YE (ZQ (Ul (ho ab s σ H _ I h) λov s1 ⟨x,H1,I1,r1,q1⟩=>?_));refine YE (ZQ (Ul (hi ab s1 σ H1 _ I1 q1) λiv s2 ⟨y,H2,I2,r2,q2⟩=>?_));refine YE (aaY (YE (ZQ (Ul (hs ab s2 σ H2 x y v ov iv u _ I2 r1 r2 r q2) λ_ s3 ⟨H3,I3,q3⟩=>?_))));exact wpAny_release ⟨σ,H3,I3,q3⟩
def Tb(te:TE)(g:TG):TS:=λD σ H=>te σ H λx H1=>g x σ H1 D.nx
theorem O7{tg e:Expr}{te:TE}{g:TG}(he:PE X e te)(hg:PG X tg g)(hs:swapsWithSole [tg] e pos.line X.env=pure false:=by rfl)(hw:swappedStores [tg] e X.env=pure none:=by rfl)
  (h1:(assignEach [tg] X.env).map (·.2)=[assign tg X.env]:=by rfl):PS X (.Assign [tg] e pos) (Tb te g):=by
 intro ab s σ H D I h;refine wpAny_Assign_stores (Ul (he ab s σ H _ I h) λv s1 ⟨x,H1,I1,r1,q1⟩=>?_) hs hw;rw[h1];exact Ul (hg ab s1 σ H1 x v _ I1 r1 q1) λ_ s2 ⟨_,_,a,b⟩=>⟨_,_,a,b⟩
def Tc(i j:Nat)(ta:TA):TS:=λD σ H=>ta σ H λvs H1=>∃v w,vs=[v,w]/\D.nx ((σ.set i (some v)).set j (some w)) H1
theorem O8{i j:Nat}{x y:Str}{a b:Expr}{ta:TA}{px py pt:Pos} {kt k2 pt2} (hc:X.calm=true) (hN:X.N.Nodup) (hi:X.N[i]?=some x) (hj:X.N[j]?=some y) (hij:i≠j)
  (hx:X.env.scope.names.lookup x=some .local) (hy:X.env.scope.names.lookup y=some .local) (ha:PA X [a,b] ta)
  (hw:swappedStores [.Tuple [.Name x px,.Name y py] kt pt] (.Tuple [a,b] k2 pt2) X.env=pure (some [x,y]))
  (hs:swapsWithSole [.Tuple [.Name x px,.Name y py] kt pt] (.Tuple [a,b] k2 pt2) pos.line X.env=pure false:=by rfl) :
  PS X (.Assign [.Tuple [.Name x px,.Name y py] kt pt] (.Tuple [a,b] k2 pt2) pos) (Tc i j ta):=by
 intro ab s σ H D I h;rw[exec_Assign_arm];refine YE (aaY ?_);rw[hs];refine YE (YX ?_);rw[if_neg (by decide)];refine YE (Tuple_ (Ul (ha _ ab s σ H _ I h) λus s1 ⟨vs,H1,I1,r1,q1⟩=>?_));obtain⟨v,w,e1,q1⟩:=q1;subst e1
 obtain⟨u1,u2,rfl,rv,rw'⟩:∃u1 u2,us=[u1,u2]/\cJ v u1/\cJ w u2:=by
  cases r1 with
  | cons p q =>
   cases q with
   | cons p' q' =>
    cases q';exact⟨_,_,rfl,p,p'⟩
 refine aaV ?_ (by show 2<=sizeLine;decide);have I2:Uh X ab σ H1 {s1 with heap:=s1.heap.push {cls:=.type "tuple",data:=.seq [u1,u2].toArray} }:=I1.kept (t':=s1.toks) λb o e=>YG _ e;rw[hw];refine YE (YX ?_)
 show wpAny (model X.prog X.w) X.A (do rule "assign.swapped-stores"; let items <- unpackItems (.ref s1.heap.objs.size) 2 none; assignInOrder [λv=>bindName X.env y v,λv=>bindName X.env x v] items.reverse; pure Flow.next) _ _ _
 refine YE (wpAny_rule (YE (unpackItems_tuple (items:=#[u1,u2]) (I.ok.hd hc) (IsTup.new s1.heap _) λh' hx'=>?_)));have I3:=I2.kept (h':=h') (t':=s1.toks) λb o e=>hx' b o (Zb (YM e)) e
 show wpAny _ _ (assignInOrder [λv=>bindName X.env y v,λv=>bindName X.env x v] [u2,u1] >>= λ_=>pure Flow.next) _ _ _
 refine YE (assignInOrder_cons (wpAny_bindName (sD I3 hN hj (.inl hy) rw' (λs2 I4=>?_) (.inr hy))));refine assignInOrder_cons (wpAny_bindName (sD I4 hN hi (.inl hx) rv (λs3 I5=>assignInOrder_nil (YX ?_)) (.inr hx)));rw[List.set_comm _ _ (Z4 hij)]at I5;exact⟨_,H1,I5,q1⟩
end
section
variable{X:Cx}{pos:Pos}
def O9(c:TT)(tb:TS):TS:=λD σ H=>∃W:Nat->St->Hp->Prop,(∃m,W m σ H)/\∀m σ H,W m σ H ->
 c σ H λb H1=>if b=true then ∃N:St->Hp->Prop,(∀σ' H',N σ' H'->∃m',m' < m/\W m' σ' H')/\tb {D with nx:=N,ct:=N,bk:=D.nx} σ H1 else D.nx σ H1
theorem Jr{c:Expr}{body:List Stmt}{tc:TT}{tb:TS}(hp:PassesOwn (model X.prog X.w) X.A X.env X.xe)(hc:PT X c tc)(hb:Uk X body tb):PS X (.While c body [] pos) (O9 tc tb):=by
 intro ab s σ H D I h;obtain⟨W,⟨m0,w0⟩,turn⟩:=h;refine wpAny_While (codeAny_whileLoop (λn s'=>∃σ' H',Uh X ab σ' H' s'/\W n σ' H') ?_ m0 ⟨σ,H,I,w0⟩);rintro n s1 ⟨σ1,H1,I1,w1⟩;refine aaP hp (Ul (hc ab s1 σ1 H1 _ I1 (turn n σ1 H1 w1)) λb s2 ⟨H2,I2,q2⟩=>?_)
 cases b with
 | true =>
  obtain⟨N,hN,q2⟩:=q2;rw[if_pos rfl];refine aaP hp (Ul (hb ab s2 σ1 H2 _ I2 q2) λf s3 q3=>?_)
  cases f with
  | next =>
   obtain⟨σ3,H3,I3,n3⟩:=q3;obtain⟨m',hm,w3⟩:=hN σ3 H3 n3;exact⟨m',hm,σ3,H3,I3,w3⟩
  | cont =>
   obtain⟨σ3,H3,I3,n3⟩:=q3;obtain⟨m',hm,w3⟩:=hN σ3 H3 n3;exact⟨m',hm,σ3,H3,I3,w3⟩
  |brk=>exact q3
  |ret v=>exact q3
 | false =>
  rw[if_neg ZC];exact wpAny_execs_nil ⟨σ1,H2,I2,q2⟩
end
structure It where
 go:Nat->Hp->Prop
 yld:Nat->Hp->V->Hp->Prop
 stop:Nat->Hp->Prop
def Fy(X:Cx)(ab:List (Addr×Obj))(H:Hp)(b:Addr):Prop :=
 H b=none/\b≠X.env.locals/\b∉X.fs/\(b∈X.ex∨X.s₀.heap.objs.size<=b)/\(∀x c,X.env.cells.lookup x=some c->c≠b)/\∀p∈X.pn++ab,p.1≠b
theorem Uh.fpOk{X:Cx}{ab:List (Addr×Obj)}{σ:St}{H H':Hp}{s:Shared}{b:Addr}(I:Uh X ab σ H s)(hb:s.heap.objs.size<=b)(hn:H' b=none):Fy X ab H' b:=by
 refine⟨hn,Nat.ne_of_gt (so I.lt hb),I.nofs hb,.inr (YH I.sz hb),λx c e z=>?_,λp hp z=>?_⟩
 . obtain⟨v,q⟩:=I.cell x c e;exact absurd (so q.lt (by rw[z];exact hb)) (aaG _)
 . exact absurd (so (YM (I.pin p hp).1) (by rw[z];exact hb)) (aaG _)
structure MA (P:Program) (w:World) (K:W.Frag) (tg:Expr) (J:It) (fp:List Addr) (it:Addr) (tn:Nat->Heap->Prop):Prop where
 mem:it∈fp
 obj:∀i h,tn i h->∀b∈fp,∃o,h.get? b=some o/\∀v,o.data≠.cell v
 keep:∀i h h',tn i h->(∀b∈fp,∀o,h.get? b=some o->h'.get? b=some o)->tn i h'
 item:∀(X:Cx),X.prog=P->X.w=w->X.K=K->X.calm=true->∀(i:Nat)(ab:List (Addr×Obj))(s:Shared)(σ:St)(H:Hp)(E:Value->Shared->Prop),Uh X ab σ H s->(∀b∈fp,Fy X ab H b)->tn i s.heap->J.go i H ->
  wpAny (model P w) X.A (pyNext (.ref it)) (λr s1=>∃u,r=some u /\
   wpAny (model P w) X.A (letOwnedTupleGo tg (.ref it) u) (λ_ s2=>∃x H',Uh X ab σ H' s2/\cJ x u/\J.yld i H x H'/\tn (i+1) s2.heap/\∀b∈fp,H' b=none) E s1) E s
 done:∀(X:Cx),X.prog=P->X.w=w->X.K=K->X.calm=true->∀(i:Nat)(ab:List (Addr×Obj))(s:Shared)(σ:St)(H:Hp)(E:Value->Shared->Prop),Uh X ab σ H s->(∀b∈fp,Fy X ab H b)->tn i s.heap->J.stop i H ->
  wpAny (model P w) X.A (pyNext (.ref it)) (λr s1=>r=none/\Uh X ab σ H s1) E s
 self:∀(A:Around)(i:Nat)(s:Shared)(Q:Value->Shared->Prop)(E:Value->Shared->Prop),tn i s.heap->Q (.ref it) s->wpAny (model P w) A (pyIter (.ref it)) Q E s
noncomputable abbrev TI:=St->Hp->(It->Hp->Prop)->Prop
inductive Ut (X:Cx) (ab:List (Addr×Obj)) (σ:St) (tg:Expr) (R:It->Hp->Prop) (itv:Value) (s2:Shared):Prop
 |mk (it:Addr) (fp:List Addr) (tn:Nat->Heap->Prop) (J:It) (H':Hp) (hv:itv=.ref it) (i:Uh X ab σ H' s2) (t:MA X.prog X.w X.K tg J fp it tn) (h0:tn 0 s2.heap) (hf:∀b∈fp,Fy X ab H' b) (q:R J H')
def PI(X:Cx)(tg iter:Expr)(wi:TI):Prop :=
 ∀(ab:List (Addr×Obj))(s:Shared)(σ:St)(H:Hp)(R:It->Hp->Prop),Uh X ab σ H s->wi σ H R ->
  wpAny (model X.prog X.w) X.A (eval iter X.env) (λv s1=>wpAny (model X.prog X.w) X.A (pyIter v) (Ut X ab σ tg R) X.xe s1) X.xe s
theorem MB {M : Model} {A : Around} {E : Value → Shared → Prop} {s : Shared} {tg : Expr} {it : Addr} {u : Value} {o : Obj} {n : String} {vs : Array Value} {Q : Unit → Shared → Prop} (ho : s.heap.get? it = some o) (hc : o.cls = .type n) (hd : o.data = .fields vs)
    (hn : ["enumerate", "zip", "dict_itemiterator", "dict_reverseitemiterator", "odict_iterator", "itertools.zip_longest", "itertools.pairwise"].contains n = false) (hQ : Q () s) : wpAny M A (letOwnedTupleGo tg (.ref it) u) Q E s := by
  unfold letOwnedTupleGo
  cases tg<;>first
    |exact YX hQ
    | (cases u<;>first
        |exact YX hQ
        | (refine YE (wpAny_load ho ?_)
           rw[hc, hd]
           show wpAny M A (if(["enumerate", "zip", "dict_itemiterator", "dict_reverseitemiterator", "odict_iterator", "itertools.zip_longest", "itertools.pairwise"].contains n && vs[0]? == some (rawInt _)) = true then _ else _) Q E s
           rw[if_neg (by intro h;rw[hn, Bool.false_and]at h;cases h)]
           exact YX hQ))
noncomputable def Uu(K:W.Frag)(a:Addr):It :=
 ⟨λi H=>∃xs x,Up K H a xs/\xs[i]?=some x,λi H x H'=>H'=H/\∀xs,Up K H a xs->xs[i]?=some x,λi H=>∃xs,Up K H a xs/\xs.length<=i⟩
noncomputable def Uv(K:W.Frag)(a:Addr):It :=
 ⟨λi H=>∃xs x,Uq K H a xs/\xs[i]?=some x,λi H x H'=>H'=H/\∀xs,Uq K H a xs->xs[i]?=some x,λi H=>∃xs,Uq K H a xs/\xs.length<=i⟩
noncomputable def Uw(lo:Int)(n:Nat):It:=⟨λi _=>i<n,λi H x H'=>H'=H/\x=.int (lo+i),λi _=>n<=i⟩
theorem Fz{P:Program}{w:World}{K:W.Frag}{tg:Expr}(a it:Addr):MA P w K tg (Uu K a) [it] it (λi h=>h.IsListIter it a i) where
 mem:=by simp
 obj:=λi h st b hb=>by
  have e:b=it:=by simpa using hb
  subst e;obtain⟨o,e,c,d⟩:=st;exact⟨o,e,λv z=>by rw[d]at z;cases z⟩
 keep:=λi h h' st k=>st.at λo e=>k it x_ o e
 item:=by intro X hP hw hK hc i ab s σ H E I hf st hg;subst hP hw hK;obtain⟨xs,x,hq,hx⟩:=hg;obtain⟨its,rv,p,hz⟩:=I.list hq;obtain⟨u,hu,ru⟩:=rv.get hx;obtain⟨f0,f1,f2,f3,f4,f5⟩:=hf it x_;refine wpAny_pyNext_list_item st p.isList (x:=u) (by simpa using hu) λh' st' sb=>?_;have I1:Uh X ab σ H {s with heap:=h' }:=I.turned (t':=s.toks) (λb o hb e=>(sb.2 b hb).trans e) f0 f1 f3 f4 f5;obtain⟨o,e,c,d⟩:=id st';exact⟨u,rfl,MB (s:={s with heap:=h' }) e c d xp ⟨x,H,I1,ru,⟨rfl,λys hy=>by rw[I.list_inj hy hq];exact hx⟩,st',λb hb=>(hf b hb).1⟩⟩
 done:=by intro X hP hw hK hc i ab s σ H E I hf st hg;subst hP hw hK;obtain⟨xs,hq,hx⟩:=hg;obtain⟨its,rv,p,hz⟩:=I.list hq;obtain⟨f0,f1,f2,f3,f4,f5⟩:=hf it x_;have hl:=rv.length;exact wpAny_pyNext_list_end (I.ok.hd hc) st p.isList (by simp;omega) λh' eb=>⟨rfl,I.turned (t':=s.toks) (λb o hb e=>eb b o hb e) f0 f1 f3 f4 f5⟩
 self:=λ_ _ _ _ _ st h=>wpAny_pyIter_listiter st h
theorem D1{P:Program}{w:World}{K:W.Frag}{tg:Expr}(a it:Addr):MA P w K tg (Uv K a) [it] it (λi h=>h.IsTupleIter it a i) where
 mem:=by simp
 obj:=λi h st b hb=>by
  have e:b=it:=by simpa using hb
  subst e;obtain⟨o,e,c,d⟩:=st;exact⟨o,e,λv z=>by rw[d]at z;cases z⟩
 keep:=λi h h' st k=>st.at λo e=>k it x_ o e
 item:=by intro X hP hw hK hc i ab s σ H E I hf st hg;subst hP hw hK;obtain⟨xs,x,hq,hx⟩:=hg;obtain⟨its,rv,p,hz⟩:=I.tuple hq;obtain⟨u,hu,ru⟩:=rv.get hx;obtain⟨f0,f1,f2,f3,f4,f5⟩:=hf it x_;refine wpAny_pyNext_tuple_item st (show s.heap.IsTuple a its.toArray from p) (x:=u) (by simpa using hu) λh' st' sb=>?_;have I1:Uh X ab σ H {s with heap:=h' }:=I.turned (t':=s.toks) (λb o hb e=>(sb.2 b hb).trans e) f0 f1 f3 f4 f5;obtain⟨o,e,c,d⟩:=id st';exact⟨u,rfl,MB (s:={s with heap:=h' }) e c d xp ⟨x,H,I1,ru,⟨rfl,λys hy=>by rw[I.tuple_inj hy hq];exact hx⟩,st',λb hb=>(hf b hb).1⟩⟩
 done:=by intro X hP hw hK hc i ab s σ H E I hf st hg;subst hP hw hK;obtain⟨xs,hq,hx⟩:=hg;obtain⟨its,rv,p,hz⟩:=I.tuple hq;obtain⟨f0,f1,f2,f3,f4,f5⟩:=hf it x_;have hl:=rv.length;exact wpAny_pyNext_tuple_end (I.ok.hd hc) st (show s.heap.IsTuple a its.toArray from p) (by simp;omega) λh' eb=>⟨rfl,I.turned (t':=s.toks) (λb o hb e=>eb b o hb e) f0 f1 f3 f4 f5⟩
 self:=λ_ _ _ _ _ st h=>wpAny_pyIter_tupleiter st h
theorem D2{P:Program}{w:World}{K:W.Frag}{tg:Expr}(it:Addr)(lo:Int)(n:Nat):MA P w K tg (Uw lo n) [it] it (λi h=>IsRangeIter h it (lo+(i:Nat)*1) ((n:Int)-(i:Nat)) 1) where
 mem:=by simp
 obj:=λi h st b hb=>by
  have e:b=it:=by simpa using hb
  subst e
  exact⟨_,st,λv z=>by
   have z':Data.fields _=Data.cell v:=z
   cases z'⟩
 keep:=λi h h' st k=>k it x_ _ st
 item:=by intro X hP hw hK hc i ab s σ H E I hf st hg;subst hP hw hK;obtain⟨f0,f1,f2,f3,f4,f5⟩:=hf it x_;have W:=Walks.range (prog:=X.prog) (w:=X.w) (I.ok.hd hc) it lo 1 n;refine W.item i s _ _ hg st λv h' tk hv st' kk=>?_;obtain⟨t,rfl⟩:=hv;have I1:Uh X ab σ H {s with heap:=h',toks:=tk}:=I.turned (λb o hb e=>kk b o (by simpa using hb) e) f0 f1 f3 f4 f5;refine⟨_,rfl,MB (s:={s with heap:=h',toks:=tk}) (n:="range_iterator") st' rfl rfl xp ⟨.int (lo+i),H,I1,⟨t,?_⟩,⟨rfl,rfl⟩,st',λb hb=>(hf b hb).1⟩⟩;rw[Int.mul_one]
 done:=by intro X hP hw hK hc i ab s σ H E I hf st hg;subst hP hw hK;obtain⟨f0,f1,f2,f3,f4,f5⟩:=hf it x_;exact wpAny_pyNext_range_end (I.ok.hd hc) st (by have:n<=i:=hg;omega) λh' eb=>⟨rfl,I.turned (t':=s.toks) (λb o hb e=>eb b o hb e) f0 f1 f3 f4 f5⟩
 self:=λ_ _ _ _ _ st h=>wpAny_pyIter_rangeiter st h
section
variable{X:Cx}{tg:Expr}
theorem CJ{ab:List (Addr×Obj)}{σ:St}{H:Hp}{s:Shared}{R:It->Hp->Prop}{E:Value->Shared->Prop}{lo hi:Int}{t u v:Tok}{tk:Nat}(I:Uh X ab σ H s)(h1 : -(2^62)<=lo)(h2:lo<2^62)(h3 : -(2^62)<=hi)(h4:hi<2^62)
  (q:R (Uw lo (hi-lo).toNat) H):wpAny (model X.prog X.w) X.A (pyIter (.ref s.heap.objs.size)) (Ut X ab σ tg R) E {s with heap:=s.heap.push {cls:=.type "range",data:=.fields #[.int lo t,.int hi u,.int 1 v] },toks:=tk}:=by
 refine wpAny_pyIter_range (IsRange.new ..) (small_one h1 h2 h3 h4) ?_;have I1:Uh X ab σ H {s with heap:=s.heap.push {cls:=.type "range",data:=.fields #[.int lo t,.int hi u,.int 1 v] },toks:=tk}:=I.kept λb o e=>YG _ e
 refine⟨(s.heap.push {cls:=.type "range",data:=.fields #[.int lo t,.int hi u,.int 1 v] }).objs.size,[(s.heap.push {cls:=.type "range",data:=.fields #[.int lo t,.int hi u,.int 1 v] }).objs.size],_,_,H,rfl,
  I1.kept (t':=tk) λb o e=>YG _ e,D2 _ lo (hi-lo).toNat,?_,λb hb=>?_,q⟩
 .
  have e1:lo+((0:Nat):Int)*1=lo:=by simp
  have e2:(((hi-lo).toNat:Nat):Int)-((0:Nat):Int)=Builtin.Range.rangeSize lo hi 1:=by rw[rangeSize_one];split<;>omega
  show IsRangeIter _ _ (lo+((0:Nat):Int)*1) ((((hi-lo).toNat:Nat):Int)-((0:Nat):Int)) 1;rw[e1,e2];exact Y2 _ rfl
 .
  have e:b=(s.heap.push {cls:=.type "range",data:=.fields #[.int lo t,.int hi u,.int 1 v] }).objs.size:=by simpa using hb
  subst e;exact I1.fpOk (YN _) (I1.hok.fresh (YN _))
noncomputable def Rk(ta:TA):TI:=λσ H R=>ta σ H λvs H1=>∃j:Int,vs=[.int j]/\-(2^62)<=j/\j<2^62/\R (Uw 0 j.toNat) H1
noncomputable def Rl(ta:TA):TI:=λσ H R=>ta σ H λvs H1=>∃i j:Int,vs=[.int i,.int j]/\(-(2^62)<=i/\i<2^62/\-(2^62)<=j/\j<2^62)/\R (Uw i (j-i).toNat) H1
theorem FC{a:Expr}{ta:TA}{p pos:Pos} (hg:Gl X "range") (hm:X.mg "range"=none) (ha:PA X [a] ta) (hs:starEach [a] X.env=[(false,eval a X.env)]:=by rfl):PI X tg (.Call (.Name "range" p) [a] [] pos) (Rk ta):=by
 intro ab s σ H R I h;refine Call_ (oB I hg hm boot_range (aan (Ul (ha pos ab s σ H _ I h) λus s1 ⟨vs,H1,I1,r1,q1⟩=>?_) hs rfl));obtain⟨j,e,q1,q2,q⟩:=q1;subst e
 cases r1 with
 | cons r rr =>
  cases rr;obtain⟨t,rfl⟩:=r;exact call_range_1 (CJ I1 xL xL q1 q2 (by simpa using q))
theorem FD{a b:Expr}{ta:TA}{p pos:Pos} (hg:Gl X "range") (hm:X.mg "range"=none) (ha:PA X [a,b] ta) (hs:starEach [a,b] X.env=[(false,eval a X.env),(false,eval b X.env)]:=by rfl) (hs2:starEach [b] X.env=[(false,eval b X.env)]:=by rfl) :
  PI X tg (.Call (.Name "range" p) [a,b] [] pos) (Rl ta):=by
 intro ab s σ H R I h;refine Call_ (oB I hg hm boot_range (aan (Ul (ha pos ab s σ H _ I h) λus s1 ⟨vs,H1,I1,r1,q1⟩=>?_) (by rw[hs,hs2]) (by rw[hs2];rfl)));obtain⟨i,j,e,⟨q1,q2,q3,q4⟩,q⟩:=q1;subst e
 cases r1 with
 | cons r rr =>
  cases rr with
  | cons r' rr =>
   cases rr;obtain⟨t,rfl⟩:=r;obtain⟨t',rfl⟩:=r';exact call_range_2 (CJ I1 q1 q2 q3 q4 q)
noncomputable def y4(fp:List Addr)(h:Heap):List (Addr×Obj):=fp.filterMap λb=>(h.get? b).map λo=>(b,o)
theorem lP{fp:List Addr}{h:Heap}{b:Addr}{o:Obj}(hb:b∈fp)(e:h.get? b=some o):(b,o)∈y4 fp h:=aaJ.mpr ⟨b,hb,by rw[e];rfl⟩
theorem FE{fp:List Addr}{h:Heap}{p:Addr×Obj}(hp:p∈y4 fp h):p.1∈fp/\h.get? p.1=some p.2:=by
 obtain⟨b,hb,e⟩:=aaJ.mp hp
 cases q:h.get? b with
 |none=>rw[q]at e;cases e
 | some o =>
  rw[q]at e;have e':(b,o)=p:=Y5 e;subst e';exact⟨hb,q⟩
theorem Uh.pinned{ab:List (Addr×Obj)}{σ:St}{H:Hp}{s:Shared}{fp:List Addr}(I:Uh X ab σ H s)(hf:∀b∈fp,Fy X ab H b)(ho:∀b∈fp,∃o,s.heap.get? b=some o/\∀v,o.data≠.cell v):Uh X (ab++y4 fp s.heap) σ H s :=
 I.pins_of λp hp=>(YY.mp hp).elim (λz=>I.pin p (YW _ z)) λz=>by obtain⟨hb,e⟩:=FE z;obtain⟨f0,f1,f2,_⟩:=hf p.1 hb;obtain⟨o,e',d⟩:=ho p.1 hb;rw[e]at e';cases e';exact⟨e,f0,f1,f2,d⟩
theorem Uh.unpinned{ab pl:List (Addr×Obj)}{σ:St}{H:Hp}{s:Shared}(I:Uh X (ab++pl) σ H s):Uh X ab σ H s:=I.pins_of λp hp=>I.pin p (YW _ (Y1 _ hp))
end
abbrev R2:=V->V->Hp->VK->Prop
def Ux(X:Cx)(f:Value->Value->Sem Value)(r:R2):Prop :=
 ∀(ab:List (Addr×Obj))(s:Shared)(σ:St)(H:Hp)(x y:V)(v u:Value)(Q:VK),Uh X ab σ H s->cJ x v->cJ y u->r x y H Q ->
  wpAny (model X.prog X.w) X.A (f v u) (EP X ab σ Q) X.xe s
def Uy(X:Cx)(f:Value->Sem Value)(r:V->Hp->VK->Prop):Prop :=
 ∀(ab:List (Addr×Obj))(s:Shared)(σ:St)(H:Hp)(x:V)(v:Value)(Q:VK),Uh X ab σ H s->cJ x v->r x H Q ->
  wpAny (model X.prog X.w) X.A (f v) (EP X ab σ Q) X.xe s
def kj(X:Cx)(f:Value)(r:List V->Hp->VK->Prop):Prop :=
 ∀(ab:List (Addr×Obj))(s:Shared)(σ:St)(H:Hp)(xs:List V)(us:List Value)(Q:VK),Uh X ab σ H s->cC xs us->r xs H Q ->
  wpAny (model X.prog X.w) X.A (call f us) (EP X ab σ Q) X.xe s
def Uz(r:R2)(ta tb:TE):TE:=λσ H Q=>ta σ H λx H1=>tb σ H1 λy H2=>r x y H2 Q
def rI(C:Int->Int->Prop)(g:Int->Int->V):R2:=λx y H Q=>∃i j,x=.int i/\y=.int j/\C i j/\Q (g i j) H
def UA(g:Int->Int->V):R2:=λx y H Q=>∃i j,x=.int i/\y=.int j/\Q (g i j) H
def rU(g:Int->V):V->Hp->VK->Prop:=λx H Q=>∃i,x=.int i/\Q (g i) H
section
variable{X:Cx}{a b:Expr}{ta tb:TE}
theorem Td(ha:PE X a ta)(hb:PE X b tb){ab:List (Addr×Obj)}{s:Shared}{σ:St}{H:Hp}{R:V->V->Hp->Prop}(I:Uh X ab σ H s)
  (h:ta σ H λx H1=>tb σ H1 λy H2=>R x y H2) {Q:Value->Shared->Prop} {f:Value->Value->Sem Value}
  (hf:∀v u s2 x y H2,Uh X ab σ H2 s2->cJ x v->cJ y u->R x y H2->wpAny (model X.prog X.w) X.A (f v u) Q X.xe s2) :
  wpAny (model X.prog X.w) X.A (eval a X.env) (λv s₁=>wpAny (model X.prog X.w) X.A (eval b X.env) (λu s₂=>wpAny (model X.prog X.w) X.A (f v u) Q X.xe s₂) X.xe s₁) X.xe s:=by
 refine Ul (ha ab s σ H _ I h) λv s1 ⟨x,H1,I1,r1,q1⟩=>?_;refine Ul (hb ab s1 σ H1 _ I1 q1) λu s2 ⟨y,H2,I2,r2,q2⟩=>?_;exact hf v u s2 x y H2 I2 r1 r2 q2
theorem UB{f:Value->Value->Sem Value}{C:Int->Int->Prop}{g:Int->Int->Int}
  (rule:∀(i j:Int)(t u:Tok)(s:Shared)(Q:Value->Shared->Prop)(E:Value->Shared->Prop),C i j->Q (.int (g i j) s.toks) {s with toks:=s.toks+1}->wpAny (model X.prog X.w) X.A (f (.int i t) (.int j u)) Q E s) :
  Ux X f (rI C λi j=>.int (g i j)):=by
 intro ab s σ H x y v u Q I rx ry h;obtain⟨i,j,rfl,rfl,hc,q⟩:=h;obtain⟨t,rfl⟩:=rx;obtain⟨t',rfl⟩:=ry;exact rule i j t t' s _ _ hc ⟨.int (g i j),H,I.tok _,⟨_,rfl⟩,q⟩
theorem Su{f:Value->Value->Sem Value}{g:Int->Int->Int}
  (rule:∀(i j:Int)(t u:Tok)(s:Shared)(Q:Value->Shared->Prop)(E:Value->Shared->Prop),Q (.int (g i j) s.toks) {s with toks:=s.toks+1}->wpAny (model X.prog X.w) X.A (f (.int i t) (.int j u)) Q E s) :
  Ux X f (UA λi j=>.int (g i j)):=by
 intro ab s σ H x y v u Q I rx ry h;obtain⟨i,j,rfl,rfl,q⟩:=h;obtain⟨t,rfl⟩:=rx;obtain⟨t',rfl⟩:=ry;exact rule i j t t' s _ _ ⟨.int (g i j),H,I.tok _,⟨_,rfl⟩,q⟩
theorem Q7{f:Value->Value->Sem Value}{g:Int->Int->Bool}
  (rule:∀(i j:Int)(t u:Tok)(s:Shared)(Q:Value->Shared->Prop)(E:Value->Shared->Prop),Q (.bool (g i j)) s->wpAny (model X.prog X.w) X.A (f (.int i t) (.int j u)) Q E s) :
  Ux X f (UA λi j=>.bl (g i j)):=by
 intro ab s σ H x y v u Q I rx ry h;obtain⟨i,j,rfl,rfl,q⟩:=h;obtain⟨t,rfl⟩:=rx;obtain⟨t',rfl⟩:=ry;exact rule i j t t' s _ _ ⟨.bl (g i j),H,I,rfl,q⟩
def Te(i j:Int):Prop:=0<=j/\j<=1000000/\i.natAbs<2^64
def Sv(i j:Int):Prop:=(-(2^64)<i/\i<2^64)∨(-(2^64)<j/\j<2^64)
theorem Sv.ok{i j:Int}(h:Sv i j):IntMulOk i j:=by
 rcases h with⟨h1,h2⟩|⟨h1,h2⟩
 . exact .of_left (intBits_le_64 h1 h2)
 . exact .of_right (intBits_le_64 h1 h2)
theorem Pa:Ux X (binaryOp .Add) (UA λi j=>.int (i+j)):=Su λ_ _ _ _ _ _ _ q=>add_int q
theorem Pb:Ux X (binaryOp .Sub) (UA λi j=>.int (i-j)):=Su λ_ _ _ _ _ _ _ q=>sub_int q
theorem MC:Ux X (binaryOp .Mod) (rI (λ_ j=>j≠0) λi j=>.int (i.fmod j)):=UB λ_ _ _ _ _ _ _ hc q=>mod_int' hc q
theorem Pc:Ux X (binaryOp .Pow) (rI Te λi j=>.int (i^j.toNat)):=UB λ_ _ _ _ _ _ _ hc q=>pow_int_small hc.1 hc.2.1 hc.2.2 q
theorem UC{f:Value->Sem Value}{g:Int->Int}
  (rule:∀(i:Int)(t:Tok)(s:Shared)(Q:Value->Shared->Prop)(E:Value->Shared->Prop),Q (.int (g i) s.toks) {s with toks:=s.toks+1}->wpAny (model X.prog X.w) X.A (f (.int i t)) Q E s) :
  Uy X f (rU λi=>.int (g i)):=by
 intro ab s σ H x v Q I rx h;obtain⟨i,rfl,q⟩:=h;obtain⟨t,rfl⟩:=rx;exact rule i t s _ _ ⟨.int (g i),H,I.tok _,⟨_,rfl⟩,q⟩
theorem Pd:Uy X (unaryOp .USub) (rU λi=>.int (-i)):=UC λ_ _ _ _ _ q=>neg_int q
end
section
variable{X:Cx}{a b c:Expr}{ta tb tc:TE}{pos:Pos}
theorem LA{ab:List (Addr×Obj)}{σ:St}{H:Hp}{s:Shared}{Q:VK}{k k':Bool}(I:Uh X ab σ H s)(q:Q (.bl k) H)(e:k=k'):EP X ab σ Q (.bool k') s:=by subst e;exact⟨.bl k,H,I,rfl,q⟩
theorem Pe:Ux X (compareOp .Lt) (UA λi j=>.bl (decide (i<j))):=Q7 λ_ _ _ _ _ _ _ q=>lt_int q
theorem Pf:Ux X (compareOp .LtE) (UA λi j=>.bl (decide (i<=j))):=Q7 λ_ _ _ _ _ _ _ q=>le_int q
theorem Rm:Ux X (compareOp .Gt) (UA λi j=>.bl (decide (j<i))):=Q7 λ_ _ _ _ _ _ _ q=>gt_int q
theorem Rn:Ux X (compareOp .GtE) (UA λi j=>.bl (decide (j<=i))):=Q7 λ_ _ _ _ _ _ _ q=>ge_int q
theorem Pg:Ux X (compareOp .Is) (λx y H Q=>y=.non/\Q (.bl (decide (x=.non))) H):=by
 intro ab s σ H x y v u Q I rx ry h;obtain⟨rfl,q⟩:=h;cases ry;refine is_none_gen (LA I q ?_)
 cases x<;>first
  |(cases rx;rfl)
  |(obtain⟨t,rfl⟩:=rx;rfl)
theorem MD:Ux X (compareOp .IsNot) (λx y H Q=>y=.non/\Q (.bl (!decide (x=.non))) H):=by
 intro ab s σ H x y v u Q I rx ry h;obtain⟨rfl,q⟩:=h;cases ry;refine isnot_none_gen (LA I q ?_)
 cases x<;>first
  |(cases rx;rfl)
  |(obtain⟨t,rfl⟩:=rx;rfl)
theorem bc(b:Expr){op:CmpOp}(h:op≠.In:=by decide)(h2:op≠.NotIn:=by decide):behindInMarks op b=false:=by
 have e1:(op == CmpOp.In)=false:=by cases op<;>first|rfl|exact absurd rfl h
 have e2:(op == CmpOp.NotIn)=false:=by cases op<;>first|rfl|exact absurd rfl h2
 cases b<;>simp[behindInMarks,e1,e2]
def LC(r r':R2)(ta tb tc:TE):TE:=λσ H Q=>ta σ H λx H1=>tb σ H1 λy H2=>r x y H2 λz H3=>∃k,z=.bl k /\
 (if k=true then tc σ H3 λw' H4=>r' y w' H4 Q else Q (.bl false) H3)
theorem Js{op op':CmpOp}{r r':R2}(ho:Ux X (compareOp op) r)(ho':Ux X (compareOp op') r')(ha:PE X a ta)(hb:PE X b tb)(hc:PE X c tc)
  (hm:lastMarks [op,op'] [b,c]=false:=by with_unfolding_all rfl):PE X (.Compare a [op,op'] [b,c] pos) (LC r r' ta tb tc):=by
 intro ab s σ H Q I h
 refine Compare_chain (Ul (ha ab s σ H _ I h) λv s1 ⟨x,H1,I1,r1,q1⟩=>chain_link (Ul (hb ab s1 σ H1 _ I1 q1) λu s2 ⟨y,H2,I2,r2,q2⟩ =>
  Ul (ho ab s2 σ H2 x y v u _ I2 r1 r2 q2) λd s3 ⟨z,H3,I3,r3,k,e,q3⟩=>?_)) hm
 subst e;cases r3;refine ZW ?_
 cases k with
 |false=>exact ite_ff ⟨.bl false,H3,I3,rfl,q3⟩
 |true=>exact ite_tt (chain_last (Ul (hc ab s3 σ H3 _ I3 q3) λw' s4 ⟨z',H4,I4,r4,q4⟩=>ho' ab s4 σ H4 y z' u w' Q I4 r2 r4 q4))
theorem wc:(sizeLine:Nat)<2^63:=by rw[sizeLine_eq];decide
theorem D3:Ux X (binaryOp .Add) (λx y H Q=>∃i j,x=.str i/\y=.str j/\i.length+j.length<=sizeLine/\Q (.str (i++j)) H):=by intro ab s σ H x y v u Q I rx ry h;obtain⟨i,j,rfl,rfl,hz,q⟩:=h;obtain⟨t,rfl⟩:=rx;obtain⟨t',rfl⟩:=ry;exact add_str (λt' tk=>⟨.str (i++j),H,I.tok _,⟨_,rfl⟩,q⟩) hz
theorem w7{x:V}{us:List Value}(r:cC [x] us):∃u,us=[u]/\cJ x u:=by
 cases r with
 |cons r1 r2=>cases r2;exact⟨_,rfl,r1⟩
theorem ME{x y:V}{us:List Value}(r:cC [x,y] us):∃u w',us=[u,w']/\cJ x u/\cJ y w':=by
 cases r with
 | cons r1 r2 =>
  cases r2 with
  |cons r3 r4=>cases r4;exact⟨_,_,rfl,r1,r3⟩
theorem Jt:kj X (.builtin "abs") (λxs H Q=>∃ i,xs=[.int i]/\Q (.int (if i < 0 then -i else i)) H):=by
 intro ab s σ H xs us Q I r h;obtain⟨i,rfl,q⟩:=h;obtain⟨u,rfl,t,rfl⟩:=w7 r
 exact call_abs_int λu tk=>⟨.int (if i<0 then -i else i),H,I.tok _,⟨_,rfl⟩,q⟩
theorem FF(hc:X.calm=true):kj X (.builtin "max") (λxs H Q=>∃ i j,xs=[.int i,.int j]/\Q (.int (if j > i then j else i)) H):=by
 intro ab s σ H xs us Q I r h;obtain⟨i,j,rfl,q⟩:=h;obtain⟨u,w',rfl,⟨t,rfl⟩,⟨t',rfl⟩⟩:=ME r;refine max_two_ints (I.ok.hd hc) λh' tk k=>⟨_,H,I.kept k,?_,q⟩;by_cases hj:j > i
 . rw[if_pos hj,if_pos hj];exact⟨_,rfl⟩
 . rw[if_neg hj,if_neg hj];exact⟨_,rfl⟩
theorem FG(hc:X.calm=true):kj X (.builtin "min") (λxs H Q=>∃ i j,xs=[.int i,.int j]/\Q (.int (if j < i then j else i)) H):=by
 intro ab s σ H xs us Q I r h;obtain⟨i,j,rfl,q⟩:=h;obtain⟨u,w',rfl,⟨t,rfl⟩,⟨t',rfl⟩⟩:=ME r;refine min_two_ints (I.ok.hd hc) λh' tk k=>⟨_,H,I.kept k,?_,q⟩;by_cases hj:j<i
 . rw[if_pos hj,if_pos hj];exact⟨_,rfl⟩
 . rw[if_neg hj,if_neg hj];exact⟨_,rfl⟩
theorem FH:kj X (.type "int") (λxs H Q=>(∃ i,xs=[.int i]/\Q (.int i) H)∨∃ k,xs=[.bl k]/\Q (.int (if k then 1 else 0)) H):=by
 intro ab s σ H xs us Q I r h;rcases h with⟨i,rfl,q⟩|⟨k,rfl,q⟩
 . obtain⟨u,rfl,t,rfl⟩:=w7 r;exact call_int_int ⟨.int i,H,I,⟨_,rfl⟩,q⟩
 .
  obtain⟨u,rfl,r1⟩:=w7 r;cases r1
  exact call_int_bool ⟨.int (if k then 1 else 0),H,I.tok _,⟨_,rfl⟩,q⟩
end
structure UD (K:W.Frag) (C:Addr):Prop where
 pg:W.plainGet K C Str.empty=true
 hd:W.hasDictIn K C=true
 po:W.plainOver K C=true
 sa:W.findIn K (.ref C) "__setattr__"=some (some (.builtin "object.__setattr__"))
theorem UD.get{K:W.Frag}{C:Addr}(c:UD K C)(f:Str):W.plainGet K C f=true:=c.pg
structure m6 (k:Nat) (A:Around):Prop where
 hd:A.handled=none
 dp:A.depth+3*k+5<recursionLimit
 un:A.units+16*k+200<cLine
 gd:A.guards=some []
theorem m6.mono{j k:Nat}{A:Around}(r:m6 k A)(h:j<=k):m6 j A:=⟨r.hd,by have:=r.dp;omega,by have:=r.un;omega,r.gd⟩
theorem m6.deeper{k:Nat}{A:Around}(r:m6 (k+1) A)(env:Env):m6 k (A.deeper env) :=
 ⟨r.hd,by have:=r.dp;show A.depth+1+3*k+5<_;omega,by have:=r.un;show A.units+3+16*k+200<_;omega,r.gd⟩
theorem m6.in1{k:Nat}{A:Around}(r:m6 (k+1) A):m6 k A.in1 :=
 ⟨r.hd,by have:=r.dp;show A.depth+3*k+5<_;omega,by have:=r.un;show A.units+1+16*k+200<_;omega,r.gd⟩
theorem m6.depth{k:Nat}{A:Around}(r:m6 k A):A.depth<recursionLimit:=by have:=r.dp;omega
theorem m6.units{k:Nat}{A:Around}(r:m6 k A):A.units+64<cLine:=by have:=r.un;omega
noncomputable def Tf:TA:=λ_ H Q=>Q [] H
noncomputable def Ro(ta:TE)(tr:TA):TA:=λσ H Q=>ta σ H λx H1=>tr σ H1 λxs H2=>Q (x::xs) H2
section
variable{X:Cx}{e:Expr}{es:List Expr}{te:TE}{t:TA}{pos:Pos}
theorem rg:PA X [] Tf:=λ_ _ _ _ H Q I h=>Calls.spliced_nil ⟨[],H,I,.nil,h⟩
theorem gA(ha:PE X e te)(hr:PA X es t)(hs:starEach (e::es) X.env=(false,eval e X.env)::starEach es X.env:=by rfl):PA X (e::es) (Ro te t):=by intro pos ab s σ H Q I h;rw[hs];show wpAny _ _ (spliced ((false,eval e X.env)::backTo pos (starEach es X.env))) _ _ s;refine Calls.spliced_cons (Ul (ha ab s σ H _ I h) λu s1 ⟨x,H1,I1,r1,q1⟩=>?_);exact Ul (hr pos ab s1 σ H1 _ I1 q1) λus s2 ⟨xs,H2,I2,r2,q2⟩=>⟨x::xs,H2,I2,.cons r1 r2,q2⟩
end
noncomputable abbrev Sp:=List V->Hp->VK->XK->Prop
noncomputable abbrev UE:=List Env->Hp->Shared->XK->Value->Shared->Prop
structure Ju (P:Program) (w:World) (K:W.Frag) (mg:Str->Option Value) (base:Heap) (A:Around) (outer:List Env) (s:Shared) (H:Hp):Prop where
 frames:A.frames=some outer
 mod:Mod K mg base
 bs:∀b o,base.get? b=some o->s.heap.get? b=some o/\H b=none
 bsz:base.objs.size<=s.heap.objs.size
 funs:s.heap.FunFrames base outer
 frf:∀b∈Ud outer,H b=none
 hok:TZ P w H s.heap
 bare:AllBare s.gens
 tbs:Uc K H
inductive CE (outer:List Env) (P:Program) (w:World) (H:Hp) (s:Shared) (Q:VK) (u:Value) (s':Shared):Prop
 |mk (v:V) (H':Hp) (os:s'.os=s.os) (g:AllBare s'.gens) (un:Un (Ud outer) [] H H' s.heap s'.heap) (ok:TZ P w H' s'.heap) (r:cJ v u) (q:Q v H')
def CR(CX:UE)(outer:List Env)(P:Program)(w:World)(H:Hp)(s:Shared)(Q:VK)(E:XK)(r:Result)(s':Shared):Prop :=
 match r with
 |.ok (.ret u)=>CE outer P w H s Q u s'
 |.ok _=>False
 |.error e=>CX outer H s E e s'
structure FnOk (P:Program) (w:World) (K:W.Frag) (mg:Str->Option Value) (base:Heap) (CX:UE) (k:Nat) (f:Addr) (fd:FuncData) (ps:List Str) (sp:Sp):Prop where
 len:∀vs H Q E,sp vs H Q E->vs.length=ps.length
 run:∀(A:Around)(outer:List Env)(s:Shared)(H:Hp)(args:Args)(us:List Value)(vs:List V)(Q:VK)(E:XK),m6 k A->Ju P w K mg base A outer s H->BindsTo s fd args (ps.zip us)->cC vs us->sp vs H Q E ->
  codeAny (model P w) A (.call (.ref f) args) (CR CX outer P w H s Q E) s
theorem Ju.in1{P:Program}{w:World}{K:W.Frag}{mg:Str->Option Value}{base:Heap}{A:Around}{outer:List Env}{s:Shared}{H:Hp}(e:Ju P w K mg base A outer s H) :
  Ju P w K mg base A.in1 outer s H:=⟨e.frames,e.mod,e.bs,e.bsz,e.funs,e.frf,e.hok,e.bare,e.tbs⟩
section
variable{X:Cx}{ab:List (Addr×Obj)}{σ:St}{H:Hp}{s s':Shared}
theorem Uh.env0(I:Uh X ab σ H s):Ju X.prog X.w X.K X.mg X.base X.A X.stack s H :=
 ⟨I.ok.frames,I.ok.mod,I.bs,YH I.ok.bsz I.sz,I.stack,I.stkFree,I.hok,I.bare,I.tbs⟩
theorem Uh.after{Q:VK}{u:Value}(I:Uh X ab σ H s)(h:CE X.stack X.prog X.w H s Q u s'):EP X ab σ Q u s':=by obtain⟨v,H',os,bare,un,hok,r,q⟩:=h;obtain⟨hh,g,d,t,os'⟩:=s';obtain rfl:os'=s.os:=os;exact⟨v,H',I.call (h':=hh) (g':=g) (d':=d) (t':=t) (ch:=[]) un hok bare (λb z=>absurd z x_),r,q⟩
end
def A5(K:W.Frag)(fd:FuncData)(ps:List Str)(ds:List Value):Prop :=
 ∀(s:Shared)(us:List Value),K.In s.heap->(us++ds).length=ps.length->BindsTo s fd ⟨us,[]⟩ (ps.zip (us++ds))
theorem A5.all{K:W.Frag}{fd:FuncData}{ps:List Str}(h:∀us:List Value,us.length=ps.length->bindArgs fd ⟨us,[]⟩=pure (ps.zip us)):A5 K fd ps []:=λs us _ hl=>by rw[aai]at hl ⊢;exact .of_eq (h us hl)
def CK(CX:UE)(X:Cx)(E:XK):Prop:=∀(ab:List (Addr×Obj))(σ:St)(H:Hp)(s:Shared)(e:Value)(s':Shared),Uh X ab σ H s->CX X.stack H s E e s'->X.xe e s'
section
variable{X:Cx}{CX:UE}{k:Nat}{f:Addr}{fd:FuncData}{ps:List Str}{sp:Sp}{dvs:List V}{ds:List Value}{E:XK}{e:Expr}
theorem LD{ab:List (Addr×Obj)}{σ:St}{H:Hp}{s:Shared}{Q:VK}{us:List Value}{vs:List V}(F:FnOk X.prog X.w X.K X.mg X.base CX k f fd ps sp)(hr:m6 k X.A)(hb:A5 X.K fd ps ds)(hd:cC dvs ds)(hx:CK CX X E)
  (I:Uh X ab σ H s) (r:cC vs us) (h:sp (vs++dvs) H Q E):wpAny (model X.prog X.w) X.A (call (.ref f) us) (EP X ab σ Q) X.xe s:=by
 have r2:cC (vs++dvs) (us++ds):=r.append hd;have hl:(us++ds).length=ps.length:=by rw[<- r2.length];exact F.len _ _ _ _ h
 refine wpAny_call (codeAny_mono (F.run X.A X.stack s H ⟨us,[]⟩ (us++ds) (vs++dvs) Q E hr I.env0 (hb s us I.kIn hl) r2 h) λr s' hq=>?_)
 cases r with
 |error e=>exact hx ab σ H s e s' I hq
 | ok fl =>
  cases fl with
  |ret u=>exact I.after hq
  |next=>exact False.elim hq
  |brk=>exact False.elim hq
  |cont=>exact False.elim hq
end
structure aB (N P:List Str) (sc:Scope):Prop where
 kind:sc.kind=.function
 co:sc.isCoroutine=false
 gen:sc.isGenerator=false
 nd:N.Nodup
 pre:N.take P.length=P
 par:∀x∈P,sc.names.lookup x=some .local∨sc.names.lookup x=some .cell
 nofree:∀y∈sc.names,y.2≠.free
theorem y6{kindOf:Str->Option NameKind}{x:Str}:∀{binds:List (Str×Value)}{m:Str->Option Value},(∀v,(x,v)∉binds)->bindL kindOf binds m x=m x
 |[],_,_=>rfl
 | (n,v)::r,m,h=>by
  unfold bindL;rw[y6 λw hw=>h w (fI _ hw)];split
  .
   have:x≠n:=by rintro rfl;exact h v k5
   simp[this]
  . rfl
theorem y7{kindOf:Str->Option NameKind}{x:Str}:∀{binds:List (Str×Value)}{m:Str->Option Value},(∀v,(x,v)∉binds)->bindC kindOf binds m x=m x
 |[],_,_=>rfl
 | (n,v)::r,m,h=>by
  unfold bindC;rw[y7 λw hw=>h w (fI _ hw)];split
  . rfl
  .
   have:x≠n:=by rintro rfl;exact h v k5
   simp[this]
theorem y9{kindOf:Str->Option NameKind}{x:Str}{v:Value}:∀{P:List Str}{vs:List Value}{i:Nat}{m:Str->Option Value},P.Nodup->P[i]?=some x->vs[i]?=some v->kindOf x=some .local ->
  bindL kindOf (P.zip vs) m x=some v
 |[],_,_,_,_,h,_,_=>by simp at h
 |_::_,[],_,_,_,_,h,_=>by simp at h
 | p::P,w::vs,0,m,nd,h1,h2,hk=>by simp at h1 h2;subst h1;subst h2;show bindL kindOf ((p,w)::P.zip vs) m p=_;unfold bindL;rw[y6 λv hv=>(Zc.mp nd).1 (aaX hv).1,if_pos hk];simp
 | p::P,w::vs,i+1,m,nd,h1,h2,hk=>by show bindL kindOf ((p,w)::P.zip vs) m x=_;unfold bindL;exact y9 (i:=i) (Zc.mp nd).2 (by simpa using h1) (by simpa using h2) hk
theorem za{kindOf:Str->Option NameKind}{x:Str}{v:Value}:∀{P:List Str}{vs:List Value}{i:Nat}{m:Str->Option Value},P.Nodup->P[i]?=some x->vs[i]?=some v->kindOf x≠some .local ->
  bindC kindOf (P.zip vs) m x=some v
 |[],_,_,_,_,h,_,_=>by simp at h
 |_::_,[],_,_,_,_,h,_=>by simp at h
 | p::P,w::vs,0,m,nd,h1,h2,hk=>by simp at h1 h2;subst h1;subst h2;show bindC kindOf ((p,w)::P.zip vs) m p=_;unfold bindC;rw[y7 λv hv=>(Zc.mp nd).1 (aaX hv).1,if_neg hk];simp
 | p::P,w::vs,i+1,m,nd,h1,h2,hk=>by show bindC kindOf ((p,w)::P.zip vs) m x=_;unfold bindC;exact za (i:=i) (Zc.mp nd).2 (by simpa using h1) (by simpa using h2) hk
noncomputable def vw(N:List Str)(vs:List V):St:=vs.map some++List.replicate (N.length-vs.length) none
noncomputable def LF(CX:UE)(P:Program)(w:World)(K:W.Frag)(mg:Str->Option Value)(base:Heap)(N:List Str)(qual:Str)(scope:Scope)(f:Addr)(cd:Value)(A:Around)(outer:List Env)(s:Shared)(H:Hp)(E:XK):Cx where
 prog:=P
 w:=w
 K:=K
 mg:=mg
 base:=base
 A:=A.deeper (envOfC qual scope s.heap.objs.size f cd)
 N:=N
 s₀:=s
 H₀:=H
 env:=envOfC qual scope s.heap.objs.size f cd
 outer:=outer
 stack:=envOfC qual scope s.heap.objs.size f cd::outer
 ex:=[]
 calm:=true
 fn:=λ_=>true
 pn:=[]
 xe:=λe s'=>wpAny (model P w) (A.deeper (envOfC qual scope s.heap.objs.size f cd)) (leaving (envOfC qual scope s.heap.objs.size f cd) e) (λ_ s''=>CX outer H s E e s'') (λe' s''=>CX outer H s E e' s'') s'
theorem CL{sc:Scope}{n:Nat}{x:Str}(h:sc.names.lookup x=some .cell):∃c,(cellsFrom n sc.names []).lookup x=some c:=by have q:=W.cellsFrom_some sc.names n [] (.inl h);exact Option.isSome_iff_exists.mp q
theorem FI{CX:UE}{P:Program}{w:World}{K:W.Frag}{mg:Str->Option Value}{base:Heap}{N ps:List Str}{qual:Str}{scope:Scope}{f:Addr}{cd:Value}{A:Around}{outer:List Env}{s s1:Shared}{H:Hp}{E:XK}{us:List Value}{vs:List V}
  (S:aB N ps scope) (hd:A.handled=none) (e0:Ju P w K mg base A outer s H) (hl:vs.length=ps.length) (r:cC vs us)
  (x:InCallC s s.heap.objs.size (bindL (envOfC qual scope s.heap.objs.size f cd).kindOf (ps.zip us) λ_=>none) (cellsFrom (s.heap.objs.size+1) scope.names []) (bindC (envOfC qual scope s.heap.objs.size f cd).kindOf (ps.zip us) λ_=>none) s1) :
  Uh (LF CX P w K mg base N qual scope f cd A outer s H E) [] (vw N vs) H s1:=by
 have hpl:ps.length<=N.length:=by have:=congrArg List.length S.pre;rw[Zz]at this;omega
 obtain⟨h1,tk,rfl,hk⟩:=x.done;have noA:∀b:Addr,b∉(LF CX P w K mg base N qual scope f cd A outer s H E).ex:=λb z=>absurd (show b∈([]:List Addr)from z) x_
 refine⟨⟨e0.mod,S.kind,rfl,rfl,YN _,λy z c h1 h2=>?_,λy hy=>?_,λy c _ h=>?_,λ_=>hd,Around.frames_deeper e0.frames,.inr ⟨rfl,rfl⟩,λb z=>absurd z (noA b),e0.bs,e0.bsz,λb _ _=>noA b,λb z=>absurd z (noA b),e0.funs,e0.frf,e0.tbs⟩,
  rfl,e0.bare,Un.kept hk,⟨_,x.toInCall.ns,λi y v h1 h2 h3=>?_⟩,λy c h=>⟨_,x.cell y c h⟩,e0.hok.fresh (YN _),λy c h=>?_,λp hp=>absurd (show p∈([]:List (Addr×Obj))from hp) x_,e0.hok.kept hk,?_⟩
 . exact name_of_addr x.apart (aac h1) (aac h2)
 .
  have hy:scope.names.lookup y=some .cell∨scope.names.lookup y=some .free:=hy;rcases hy with hy|hy
  . exact CL hy
  . exact absurd rfl (S.nofree _ (aac hy))
 . exact ZX (x.above y c (aac h))
 .
  have hi:i<vs.length:=by
   unfold vw at h2;by_cases hi:i<vs.length
   . exact hi
   . rw[Y6 (by simpa using hi)]at h2;rw[List.getElem?_replicate]at h2;split at h2<;>cases h2
  have ha:vs[i]?=some v:=by
   unfold vw at h2;rw[ZG (by simpa using hi),YS]at h2
   cases e:vs[i]? with
   |none=>rw[e]at h2;cases h2
   |some a=>rw[e]at h2;cases h2;rfl
  obtain⟨u,hu,rv⟩:=r.get ha;have hp:ps[i]?=some y:=by rw[<- S.pre,List.getElem?_take_of_lt xL];exact h1
  have ndP:ps.Nodup:=by rw[<- S.pre];exact S.nd.sublist (List.take_sublist _ _)
  refine⟨u,rv,?_⟩;rcases S.par y (List.mem_of_getElem? hp)with k|k
  . exact .inl ⟨k,y9 ndP hp hu k⟩
  . obtain⟨c,e⟩:=CL (n:=s.heap.objs.size+1) k;refine .inr ⟨.inl k,c,e,?_⟩;have q:=x.cell y c e;rw[za ndP hp hu (by show scope.names.lookup y≠_;rw[k];decide)]at q;exact q
 . exact .inl (e0.hok.fresh (ZX (x.above y c (aac h))))
 . unfold vw;show _=N.length;rw[Y4,YD,List.length_replicate];omega
theorem Ph{CX:UE}{P:Program}{w:World}{K:W.Frag}{mg:Str->Option Value}{base:Heap}{k:Nat}{f:Addr}{name qual:Str}{params:Arguments}{body:List Stmt}{scope:Scope}{dV kV doc pm cdv ct oc:Value}{an od:Option Addr}
  {osl:Array (Option Value)} {N ps:List Str} {sp:Sp} (lk:K.lookup f=some ⟨oc,od,.func (W.fnOf name qual params body scope dV kV doc pm an cdv ct),osl⟩) (hcd:W.codeIn K cdv qual=true) (S:aB N ps scope)
  (len:∀vs H Q E,sp vs H Q E->vs.length=ps.length)
  (hbody:∀(A:Around)(outer:List Env)(s:Shared)(H:Hp)(vs:List V)(Q:VK)(E:XK),m6 k (A.deeper (envOfC qual scope s.heap.objs.size f cdv))->sp vs H Q E ->
   ∃t,Uk (LF CX P w K mg base N qual scope f cdv A outer s H E) body t/\t {nx:=λ_ H'=>Q .non H',rt:=Q} (vw N vs) H) :
  FnOk P w K mg base CX (k+1) f (W.fnOf name qual params body scope dV kV doc pm an cdv ct) ps sp:=by
 refine⟨len,λA outer s H args us vs Q E hr e0 hb r hsp=>?_⟩;have hl:=len _ _ _ _ hsp;have KX:K.In s.heap:=e0.mod.kin.keeps λb o e=>(e0.bs b o e).1;have lim:s.heap.NoLimit:=e0.mod.nolimit.keeps λb o e=>(e0.bs b o e).1
 have hkind:∀y∈ps.zip us,scope.names.lookup y.1=some .local∨(scope.names.lookup y.1=some .cell/\((cellsFrom (s.heap.objs.size+1) scope.names []).lookup y.1).isSome=true):=fun⟨n,v⟩ hy=>by
  rcases S.par n (aaX hy).1 with q|q
  . exact .inl q
  . exact .inr ⟨q,W.cellsFrom_some _ _ _ (.inl q)⟩
 refine codeAny_call_function hr.depth (KX _ _ lk) rfl S.co S.gen rfl (W.codeRec_of KX hcd) (hb _ _ _ _ ?_);refine wpAny_newFunctionEnv_cells S.kind hkind λenv he s1 x=>?_;subst he;refine⟨lim.keeps x.toInCall.keep,codeAny_func ?_⟩;obtain⟨t,ht,hq⟩:=hbody A outer s H vs Q E (hr.deeper _) hsp;have I:Uh (LF CX P w K mg base N qual scope f cdv A outer s H E) [] (vw N vs) H s1:=FI S hr.hd e0 hl r x;refine aaz (ht [] s1 (vw N vs) H _ I hq) (λfl s' hs=>?_) λe s' hs=>hs
 have Uo:∀{σ':St}{H':Hp}{v:V}{u:Value},Uh (LF CX P w K mg base N qual scope f cdv A outer s H E) [] σ' H' s'->cJ v u->Q v H'->CE outer P w H s Q u s' :=
  λ{σ' H' v u} J rv q=>⟨v,H',J.os,J.bare,J.base,J.hok,rv,q⟩
 cases fl with
 | ret u =>
  obtain⟨v,σ',H',J,rv,q⟩:=hs;exact Uo J rv q
 | next =>
  obtain⟨σ',H',J,q⟩:=hs;exact Uo (v:=V.non) (u:=Value.none) J rfl q
 | brk =>
  obtain⟨_,_,_,q⟩:=hs;exact False.elim q
 | cont =>
  obtain⟨_,_,_,q⟩:=hs;exact False.elim q
section
variable{X:Cx}{x:Str}{p pos:Pos}{e:Expr}{es:List Expr}{t:TA}{id:String}{r:List V->Hp->VK->Prop}
def UF(r:List V->Hp->VK->Prop)(t:TA):TE:=λσ H Q=>t σ H λvs H1=>r vs H1 Q
theorem CM(hc:kj X (.builtin id) r)(hg:Gl X x)(hm:X.mg x=none)(hv:bootBuiltins x=some (.builtin id))(ha:PA X (e::es) t) (hn:x≠"__name__":=by decide) (hdb:adf x:=by decide)
  (he:starEach (e::es) X.env=(false,eval e X.env)::starEach es X.env:=by rfl) (hpl:(backTo pos (starEach es X.env)).any (·.1)=false:=by rfl):PE X (.Call (.Name x p) (e::es) [] pos) (UF r t):=by
 intro ab s σ H Q I h;refine aaI (oB I hg hm hv ?_ hn hdb);exact PyProof.Rows.callWith_builtin1 (Ul (ha pos ab s σ H _ I h) λus s1 ⟨vs,H1,I1,r1,q1⟩=>hc ab s1 σ H1 vs us Q I1 r1 q1) he hpl
end
end L2
namespace HT
open PySem PyProof.Rows
section
variable{prog:Program}{w:World}{A:Around}{E:Value->Shared->Prop}{s:Shared}
noncomputable def sIx(n d:Nat):Option Int->Nat
 |none=>d
 |some v=>if v<0 then(v+(n:Int)).toNat else min v.toNat n
theorem Pi(n d:Nat)(hd:d<=n)(o:Option Int):sIx n d o<=n:=by
 cases o with
 |none=>exact hd
 | some v =>
  show(if v<0 then(v+(n:Int)).toNat else min v.toNat n)<=n
  by_cases hv:v<0
  . rw[if_pos hv];omega
  . rw[if_neg hv];exact Nat.min_le_right _ _
theorem FJ(v:Int)(n d:Nat):(if v<0 then max (v+(n:Int)) 0 else min v (n:Int))=((sIx n d (some v):Nat):Int):=by
 show(if v<0 then max (v+(n:Int)) 0 else min v (n:Int))=(((if v<0 then(v+(n:Int)).toNat else min v.toNat n):Nat):Int)
 by_cases hv:v<0
 . simp only[if_pos hv];omega
 . simp only[if_neg hv];omega
theorem D4(lo hi:Option Int)(n:Nat):Builtin.Slice.sliceAdjust lo hi 1 (n:Int)=(((sIx n 0 lo:Nat):Int),((sIx n n hi:Nat):Int)):=by
 have h1:¬((1:Int)<0):=by omega
 unfold Builtin.Slice.sliceAdjust;simp only[h1,aaa];refine Prod.ext ?_ ?_
 .
  cases lo with
  |none=>rfl
  |some v=>exact FJ v n 0
 .
  cases hi with
  |none=>rfl
  |some v=>exact FJ v n n
theorem D5(i j:Nat):Builtin.Slice.slicePlaces (i:Int) (j:Int) 1=j-i:=by
 unfold Builtin.Slice.slicePlaces;have h1:(1:Int) > 0:=by omega
 simp only[h1,aad,Int.ediv_one];split<;>omega
theorem wd{v:Value}{o:Option Int}{Q:Option Int->Shared->Prop}(p:IsPart v o)(h:Q o s):wpAny (model prog w) A (Builtin.Slice.slicePartIndex v) Q E s:=by
 cases p with
 |none=>exact slicePart_none h
 |int i t=>exact slicePart_int h
theorem rR{sl:Addr}{vl vu:Value}{lo hi:Option Int}{n:Nat}{Q:Int×Int×Nat->Shared->Prop}(hs:s.heap.IsSliceOf sl vl vu .none)(pl:IsPart vl lo)(pu:IsPart vu hi)
  (h:Q (((sIx n 0 lo:Nat):Int),1,sIx n n hi-sIx n 0 lo) s):wpAny (model prog w) A (Builtin.Slice.sliceApplied (.ref sl) (pure (n:Int))) Q E s:=by
 obtain⟨os,hos,hcs,hds⟩:=id hs;unfold Builtin.Slice.sliceApplied Builtin.Slice.sliceFields;refine YE (YE (wpAny_field hos hds (x:=vl) rfl (YE (wpAny_field hos hds (x:=vu) rfl (YE (wpAny_field hos hds (x:=.none) rfl (YX ?_)))))));refine YE (slicePart_none ?_)
 show wpAny _ _ (if((1:Int) == 0)=true then _ else _) _ _ s
 rw[if_neg (by decide)];refine YE (wd pl (YE (wd pu (YE (YX ?_)))))
 show wpAny _ _ (match Builtin.Slice.sliceAdjust lo hi 1 (n:Int)with|(lo,hi)=>pure (lo,(1:Int),Builtin.Slice.slicePlaces lo hi 1)) _ _ s
 rw[D4 lo hi n];show wpAny _ _ (pure (((sIx n 0 lo:Nat):Int),(1:Int),Builtin.Slice.slicePlaces ((sIx n 0 lo:Nat):Int) ((sIx n n hi:Nat):Int) 1)) _ _ s;rw[D5];exact YX h
theorem Jv(xs:Array Value)(i k:Nat):((List.range k).filterMap λ(m:Nat)=>xs[((i:Int)+(m:Int)*1).toNat]?).toArray=((xs.toList.drop i).take k).toArray:=by
 have e:(λ(m:Nat)=>xs[((i:Int)+(m:Int)*1).toNat]?)=λm=>xs[i+m]?:=by
  funext m
  have:((i:Int)+(m:Int)*1).toNat=i+m:=by omega
  rw[this]
 rw[e];have:=pick_run xs i k;rw[List.filterMap_map]at this;have e2:((λx=>xs[x]?) ∘ λx=>i+x)=λm=>xs[i+m]?:=rfl;rw[e2]at this;rw[this]
theorem getItem_tuple_cut{t sl:Addr}{items:Array Value}{vl vu:Value}{lo hi:Option Int}{Q:Value->Shared->Prop}(ht:IsTup s.heap t items)(hs:s.heap.IsSliceOf sl vl vu .none)(pl:IsPart vl lo)(pu:IsPart vu hi)
  (hw:¬(sIx items.size 0 lo=0/\sIx items.size items.size hi=items.size))
  (h:Q (.ref s.heap.objs.size) {s with heap:=s.heap.push {cls:=.type "tuple",data:=.seq ((items.toList.drop (sIx items.size 0 lo)).take (sIx items.size items.size hi-sIx items.size 0 lo)).toArray} })
  (hsz:items.size<=sizeLine):wpAny (model prog w) A (getItem (.ref t) (.ref sl)) Q E s:=by
 have htake:sizeOk (.seq ((items.toList.drop (sIx items.size 0 lo)).take (sIx items.size items.size hi-sIx items.size 0 lo)).toArray):=by show((items.toList.drop (sIx items.size 0 lo)).take (sIx items.size items.size hi-sIx items.size 0 lo)).toArray.size<=sizeLine;rw[YT,Zz,Z5,Array.length_toList];omega
 have hj:sIx items.size items.size hi<=items.size:=Pi _ _ (YN _) hi;obtain⟨os,hos,hcs,hds⟩:=id hs;have hTs:s.TypeIs (.ref sl) "slice":=⟨os,hos,hcs⟩;unfold getItem
 try with_reducible refine ZQ ?_
 first|refine YE (YX ?_)|skip
 refine YE (wpAny_sequenceKey ht.typeIs xp ?_)
 refine YE (wpAny_callSpecial?_slot (name:=Str.ofString "__getitem__") ht.typeIs PyProof.Rows.slot_tuple_getitem
  (wpAny_call_entry PyProof.Rows.slot_tuple_getitem ht.typeIs entry_tuple_getitem ?_ (args_tuple_getitem _ _)))
 show wpAny _ _ (Builtin.Tuple.tupleItemsOf (.ref t) >>= _) _ _ s;refine YE (tupleItemsOf_ ht ?_);refine YE (wpAny_typeOf hTs ?_);rw[if_pos (by decide)];refine YE (rR hs pl pu ?_);have hno:¬((((sIx items.size 0 lo:Nat):Int) == 0 && (1:Int) == 1 && (sIx items.size items.size hi-sIx items.size 0 lo) == items.size)=true):=by intro q;rw[YV,YV]at q;have q1:((sIx items.size 0 lo:Nat):Int)=0:=eq_of_beq q.1.1;have q2:sIx items.size items.size hi-sIx items.size 0 lo=items.size:=eq_of_beq q.2;exact hw ⟨xL,xL⟩
 show wpAny _ _ (if(((sIx items.size 0 lo:Nat):Int) == 0 && (1:Int) == 1 && (sIx items.size items.size hi-sIx items.size 0 lo) == items.size)=true then _ else _) _ _ s
 rw[if_neg hno,Jv]
 first
  |exact YE (m:=Builtin.Tuple.tupleExact _) (aaV (YX ⟨_,rfl,YX h⟩) htake)
  |exact YE (m:=Builtin.Tuple.tupleExact _) (aaV (YE (YX (YX ⟨_,rfl,YX h⟩))) htake)
  |exact YE (YE (m:=Builtin.Tuple.tupleExact _) (aaV (YX (YX ⟨_,rfl,YX h⟩)) htake))
  |exact YE (YE (m:=Builtin.Tuple.tupleExact _) (aaV (YX ⟨_,rfl,YX h⟩) htake))
end
end HT
namespace L2
open PySem PySem.Spec PyProof.Rows
noncomputable abbrev TO:=St->Hp->(Option Int->Hp->Prop)->Prop
def PO(X:Cx)(e:Option Expr)(t:TO):Prop :=
 ∀(ab:List (Addr×Obj))(s:Shared)(σ:St)(H:Hp)(Q:Option Int->Hp->Prop),Uh X ab σ H s->t σ H Q ->
  wpAny (model X.prog X.w) X.A (evalPart e X.env) (λu s'=>∃o H',Uh X ab σ H' s'/\IsPart u o/\Q o H') X.xe s
noncomputable def MF:TO:=λ_ H Q=>Q none H
noncomputable def Rp(t:TE):TO:=λσ H Q=>t σ H λx H1=>∃i,x=.int i/\Q (some i) H1
section
variable{X:Cx}{e:Expr}{te:TE}{lo hi:Option Expr}{tl th:TO}{pos p2:Pos}
theorem MG:PO X none MF:=by intro ab s σ H Q I h;rw[evalPart_none];exact YX ⟨none,H,I,.none,h⟩
theorem MH(h:PE X e te):PO X (some e) (Rp te):=by intro ab s σ H Q I hw;rw[evalPart_some];refine Ul (h ab s σ H _ I hw) λu s1 ⟨x,H1,I1,r1,q1⟩=>?_;obtain⟨i,rfl,q⟩:=q1;obtain⟨t,rfl⟩:=r1;exact⟨some i,H1,I1,.int i t,q⟩
def UG(X:Cx)(r:V->Option Int->Option Int->Hp->VK->Prop):Prop :=
 ∀(ab:List (Addr×Obj))(s:Shared)(σ:St)(H:Hp)(x:V)(v vl vu:Value)(lo hi:Option Int)(sl:Addr)(Q:VK),Uh X ab σ H s->cJ x v->s.heap.IsSliceOf sl vl vu .none->IsPart vl lo->IsPart vu hi->r x lo hi H Q ->
  ∃ T id,typeLookup (.type T) "__getitem__"=pure (some (.builtin id))/\s.TypeIs v T/\wpAny (model X.prog X.w) X.A (getItem v (.ref sl)) (EP X ab σ Q) X.xe s
theorem UG.or{r r':V->Option Int->Option Int->Hp->VK->Prop}(h:UG X r)(h':UG X r'):UG X (λx lo hi H Q=>r x lo hi H Q∨r' x lo hi H Q):=by
 intro ab s σ H x v vl vu lo hi sl Q I rx hs pl pu q;rcases q with q|q
 . exact h ab s σ H x v vl vu lo hi sl Q I rx hs pl pu q
 . exact h' ab s σ H x v vl vu lo hi sl Q I rx hs pl pu q
def UH(r:V->Option Int->Option Int->Hp->VK->Prop)(te:TE)(tl th:TO):TE:=λσ H Q=>te σ H λx H1=>tl σ H1 λl H2=>th σ H2 λu H3=>r x l u H3 Q
theorem Jw{r:V->Option Int->Option Int->Hp->VK->Prop}(hr:UG X r)(he:PE X e te)(hl:PO X lo tl)(hu:PO X hi th):PE X (.Subscript e (.Slice lo hi none p2) pos) (UH r te tl th):=by intro ab s σ H Q I h;refine Subscript_ (Ul (he ab s σ H _ I h) λv s1 ⟨x,H1,I1,r1,q1⟩=>?_);refine wpAny_Slice (Ul (hl ab s1 σ H1 _ I1 q1) λvl s2 ⟨l,H2,I2,pl,q2⟩=>Ul (hu ab s2 σ H2 _ I2 q2) λvu s3 ⟨u,H3,I3,pu,q3⟩=>?_);rw[evalPart_none];refine YX ?_;have I4:Uh X ab σ H3 {s3 with heap:=s3.heap.push {cls:=.type "slice",data:=.fields #[vl,vu,.none] } }:=I3.kept (t':=s3.toks) λb ob q=>YG _ q;obtain⟨T,id,hT,ht,hg⟩:=hr ab {s3 with heap:=s3.heap.push {cls:=.type "slice",data:=.fields #[vl,vu,.none] } } σ H3 x v vl vu l u s3.heap.objs.size Q I4 r1 (Heap.IsSliceOf.new ..) pl pu q3;show wpAny (model X.prog X.w) X.A (subscriptTail e (.Slice lo hi none p2) v (.ref s3.heap.objs.size)) (EP X ab σ Q) X.xe {s3 with heap:=s3.heap.push {cls:=.type "slice",data:=.fields #[vl,vu,.none] } };exact tail_any (ops:=[.ref s3.heap.objs.size,v]) ht hT hg (by with_unfolding_all rfl)
noncomputable def LG(xs:List V)(lo hi:Option Int):List V:=(xs.drop (HT.sIx xs.length 0 lo)).take (HT.sIx xs.length xs.length hi-HT.sIx xs.length 0 lo)
theorem sX(xs:List V)(lo hi:Option Int):(LG xs lo hi).length<=xs.length:=by unfold LG;rw[Zz,Z5];omega
def Th(K:W.Frag):V->Option Int->Option Int->Hp->VK->Prop:=λx lo hi H Q=>∃a xs,x=.ref a/\Uq K H a xs /\
 ¬(HT.sIx xs.length 0 lo=0/\HT.sIx xs.length xs.length hi=xs.length)/\∀p,H p=none->Q (.ref p) (TY H p (.tup (LG xs lo hi)))
theorem Pj:UG X (Th X.K):=by
 intro ab s σ H x v vl vu lo hi sl Q I rx hs pl pu h;obtain⟨a,xs,rfl,hx,hw,q⟩:=h;cases rx;obtain⟨its,r,ht,hz⟩:=I.tuple hx;have b0:its.toArray.size=xs.length:=by rw[YT];exact r.length.symm
 refine⟨"tuple",_,PyProof.Rows.slot_tuple_getitem.lookup,ht.typeIs,?_⟩;refine HT.getItem_tuple_cut ht hs pl pu (by rw[b0];exact hw) ?_ (by rw[b0];exact hz);rw[b0];refine⟨.ref s.heap.objs.size,_,I.laid (t':=s.toks) (o:=.tup (LG xs lo hi)) (λb ob q=>YG _ q) (YN _) ?_,rfl,q _ (I.hok.fresh (YN _))⟩;exact⟨YH (sX xs lo hi) hz,_,(r.drop (HT.sIx xs.length 0 lo)).take (HT.sIx xs.length xs.length hi-HT.sIx xs.length 0 lo),IsTup.new _ _⟩
end
noncomputable def UI(n:Nat)(i:Int):Option Nat:=if 0<=i then(if i<n then some i.toNat else none)else if -(n:Int)<=i then some (i+n).toNat else none
noncomputable def UJ{α:Type}(xs:List α)(i:Int):Option α:=(UI xs.length i).bind λj=>xs[j]?
theorem FK{n:Nat}{i:Int}{j:Nat}(h:UI n i=some j):seqIndex? i n=some j/\j<n/\-(n:Int)<=i/\i<n:=by
 unfold UI at h;by_cases h0:0<=i
 .
  rw[if_pos h0]at h;by_cases h1:i<n
  . rw[if_pos h1]at h;have e:i.toNat=j:=Y5 h;exact⟨by rw[seqIndex_of h0 h1,e],xL,xL,h1⟩
  . rw[if_neg h1]at h;cases h
 .
  rw[if_neg h0]at h;by_cases h1 : -(n:Int)<=i
  . rw[if_pos h1]at h;have e:(i+n).toNat=j:=Y5 h;exact⟨by rw[seqIndex_neg xL h1,e],xL,h1,xL⟩
  . rw[if_neg h1]at h;cases h
theorem A6{α:Type}{xs:List α}{i:Int}{v:α}(h:UJ xs i=some v):∃j,seqIndex? i xs.length=some j/\xs[j]?=some v/\j<xs.length/\-(xs.length:Int)<=i/\i<xs.length:=by
 unfold UJ at h
 cases e:UI xs.length i with
 |none=>rw[e]at h;cases h
 | some j =>
  rw[e]at h;obtain⟨h1,h2,h3,h4⟩:=FK e;exact⟨j,h1,h,h2,h3,h4⟩
theorem jb{α:Type}{xs:List α}{j:Nat}{v:α}(h:xs[j]?=some v):UJ xs (j:Int)=some v:=by
 have hj:j<xs.length:=(YA.mp h).1;have e:UI xs.length (j:Int)=some j:=by unfold UI;rw[if_pos (by omega),if_pos (by omega)];simp
 unfold UJ;rw[e];exact h
def A7(b:Expr):Prop:=∀o i,subscripted b false o i=operate [o,i] (getItem o i)
def UK(X:Cx)(r:R2):Prop :=
 ∀(value slice:Expr)(ab:List (Addr×Obj))(s:Shared)(σ:St)(H:Hp)(x y:V)(v u:Value)(Q:VK),Uh X ab σ H s->cJ x v->cJ y u->r x y H Q ->
  subscripted slice false v u=operate [v,u] (getItem v u)->wpAny (model X.prog X.w) X.A (subscriptTail value slice v u) (EP X ab σ Q) X.xe s
def UL(X:Cx)(id:String)(r:V->List V->Hp->VK->Prop):Prop :=
 ∀(ab:List (Addr×Obj))(s:Shared)(σ:St)(H:Hp)(x:V)(xs:List V)(v:Value)(us:List Value)(Q:VK),Uh X ab σ H s->cJ x v->cC xs us->r x xs H Q ->
  wpAny (model X.prog X.w) X.A (call (.builtin id) (v::us)) (EP X ab σ Q) X.xe s
section
variable{X:Cx}{a b:Expr}{ta tb:TE}{pos:Pos}
theorem Rq{r:R2}(hr:UK X r)(ha:PE X a ta)(hb:PE X b tb)(hs:A7 b):PE X (.Subscript a b pos) (Uz r ta tb):=by intro ab s σ H Q I h;exact Subscript_ (Td ha hb I h λv u s2 x y H2 I2 rx ry q=>hr a b ab s2 σ H2 x y v u Q I2 rx ry q (hs _ _))
def Ti(K:W.Frag):R2:=λx y H Q=>∃p xs i v,x=.ref p/\y=.int i/\Up K H p xs/\UJ xs i=some v/\Q v H
def Tj(K:W.Frag):R2:=λx y H Q=>∃p xs i v,x=.ref p/\y=.int i/\Uq K H p xs/\UJ xs i=some v/\Q v H
def Tn:R2:=λx y H Q=>∃z i c,x=.str z/\y=.int i/\z.length<=sizeLine/\UJ z.cps.toList i=some c/\Q (.str ⟨#[c]⟩) H
theorem FL:UK X (Ti X.K):=by
 intro value slice ab s σ H x y v u Q I rx ry h hs;obtain⟨p,xs,i,z,rfl,rfl,hq,he,q⟩:=h;cases rx;obtain⟨t,rfl⟩:=ry;obtain⟨its,r,pl,hz⟩:=I.list hq;obtain⟨j,h1,h2,h3,h4,h5⟩:=A6 he;obtain⟨w,ew,rw'⟩:=r.get h2;have hl:=r.length;have hn:=wc;have Uo:EP X ab σ Q w s:=⟨z,H,I,rw',q⟩;by_cases h0:0<=i
 .
  have hj:i.toNat=j:=by rw[seqIndex_of h0 h5]at h1;exact Y5 h1
  exact item_listR pl.isList h0 xL (by rw[hj];simpa using ew) Uo hs
 .
  have hj:(i+(its.toArray.size:Int)).toNat=j:=by rw[seqIndex_neg xL h4]at h1;rw[YT,<- hl];exact Y5 h1
  exact subscriptTail_builtinR (x:=w) pl.isList.typeIs slot_list_getitem.lookup
   (wpAny_getItem_list_neg (Q:=λr s'=>r=w/\EP X ab σ Q r s') pl.isList xL (by rw[YT]<;>omega) xL (by rw[hj];simpa using ew) ⟨rfl,Uo⟩) hs
theorem Pk:UK X (Tj X.K):=by
 intro value slice ab s σ H x y v u Q I rx ry h hs;obtain⟨p,xs,i,z,rfl,rfl,hq,he,q⟩:=h;cases rx;obtain⟨t,rfl⟩:=ry;obtain⟨its,r,pl,hz⟩:=I.tuple hq;obtain⟨j,h1,h2,h3,h4,h5⟩:=A6 he;obtain⟨w,ew,rw'⟩:=r.get h2;have hl:=r.length;have hn:=wc;have Uo:EP X ab σ Q w s:=⟨z,H,I,rw',q⟩
 exact subscriptTail_builtinR (x:=w) pl.typeIs slot_tuple_getitem.lookup
  (getItem_tuple (j:=j) (Q:=λr s'=>r=w/\EP X ab σ Q r s') pl xL xL (by rw[YT,<- hl];exact h1) (by simpa using ew) ⟨rfl,Uo⟩) hs
theorem Pl:UK X Tn:=by
 intro value slice ab s σ H x y v u Q I rx ry h hs;obtain⟨z,i,c,rfl,rfl,hz,he,q⟩:=h;obtain⟨t,rfl⟩:=rx;obtain⟨t',rfl⟩:=ry;obtain⟨j,h1,h2,h3,h4,h5⟩:=A6 he;have hl:z.cps.toList.length=z.length:=by simp[Str.length]
 rw[hl]at h1 h4 h5;have hn:=wc
 exact tail_any (typeIs_str s z t) slot_str_getitem.lookup (getItem_str (c:=c) (by
  have e1:decide (i < -(2^63:Int))=false:=YZ xL;have e2:decide (i≥2^63)=false:=YZ xL
  rw[e1,e2,Bool.or_false]) (by rw[h1];simpa using h2) ⟨.str ⟨#[c]⟩,H,I.tok _,⟨_,rfl⟩,q⟩) hs
theorem D6(its:List Value)(n j:Nat)(u:Value):Obj.mapSeq (·.setIfInBounds j u) {cls:=.type "list",data:=.seq its.toArray n}={cls:=.type "list",data:=.seq (its.set j u).toArray n}:=by simp[Obj.mapSeq]
theorem Uh.lst{ab:List (Addr×Obj)}{σ:St}{H:Hp}{s:Shared}{p:Addr}{xs:List V}(I:Uh X ab σ H s)(h:H p=some (.lst xs)) :
  ∃(its:List Value)(n:Nat),cC xs its/\s.heap.get? p=some {cls:=.type "list",data:=.seq its.toArray n}/\xs.length<=sizeLine:=by
 obtain⟨z,its,n,r,e⟩:=I.hok p _ h;exact⟨its,n,r,e,z⟩
theorem Uh.lstUpd{ab:List (Addr×Obj)}{σ:St}{H:Hp}{s:Shared}{p:Addr}{xs ys:List V}{its its':List Value}{n n':Nat}{f:Obj->Obj}(I:Uh X ab σ H s)(h:H p=some (.lst xs))
  (ho:s.heap.get? p=some {cls:=.type "list",data:=.seq its.toArray n}) (hf:f {cls:=.type "list",data:=.seq its.toArray n}={cls:=.type "list",data:=.seq its'.toArray n' }) (r:cC ys its') (hz:ys.length<=sizeLine) (t:Nat) :
  Uh X ab σ (TY H p (.lst ys)) {s with heap:=s.heap.update p f,toks:=t}:=by
 have e:(s.heap.update p f).get? p=some {cls:=.type "list",data:=.seq its'.toArray n' }:=by rw[Heap.get?_update_self f ho (by rw[hf]<;>rfl),hf]
 refine I.write (x:=p) (e:=p) (by rw[h];trivial) (.inl rfl) (λb u hb q=>(Heap.get?_update_other _ _ (Z4 hb)).trans q) ⟨_,e⟩ ?_;exact⟨hz,its',n',r,e⟩
def Rr:V->V->V->Hp->(Hp->Prop)->Prop:=λo i v H Q=>∃p xs k j,o=.ref p/\i=.int k/\H p=some (.lst xs)/\UI xs.length k=some j/\Q (TY H p (.lst (xs.set j v)))
theorem Jx:Ss X Rr:=by
 intro ab s σ H o i v ov iv u Q I ro ri rv h;obtain⟨p,xs,k,j,rfl,rfl,hp,hj,q⟩:=h;cases ro;obtain⟨t,rfl⟩:=ri;obtain⟨its,n,r,ho,hz⟩:=I.lst hp;obtain⟨h1,h2,h3,h4⟩:=FK hj;have hl:=r.length;have hn:=wc
 have I':Uh X ab σ (TY H p (.lst (xs.set j v))) {s with heap:=s.heap.update p (Obj.mapSeq (·.setIfInBounds j u)) } :=
  I.lstUpd hp ho (D6 its n j u) (r.set rv j) (by rw[aah];exact hz) s.toks
 by_cases h0:0<=k
 .
  have hk:k.toNat=j:=by rw[seqIndex_of h0 h4]at h1;exact Y5 h1
  exact W.ki_setAt ho h0 xL (by rw[YT,<- hl];exact h4) (by rw[hk];exact⟨_,I',q⟩)
 .
  have hk:(k+(its.toArray.size:Int)).toNat=j:=by rw[seqIndex_neg xL h3]at h1;rw[YT,<- hl];exact Y5 h1
  exact W.ki_setBack ho xL (by rw[YT,<- hl];exact h3) xL (by rw[hk];exact⟨_,I',q⟩)
theorem zb(lo hi:Option Int)(n:Nat):(sliceBounds lo hi none n).1=((HT.sIx n 0 lo:Nat):Int)/\(sliceBounds lo hi none n).2.1=((HT.sIx n n hi:Nat):Int)/\(sliceBounds lo hi none n).2.2=1:=by
 refine⟨?_,?_,rfl⟩
 .
  cases lo with
  |none=>simp[sliceBounds,HT.sIx]
  | some i =>
   simp only[sliceBounds,HT.sIx,Option.getD_none,show(1:Int) > 0 by decide,aad];by_cases h:i<0
   . simp only[h,aad]<;>omega
   . simp only[h,aaa]<;>omega
 .
  cases hi with
  |none=>simp[sliceBounds,HT.sIx]
  | some i =>
   simp only[sliceBounds,HT.sIx,Option.getD_none,show(1:Int) > 0 by decide,aad];by_cases h:i<0
   . simp only[h,aad]<;>omega
   . simp only[h,aaa]<;>omega
theorem w8(its:List Value)(lo hi:Option Int):slicePick its.toArray lo hi none=((its.drop (HT.sIx its.length 0 lo)).take (HT.sIx its.length its.length hi-HT.sIx its.length 0 lo)).toArray:=by obtain⟨h1,h2,h3⟩:=zb lo hi its.toArray.size;unfold slicePick;rw[h1,h2,h3];simp only[sliceRange_one,pick_run,YT]<;>rfl
def To(K:W.Frag):V->Option Int->Option Int->Hp->VK->Prop:=λx lo hi H Q=>∃a xs,x=.ref a/\Up K H a xs/\∀p,H p=none->Q (.ref p) (TY H p (.lst (LG xs lo hi)))
theorem MI:UG X (To X.K):=by intro ab s σ H x v vl vu lo hi sl Q I rx hs pl pu h;obtain⟨a,xs,rfl,hx,q⟩:=h;cases rx;obtain⟨its,r,ht,hz⟩:=I.list hx;have b0:=r.length;refine⟨"list",_,slot_list_getitem.lookup,ht.isList.typeIs,?_⟩;refine wpAny_getItem_list_slice ht.isList hs pl pu .none x_ ?_ (by rw[YT]<;>omega);rw[w8,<- b0];refine⟨.ref s.heap.objs.size,_,I.laid (t':=s.toks) (o:=.lst (LG xs lo hi)) (λb ob q=>YG _ q) (YN _) ?_,rfl,q _ (I.hok.fresh (YN _))⟩;exact⟨YH (sX xs lo hi) hz,_,0,(r.drop (HT.sIx xs.length 0 lo)).take (HT.sIx xs.length xs.length hi-HT.sIx xs.length 0 lo),Y2 _ rfl⟩
noncomputable def vx:V->Bool
 |.non=>true
 |.bl _=>true
 |.int _=>true
 |.str _=>true
 |_=>false
noncomputable def UM:V->V->Bool
 |.non,.non=>true
 |.bl a,.bl b=>a == b
 |.bl a,.int b=>(if a then 1 else 0) == b
 |.int a,.bl b=>a == (if b then 1 else 0)
 |.int a,.int b=>a == b
 |.str a,.str b=>a == b
 |_,_=>false
theorem Pn{A:Around}{s:Shared}{y x:V}{u v:Value}(ry:cJ y u)(rx:cJ x v)(fy:vx y=true)(fx:vx x=true):SeqAt.EqAt A s u v (UM y x):=by
 cases y with
 | non =>
  cases ry
  cases x with
  |non=>cases rx;exact SeqAt.EqAt.same _
  |bl b=>cases rx;exact SeqAt.EqAt.none_bool b
  |int b=>obtain⟨t,rfl⟩:=rx;exact SeqAt.EqAt.none_int b t
  |str b=>obtain⟨t,rfl⟩:=rx;exact SeqAt.EqAt.none_str b t
  |_=>exact absurd (show false=true from fx) ZC
 | bl a =>
  cases ry
  cases x with
  |non=>cases rx;exact SeqAt.EqAt.bool_none a
  |bl b=>cases rx;exact SeqAt.EqAt.bool_bool a b
  |int b=>obtain⟨t,rfl⟩:=rx;exact SeqAt.EqAt.bool_int a b t
  |str b=>obtain⟨t,rfl⟩:=rx;exact SeqAt.EqAt.bool_str a b t
  |_=>exact absurd (show false=true from fx) ZC
 | int a =>
  obtain⟨t',rfl⟩:=ry
  cases x with
  |non=>cases rx;exact SeqAt.EqAt.int_none a t'
  |bl b=>cases rx;exact SeqAt.EqAt.int_bool a t' b
  |int b=>obtain⟨t,rfl⟩:=rx;exact SeqAt.EqAt.int_int a t' b t
  |str b=>obtain⟨t,rfl⟩:=rx;exact SeqAt.EqAt.int_str a t' b t
  |_=>exact absurd (show false=true from fx) ZC
 | str a =>
  obtain⟨t',rfl⟩:=ry
  cases x with
  |non=>cases rx;exact SeqAt.EqAt.str_none a t'
  |bl b=>cases rx;exact SeqAt.EqAt.str_bool a t' b
  |int b=>obtain⟨t,rfl⟩:=rx;exact SeqAt.EqAt.str_int a t' b t
  |str b=>obtain⟨t,rfl⟩:=rx;exact SeqAt.EqAt.str_str a t' b t
  |_=>exact absurd (show false=true from fx) ZC
 |_=>exact absurd (show false=true from fy) ZC
noncomputable def UN(x:V)(u:Value):Bool:=match u with
 |.none=>UM .non x
 |.bool b=>UM (.bl b) x
 |.int i _=>UM (.int i) x
 |.str z _=>UM (.str z) x
 |_=>false
theorem LH{x y:V}{u:Value}(r:cJ y u)(f:vx y=true):UN x u=UM y x:=by
 cases y with
 |non=>cases r;rfl
 |bl b=>cases r;rfl
 |int i=>obtain⟨t,rfl⟩:=r;rfl
 |str z=>obtain⟨t,rfl⟩:=r;rfl
 |_=>exact absurd (show false=true from f) ZC
theorem A8{x:V}:∀{xs:List V}{us:List Value},cC xs us->xs.all vx=true->us.any (UN x)=xs.any λy=>UM y x
 |_,_,.nil,_=>rfl
 | y::xs,u::us,.cons r t,f=>by rw[List.all_cons,YV]at f;rw[aaF,aaF,LH r f.1,A8 t f.2]
theorem w9{A:Around}{s:Shared}{x:V}{v:Value}(rx:cJ x v)(fx:vx x=true):∀{xs:List V}{us:List Value},cC xs us->xs.all vx=true->∀u∈us,SeqAt.EqAt A s u v (UN x u)
 |_,_,.nil,_=>λu hu=>by cases hu
 | y::xs,u::us,.cons r t,f=>λu' hu=>by
  rw[List.all_cons,YV]at f;rcases YK.mp hu with rfl|hu
  . rw[LH r f.1];exact Pn r rx f.1 fx
  . exact w9 rx fx t f.2 u' hu
noncomputable def UO(x:V)(xs:List V):Bool:=xs.any λy=>UM y x
def UP(K:W.Frag)(neg:Bool):R2:=λx y H Q=>∃p xs,y=.ref p/\(Up K H p xs∨Uq K H p xs)/\vx x=true/\xs.all vx=true/\Q (.bl (if neg then !UO x xs else UO x xs)) H
theorem FM:Ux X (compareOp .In) (UP X.K false):=by
 intro ab s σ H x y v u Q I rx ry h;obtain⟨p,xs,rfl,hq,fx,fs,q⟩:=h;cases ry;rcases hq with hq|hq
 . obtain⟨its,r,pl,hz⟩:=I.list hq;refine SeqAt.in_listAt (UN x) pl.isList (λw hw=>w9 rx fx r fs w (by simpa using hw)) ⟨.bl _,H,I,rfl,?_⟩;rw[show its.toArray.any (UN x)=its.any (UN x) by simp,A8 r fs];exact q
 . obtain⟨its,r,pl,hz⟩:=I.tuple hq;refine SeqAt.in_tupleAt (UN x) pl (λw hw=>w9 rx fx r fs w (by simpa using hw)) ⟨.bl _,H,I,rfl,?_⟩;rw[show its.toArray.any (UN x)=its.any (UN x) by simp,A8 r fs];exact q
theorem rh:kj X (.builtin "len") (λxs H Q=>∃ p ys,xs=[.ref p]/\(Up X.K H p ys∨Uq X.K H p ys)/\Q (.int ys.length) H):=by
 intro ab s σ H xs us Q I r h;obtain⟨p,ys,rfl,hq,q⟩:=h;obtain⟨u,rfl,rx⟩:=w7 r;cases rx;have hn:=wc;rcases hq with hq|hq
 . obtain⟨its,r',pl,hz⟩:=I.list hq;have b0:=r'.length;exact Calls.call_len_list pl.isList (by simp only[YT]<;>omega) ⟨.int ys.length,H,I.tok _,⟨s.toks+1,by rw[YT,b0]⟩,q⟩
 . obtain⟨its,r',pl,hz⟩:=I.tuple hq;have b0:=r'.length;exact len_tuple pl (by simp only[YT]<;>omega) ⟨.int ys.length,H,I.tok _,⟨s.toks+1,by rw[YT,b0]⟩,q⟩
theorem zd:kj X (.builtin "len") (λxs H Q=>∃ z,xs=[.str z]/\z.length<=sizeLine/\Q (.int z.length) H):=by intro ab s σ H xs us Q I r h;obtain⟨z,rfl,hz,q⟩:=h;obtain⟨u,rfl,t,rfl⟩:=w7 r;have hn:=wc;exact len_str xL ⟨.int z.length,H,I.tok _,⟨_,rfl⟩,q⟩
theorem kj.or{f:Value}{r r':List V->Hp->VK->Prop}(h:kj X f r)(h':kj X f r'):kj X f (λxs H Q=>r xs H Q∨r' xs H Q):=by
 intro ab s σ H xs us Q I rs q;rcases q with q|q
 . exact h ab s σ H xs us Q I rs q
 . exact h' ab s σ H xs us Q I rs q
theorem ze:kj X (.type "list") (λxs H Q=>∃ p ys,xs=[.ref p]/\(Up X.K H p ys∨Uq X.K H p ys)/\∀ l,H l=none->Q (.ref l) (TY H l (.lst ys))):=by
 intro ab s σ H xs us Q I r h;obtain⟨p,ys,rfl,hq,q⟩:=h;obtain⟨u,rfl,rx⟩:=w7 r;cases rx
 have Uo:∀(its:List Value),cC ys its->ys.length<=sizeLine->∀(h':Heap)(c':Nat),(∀b o',s.heap.get? b=some o'->h'.get? b=some o') ->
   h'.get? s.heap.objs.size=some {cls:=.type "list",dict:=none,data:=.seq its.toArray c',slots:=#[] }->EP X ab σ Q (.ref s.heap.objs.size) {s with heap:=h' }:=λits r' hz h' c' kp e =>
  ⟨.ref s.heap.objs.size,_,I.laid (t':=s.toks) kp (YN _) (show ip X.prog X.w _ h' _ (.lst ys)from⟨hz,its,c',r',e⟩),rfl,q _ (I.hok.fresh (YN _))⟩
 rcases hq with hq|hq
 . obtain⟨its,r',pl,hz⟩:=I.list hq;have b0:=r'.length;obtain⟨o,ho,hc,n,hd⟩:=pl.isList;exact call_list_seq p (.inl rfl) ho hc hd (λh' c' kp e=>Uo its r' hz h' c' kp e) (by simp only[YT]<;>omega)
 . obtain⟨its,r',pl,hz⟩:=I.tuple hq;have b0:=r'.length;obtain⟨o,ho,hc,n,hd⟩:=pl;exact call_list_seq p (.inr rfl) ho hc hd (λh' c' kp e=>Uo its r' hz h' c' kp e) (by simp only[YT]<;>omega)
def UQ(K:W.Frag)(T:String)(x:V)(H:Hp):Prop:=match x with
 |.str _=>T="str"
 |.int _=>T="int"
 | .ref p=>(T="list"/\∃ xs,Up K H p xs)∨(T="tuple"/\∃ o,K.lookup p=some o/\o.cls=.type "tuple"/\o.dict=none) ∨
   (T="dict"/\((∃ kvs,H p=some (.dK kvs))∨∃ kvs,H p=some (.dT kvs)))∨(T="set"/\∃ S n,H p=some (.set S n))
 |_=>False
theorem Po{ab:List (Addr×Obj)}{σ:St}{H:Hp}{s:Shared}{T:String}{x:V}{v:Value}(I:Uh X ab σ H s)(r:cJ x v)(ty:UQ X.K T x H) :
  s.TypeIs v T/\∀a,v=.ref a->∃ob,s.heap.get? a=some ob/\ob.dict=none:=by
 cases x with
 | str z =>
  obtain⟨t,rfl⟩:=r;cases(show T="str" from ty);exact⟨typeIs_str s z t,λ_ e=>nomatch e⟩
 | int i =>
  obtain⟨t,rfl⟩:=r;cases(show T="int" from ty);exact⟨typeIs_int s i t,λ_ e=>nomatch e⟩
 | ref p =>
  cases r;rcases ty with⟨rfl,xs,hq⟩|⟨rfl,o,hk,hc,hd⟩|⟨rfl,hk⟩|⟨rfl,S,n,hk⟩
  . obtain⟨its,_,pl,_⟩:=I.list hq;refine⟨pl.isList.typeIs,λa e=>?_⟩;cases e;obtain⟨o,n,e,c,hd,_⟩:=pl;exact⟨o,e,hd⟩
  . refine⟨⟨o,I.kIn p o hk,hc⟩,λa e=>?_⟩;cases e;exact⟨o,I.kIn _ o hk,hd⟩
  .
   have z:∃o,s.heap.get? p=some o/\o.ExactDict:=by
    rcases hk with⟨kvs,hk⟩|⟨kvs,hk⟩
    . obtain⟨_,_,_,_,o,_,_,e,ex,_⟩:=I.hok p _ hk;exact⟨o,e,ex⟩
    . obtain⟨_,_,_,_,o,_,_,e,ex,_⟩:=I.hok p _ hk;exact⟨o,e,ex⟩
   obtain⟨o,e,ex⟩:=z;refine⟨⟨o,e,ex.1⟩,λa e2=>?_⟩;cases e2;exact⟨o,e,ex.2.1⟩
  . obtain⟨o,_,_,_,e,ex,_⟩:=I.hok p _ hk;refine⟨⟨o,e,ex.1⟩,λa e2=>?_⟩;cases e2;exact⟨o,e,ex.2.1⟩
 |_=>exact False.elim ty
def UR(K:W.Frag)(T:String)(r:V->List V->Hp->VK->Prop)(to:TE)(t:TA):TE:=λσ H Q=>to σ H λx H1=>UQ K T x H1/\t σ H1 λxs H2=>r x xs H2 Q
variable{o e:Expr}{es:List Expr}{to:TE}{t:TA}{name:Str}{apos cpos:Pos}{T id:String}{r:V->List V->Hp->VK->Prop}
theorem MJ(pa:PlainAttrs T)(slot:Slot T name id) (hty:typeOf (.builtin id)=pure (.type "method_descriptor")) (hm:UL X id r) (ho:PE X o to) (ha:PA X (e::es) t)
  (hbase:attributeBase o name X.env (eval o X.env)=eval o X.env:=by rfl)
  (hfew:((backTo cpos (starEach (e::es) X.env)).all (λx=>!x.1) && (backToKw cpos (keywordEach [] X.env)).all (λx=>x.1.isSome)
   && decide ((e::es).length+([]:List Keyword).length+(if([]:List Keyword).isEmpty then 0 else 1)<30))=true:=by rfl)
  (hline:(apos.endLine == cpos.line)=true:=by rfl) (hs:starEach (e::es) X.env=(false,eval e X.env)::starEach es X.env:=by rfl) (hplain:(backTo cpos (starEach es X.env)).any (·.1)=false:=by rfl) :
  PE X (.Call (.Attribute o name apos) (e::es) [] cpos) (UR X.K T r to t):=by
 intro ab s σ H Q I h;refine wpAny_Call_method_late hbase hfew hline rfl (Ul (ho ab s σ H _ I h) λv s1 ⟨x,H1,I1,r1,ty,q1⟩=>?_);obtain⟨h1,h2⟩:=Po I1 r1 ty;refine⟨T,id,pa,slot,hty,h1,h2,?_⟩;have hA:=ha cpos ab s1 σ H1 _ I1 q1;rw[hs]at hA ⊢;refine Calls.callWith_builtin (by show(false ||(backTo cpos (starEach es X.env)).any (·.1))=false;rw[hplain]<;>rfl) (Calls.evalArgs_plain ?_);exact Ul hA λus s2 ⟨vs,H2,I2,r2,q2⟩=>hm ab s2 σ H2 x vs v us Q I2 r1 r2 q2
/- xs.append(e),list.index on a module's tuple .. are UL facts of 06m -/
end
def US(X:Cx)(id:String)(r:V->List V->Hp->VK->Prop):Prop :=
 ∀(ab:List (Addr×Obj))(s:Shared)(σ:St)(H:Hp)(x:V)(xs:List V)(v:Value)(us:List Value)(Q:VK),Uh X ab σ H s->cJ x v->cC xs us->r x xs H Q ->
  wpAny (model X.prog X.w) X.A (call (.builtin id) (v::us)) (EP X ab σ Q) X.xe s
theorem cC.one:∀{x:V}{us:List Value},cC [x] us->∃u,us=[u]/\cJ x u
 |_,_,.cons r .nil=>⟨_,rfl,r⟩
theorem cC.two:∀{x y:V}{us:List Value},cC [x,y] us->∃u v,us=[u,v]/\cJ x u/\cJ y v:=by
 intro x y us h
 cases h with
 | cons r h =>
  cases h with
  | cons q h =>
   cases h;exact⟨_,_,rfl,r,q⟩
theorem cC.rep{xs:List V}{us:List Value}(h:cC xs us):∀k:Nat,cC (List.replicate k xs).flatten (List.replicate k us).flatten
 |0=>.nil
 | k+1=>by rw[Zp,Zp,aao,aao];exact cC.append h (cC.rep h k)
theorem zg(its:List Value):∀(k:Nat)(acc:List Value),
  List.foldl (λx1 x2=>x1++x2) acc.toArray (List.replicate k its.toArray)=(acc++(List.replicate k its).flatten).toArray
 |0,acc=>by simp
 | k+1,acc=>by
  have e:acc.toArray++its.toArray=(acc++its).toArray:=by simp
  have e2:(acc++its)++(List.replicate k its).flatten=acc++(List.replicate (k+1) its).flatten:=by rw[Zp,aao,Zo]
  rw[<- e2,<- zg its k (acc++its),<- e,Zp,aag]
section
variable{X:Cx}{ab:List (Addr×Obj)}{σ:St}{H:Hp}{s:Shared}{l:Addr}{xs ys:List V}
theorem Uh.lset{its its':List Value}{n:Nat}{f:Array Value->Array Value}{t':Nat}(I:Uh X ab σ H s)(hH:H l=some (.lst xs))
  (e:s.heap.get? l=some {cls:=.type "list",data:=.seq its.toArray n}) (hf:f its.toArray=its'.toArray) (hv:cC ys its') (hz:ys.length<=sizeLine) :
  Uh X ab σ (TY H l (.lst ys)) {s with heap:=s.heap.update l (Obj.mapSeq f),toks:=t' }:=by
 have q:=PySem.IsL.update e f;rw[hf]at q;refine I.write (x:=l) (e:=l) (by rw[hH];exact trivial) (.inl rfl) (λb' u hb hu=>(Heap.get?_update_other s.heap (Obj.mapSeq f) (Z4 hb)).trans hu) ⟨_,q⟩ ?_;exact⟨hz,its',_,hv,q⟩
theorem Uh.lnew{its:List Value}{t':Nat}(I:Uh X ab σ H s)(hv:cC ys its)(hz:ys.length<=sizeLine) :
  Uh X ab σ (TY H s.heap.objs.size (.lst ys)) {s with heap:=s.heap.push {cls:=.type "list",data:=.seq its.toArray},toks:=t' } :=
 I.laid (λ_ _ q=>YG _ q) (YN _) ⟨hz,its,0,hv,Y2 _ rfl⟩
theorem Uh.fresh(I:Uh X ab σ H s):H s.heap.objs.size=none:=I.hok.fresh (YN _)
theorem Uh.lstM(I:Uh X ab σ H s)(hH:H l=some (.lst xs)):xs.length<=sizeLine/\∃(its:List Value)(n:Nat),cC xs its/\xs.length=its.length/\s.heap.get? l=some {cls:=.type "list",data:=.seq its.toArray n}:=by obtain⟨z,its,n,r,e⟩:=I.hok l _ hH;exact⟨z,its,n,r,r.length,e⟩
theorem CN{n:Nat}(h:n<=sizeLine):Builtin.List.listTooLong n=false:=by unfold Builtin.List.listTooLong;exact YZ xL
end
section
variable{X:Cx}
def MK:V->List V->Hp->VK->Prop:=λx vs H Q=>∃l xs y,x=.ref l/\vs=[y]/\H l=some (.lst xs)/\xs.length<sizeLine/\Q .non (TY H l (.lst (xs++[y])))
theorem zh:US X "list.append" MK:=by intro ab s σ H x vs v us Q I rx rv h;obtain⟨l,xs,y,rfl,rfl,hH,hz,q⟩:=h;cases rx;obtain⟨u,rfl,ru⟩:=rv.one;obtain⟨z,its,n,r,hl,e⟩:=I.lstM hH;refine call_meets F.slot_list_append ⟨_,e,rfl⟩ F.entry_list_append (F.args_list_append_2 _ _) (PySem.list_append l its.toArray n u (by rw[YT];omega)) ⟨e,?_⟩;refine⟨.non,_,I.lset (its':=its++[u]) hH e x_ (r.append (.cons ru .nil)) ?_,rfl,q⟩;rw[Y4,List.length_singleton];omega
def ML:V->List V->Hp->VK->Prop:=λx vs H Q=>∃l b xs zs,x=.ref l/\vs=[.ref b]/\H l=some (.lst xs)/\H b=some (.lst zs)/\xs.length+zs.length<=sizeLine/\Q .non (TY H l (.lst (xs++zs)))
theorem FN:US X "list.extend" ML:=by
 intro ab s σ H x vs v us Q I rx rv h;obtain⟨l,b,xs,zs,rfl,rfl,hH,hB,hz,q⟩:=h;cases rx;obtain⟨u,rfl,ru⟩:=rv.one;cases ru;obtain⟨z,its,n,r,hl,e⟩:=I.lstM hH;obtain⟨z2,its2,n2,r2,hl2,e2⟩:=I.lstM hB;have hsz:its.toArray.size+its2.toArray.size<=sizeLine:=by rw[YT,YT];omega
 have hlong:¬(!its.toArray.isEmpty && Builtin.List.listTooLong (its.toArray.size+its2.toArray.size))=true:=by rw[CN hsz,Bool.and_false];exact ZC
 refine call_meets F.slot_list_extend ⟨_,e,rfl⟩ F.entry_list_extend (F.args_list_extend_2 _ _)
  (AutoSeq1.list_extend_list_list_0 l its.toArray n b its2.toArray n2 hlong (by rw[YT];omega) xL) ⟨e,e2,?_⟩
 refine⟨.non,_,I.lset (its':=its++its2) hH e x_ (r.append r2) ?_,rfl,q⟩;rw[Y4];omega
def Tp:R2:=λx y H Q=>∃l k xs,x=.ref l/\y=.int k/\H l=some (.lst xs)/\-(2^63)<=k/\k<2^63/\xs.length*k.toNat<=sizeLine /\
 ∀p,H p=none->Q (.ref p) (TY H p (.lst (List.replicate k.toNat xs).flatten))
theorem MM{α:Type}(xs:List α)(k:Nat):(List.replicate k xs).flatten.length=k*xs.length:=by
 induction k with
 |zero=>simp
 |succ k ih=>rw[Zp,aao,Y4,ih,Nat.succ_mul,Nat.add_comm]
theorem Pp:Ux X (binaryOp .Mult) Tp:=by
 intro ab s σ H x y v u Q I rx ry h;obtain⟨l,k,xs,rfl,rfl,hH,h1,h2,hz,q⟩:=h;cases rx;obtain⟨t,rfl⟩:=ry;obtain⟨z,its,n,r,hl,e⟩:=I.lstM hH;have b0:its.toArray.size*k.toNat<=sizeLine:=by rw[YT,<- hl];exact hz
 have hcap:¬its.toArray.size*k.toNat > (2^63-1) / 8:=by
  have:(sizeLine:Nat)<=(2^63-1) / 8:=by decide
  omega
 have hfit:¬(!Builtin.List.listFitsIndex k)=true:=by rw[fitsIndex_both h1 h2];exact ZC
 have hlong:¬Builtin.List.listTooLong (its.toArray.size*k.toNat)=true:=by rw[CN b0];exact ZC
 have hnew:List.foldl (λx1 x2=>x1++x2) #[] (List.replicate (if its.toArray.isEmpty=true then 0 else k.toNat) its.toArray)=(List.replicate k.toNat its).flatten.toArray:=by
  have f0:∀m:Nat,List.foldl (λx1 x2=>x1++x2) #[] (List.replicate m its.toArray)=(List.replicate m its).flatten.toArray:=λm=>by have:=zg its m [];rw[aaA]at this;exact this
  rw[f0]
  cases its with
  |nil=>simp
  |cons a r'=>rw[if_neg (by simp)]
 refine wpAny_binaryOp_repeat_ref (T:="list") (U:="int") xp ⟨_,e,rfl⟩ (λs'=>typeIs_int s' k t) noFill_list_mul F.fills_int_mul F.slot_int_rmul repeat_list F.slot_int_index.lookup
  (call_meets F.slot_int_rmul (typeIs_int s k t) F.entry_int_rmul (F.args_int_rmul_2 _ _) (int___rmul___int_list k t l its.toArray n)
   ⟨e,rfl,⟨_,e,rfl⟩,call_meets F.slot_list_mul ⟨_,e,rfl⟩ F.entry_list_mul (F.args_list_mul_2 _ _) (AutoListH.list___mul___list_int_3 l its.toArray n k t hfit hcap hlong) ⟨e,?_⟩⟩)
 rw[hnew];exact⟨.ref _,_,I.lnew (t':=s.toks) (r.rep k.toNat) (by rw[MM,Nat.mul_comm];exact hz),rfl,q _ I.fresh⟩
end
end L2
namespace Att
open PySem PySem.W PySem.Calls PyProof.Rows
theorem sY{P:Params}{h:Heap}:∀(ns:List Int)(vs:List Value),WellAll P h vs (ns.map WData.int)->IntsAre vs ns:=by
 intro ns
 induction ns with
 | nil =>
  intro vs w;rw[aaW]at w;cases w;exact .nil
 | cons n ns ih =>
  intro vs w;rw[YQ]at w
  cases w with
  | cons a b =>
   cases a;exact .cons _ _ (ih _ b)
theorem FO{l:OpenLaw}{n:Nat}(hn:l.most=some n){P:Params}{h:Heap}{args:List WData}{vals:List Value}
  (hpre:l.row.toRowW.claim.pre args=true) (hwl:WellAll P h vals args) :
  ∃ a vs ns,vals=[Value.ref a]/\args=[WData.list (ns.map WData.int)]/\h.get? a=some {cls:=.type "list",data:=.seq vs.toArray}/\IntsAre vs ns/\ns.length<=n:=by
 have hsh:WShape.hasAll [] args [.list .int]=true:=(pre_splitW hpre).1;have hc:l.pre.holds [] {args:=args}=true:=(pre_splitW hpre).2;obtain⟨d,r,rfl,h1,h2⟩:=hasAllW_cons hsh;obtain rfl:=hasAllW_nil h2;obtain⟨xs,rfl,h3⟩:=hasW_list h1;obtain⟨ns,rfl⟩:=items_int h3
 have b0:ns.length<=n:=by
  unfold OpenLaw.pre at hc;have h4:(WTm.not (.lt (.lit (.int (n:Int))) (.len (.arg 0)))).holds [] {args:=[.list (ns.map .int)] }=true:=by have h4:=(holds_andW hc).1;rw[hn]at h4;exact h4
  have h5:=condW_of h4 (w_not (w_lt w_lit (w_len_list (w_arg rfl))));rw[YD]at h5;refine Nat.le_of_not_lt λq=>?_;have q':(n:Int)<((ns.length:Nat):Int):=by omega
  first
   |(rw[Zg q']at h5;exact absurd h5 xp)
   |(simp at h5;omega)
 cases hwl with
 | cons w1 w2 =>
  cases w2
  cases w1 with
  |list ho hall=>exact⟨_,_,ns,rfl,rfl,ho,sY ns _ hall,b0⟩
theorem FP(l:OpenLaw)(args:List WData):l.row.toRowW.claim.post args (.bool true) args=true :=
 postW_of (r:=l.row.toRowW) (X:=(true == true))
  (show WShape.has [] (.bool true) .bool=true by first|rfl|decide|simp[WShape.has,WShape.arms,WShape.armsAll])
  (show(WTm.eq .res (.lit (.bool true))).value [] {args:=args,res:=some (.bool true),after:=args}=some (.bool (true == true))from w_eq_bool (w_res rfl) w_lit) rfl
theorem attach_call{l:OpenLaw}{n:Nat}{q:Program}{loose:List Str}{XP:(Str->Option Value)->Heap->Prop}{YP:World->Heap->Prop}{d:DefRec}
  (hn:l.most=some n) (hdf:d.params.defaults=[])
  (call:∀(w:World)(s₀ s₁:Shared)(mg mb:Str->Option Value)(fa:Addr)(o:Obj)(pm cd doc:Value)(a:Addr)(vs:List Value)(ns:List Int),
   Ground q loose [] XP w s₀ mg mb s₁.heap->YP w s₁.heap ->
   s₁.heap.get? fa=some o->o.data=.func (docDef d.name d.params d.body d.scope pm cd doc)->s₁.heap.CodeRec cd d.name->mg d.name=some (.ref fa) ->
   s₁.heap.get? a=some {cls:=.type "list",data:=.seq vs.toArray}->IntsAre vs ns->ns.length<=n->s₁.gens=#[] ->
   codeAny (model l.prog w) callerA (.call (.ref fa) ⟨[.ref a],[]⟩) (λr s'=>r=.ok (.ret (.bool true))/\OldK s₁.heap s'.heap/\s'.os=s₁.os/\AllBare s'.gens) s₁) :
  WalkO q loose XP YP l.row.toRowW d [] (λf vs=>PySem.call f vs):=by
 intro w s₀ s₁ mg mb G Y fa o pm cd doc dV kV ho hd hcd hD hmg hg args vals as hpre hlay hrd hwl hlo;obtain rfl:dV=.none:=Dflts.none hD hdf;obtain rfl:kV=.none:=Dflts.noKw hD;obtain⟨a,vs,ns,rfl,rfl,hobj,hints,b0⟩:=FO hn hpre hwl;refine enter_call (codeAny_mono (call w s₀ s₁ mg mb fa o pm cd doc a vs ns G Y ho (fd_plain hd) hcd hmg hobj hints b0 hg) λr s' hq=>?_);obtain⟨rfl,h2,h3,h4⟩:=hq;exact⟨.inl ⟨.bool true,.bool true,[],rfl,λ_=>rfl,.bool true,FP l _,λ_=>⟨List.Pairwise.nil,λ_ hm=>(nomatch hm)⟩⟩,h2,h3,h4⟩
section
noncomputable def noObjs(h:Heap):Heap:={h with objs:=#[] }
theorem noObjs_get(h:Heap)(b:Addr):(noObjs h).get? b=none:=by
 cases e:(noObjs h).get? b with
 |none=>rfl
 |some o=>exact absurd (YM e) (Nat.not_lt_zero _)
noncomputable def Sw(h:Heap)(L d:Addr):List (Addr×Obj):=(List.range h.objs.size).filterMap λa=>if a=L∨a=d then none else(h.get? a).map λo=>(a,o)
end
end Att
namespace L2
open PySem PySem.Spec PyProof.Rows
theorem zi:∀{vs:List Value}{ns:List Int},IntsAre vs ns->cC (ns.map V.int) vs
 |_,_,.nil=>.nil
 |_,_,.cons n t h=>.cons ⟨t,rfl⟩ (zi h)
def Q8(H:Hp):Prop:=∀b,H b=none∨(∃o xs,H b=some (.frz o (.lst xs)))∨∃q,H b=some (.tbl q)
noncomputable def fM(K:W.Frag):List (Addr×Str):=lamNames.filterMap λx=>(W.tabIn K x).map λp=>(p.2,wb x)
noncomputable def tabsOk(K:W.Frag):Bool:=decide ((fM K).map (·.1)).Nodup && (fM K).all λp=>(K.lookup p.1).isNone
theorem FQ{K:W.Frag}{P:Addr}{q:Str}(h:(P,q)∈fM K):∃x∈lamNames,∃c,W.tabIn K x=some (c,P)/\q=wb x:=by
 obtain⟨x,hx,e⟩:=aaJ.mp h
 cases z:W.tabIn K x with
 |none=>rw[z]at e;cases e
 |some p=>rw[z]at e;cases e;exact⟨x,hx,p.1,z,rfl⟩
theorem mn{α β:Type}[BEq α][LawfulBEq α]:∀{l:List (α×β)}{a:α}{b:β},l.lookup a=some b->(a,b)∈l
 |[],_,_,h=>nomatch h
 | (x,y)::r,a,b,h=>by
  rw[Zt]at h
  cases hb:a == x with
  |true=>rw[hb]at h;cases h;rw[eq_of_beq hb];exact .head _
  |false=>rw[hb]at h;exact .tail _ (mn h)
theorem km{α β:Type}[BEq α][LawfulBEq α]:∀{l:List (α×β)}{a:α}{b:β},(l.map (·.1)).Nodup->(a,b)∈l->l.lookup a=some b
 |[],_,_,_,h=>nomatch h
 | (x,y)::r,a,b,nd,h=>by
  rw[YQ,Zc]at nd;rw[Zt];rcases YK.mp h with e|h
  . cases e;simp
  . have:a≠x:=λz=>nd.1 (z ▸ List.mem_map_of_mem (f:=(·.1)) h);rw[show(a == x)=false from beq_false_of_ne this];exact km nd.2 h
theorem D7{K:W.Frag}{x:Str}{c P:Addr}(h:W.tabIn K x=some (c,P)):K.lookup c≠none:=by
 unfold W.tabIn at h;split at h
 .
  split at h
  .
   split at h
   .
    split at h
    .
     rename_i hco;split at h
     . cases h;intro z;rw[hco]at z;cases z
     . cases h
    . cases h
   . cases h
  . cases h
 . cases h
theorem Jy{P:Program}{w:World}{K:W.Frag}{mg mb:Str->Option Value}{CX:UE}{k:Nat}{fa a:Addr}{fd:FuncData}{x:Str}{sp:Sp}{s₁:Shared}{vs:List Value}{ns:List Int}
  (KX:K.In s₁.heap) (hns:s₁.heap.Ns mainGlobals mg) (hb:s₁.heap.Ns builtinsNs mb) (hbb:∀ x:Str,x≠"__name__"->mb x=bootBuiltins x) (hlim:s₁.heap.NoLimit) (hsys:∃ mm,s₁.heap.Ns sysModules mm) (hbm:O3 mg s₁.heap) (hto:tabsOk K=true)
  (htb:∀x∈lamNames,∀c P,W.tabIn K x=some (c,P)->W.CodeHd s₁.heap c P/\s₁.heap.get? P=some (W.tabObj #[])) (hg:s₁.gens=#[])
  (ha:s₁.heap.get? a=some {cls:=.type "list",data:=.seq vs.toArray}) (hi:IntsAre vs ns) (hl:ns.length<=sizeLine) (hr:m6 k callerA)
  (F:∀base:Heap,K.In base->base.Ns mainGlobals mg->FnOk P w K mg base CX k fa fd [x] sp) (hbind:∀(s:Shared)(u:Value),BindsTo s fd ⟨[u],[]⟩ [(x,u)])
  (hsp:∀H:Hp,Q8 H->Up K H a (ns.map V.int)->sp [.ref a] H (λv _=>v=.bl true) λ_ _ _=>False)
  (hCX:∀H e s',CX [] H s₁ (λ_ _ _=>False) e s'->False) :
  codeAny (model P w) callerA (.call (.ref fa) ⟨[.ref a],[]⟩) (λr s'=>r=.ok (.ret (.bool true))/\OldK s₁.heap s'.heap/\s'.os=s₁.os/\AllBare s'.gens) s₁:=by
 have rv:=zi hi;have lenV:=hi.length;obtain⟨nd,kn⟩:=aaT.mp hto;have nd:=aaw nd;have tabAt:∀{b:Addr}{q:Str},(fM K).lookup b=some q->PySem.isCodeTable s₁.heap b/\s₁.heap.get? b=some (W.tabObj #[])/\K.lookup b=none:=λ{b q} e=>by have hm:(b,q)∈fM K:=mn e;obtain⟨x,hx,c,e1,_⟩:=FQ hm;obtain⟨h1,h2⟩:=htb x hx c b e1;refine⟨(h1.tab h2).isCodeTable,h2,?_⟩;have:=aau.mp kn (b,q) hm;simpa using this
 have core:∀H:Hp,Q8 H->Up K H a (ns.map V.int)->TZ P w H s₁.heap->(∀b,H b≠none->b=a∨∃q,H b=some (.tbl q)/\(fM K).lookup b=some q)->(∀b,H b≠none->K.lookup b=none)->Uc K H ->
   codeAny (model P w) callerA (.call (.ref fa) ⟨[.ref a],[]⟩) (λr s'=>r=.ok (.ret (.bool true))/\OldK s₁.heap s'.heap/\s'.os=s₁.os/\AllBare s'.gens) s₁:=by
  intro H hO hS hok hA hK hT;have base_of:∀{b:Addr}{o:Obj},s₁.heap.get? b=some o->H b=none->(Jo s₁.heap H).get? b=some o:=λe n=>Jp e n
  have noB:∀{b:Addr}{o:Obj},s₁.heap.get? b=some o->(∀us n,o.data≠.seq us n)->(∀us,o.data≠.fields us)->H b=none:=λ{b o} e d1 d2=>by
   cases q:H b with
   |none=>rfl
   | some u =>
    rcases hA b (by rw[q];simp)with e' | ⟨z,_,e'⟩
    . subst e';rw[ha]at e;cases e;exact absurd rfl (d1 _ _)
    . rw[(tabAt e').2.1]at e;cases e;exact absurd rfl (d2 _)
  have noA:∀{b:Addr}{o:Obj}{es:Array DictEntry}{ep:Nat},s₁.heap.get? b=some o->o.data=.dict es ep->H b=none:=λ{b o es ep} e d =>
   noB e (λus n z=>by rw[d]at z;cases z) λus z=>by rw[d]at z;cases z
  have nsK:∀{b:Addr}{m:Str->Option Value},s₁.heap.Ns b m->(Jo s₁.heap H).Ns b m:=λ{b m} ⟨o,es,ep,e,d,r⟩=>⟨o,es,ep,base_of e (noA e d),d,r⟩
  have hKb:K.In (Jo s₁.heap H):=λb o e=>base_of (KX b o e) (by
   cases q:H b with
   |none=>rfl
   |some u=>rw[hK b (by rw[q];simp)]at e;cases e)
  have hM:Mod K mg (Jo s₁.heap H):=⟨hKb,nsK hns,⟨mb,nsK hb,hbb⟩,let ⟨mc,h1,h2⟩:=hlim;⟨mc,nsK h1,h2⟩,let ⟨mm,h1⟩:=hsys;⟨mm,nsK h1⟩,by
   obtain⟨bm,ob,b1,b2,b3,b4,b5,b6⟩:=hbm
   exact⟨bm,ob,b1,b2,base_of b3 (noB b3 (λus n z=>by rw[b6]at z;cases z) λus z=>by rw[b6]at z;cases z),b4,b5,b6⟩,λx hx c P e=>by
   obtain⟨⟨o,vs,file,tf,flags,tg,UT,text,tt,e1,r⟩,_⟩:=htb x hx c P e
   exact⟨o,vs,file,tf,flags,tg,UT,text,tt,base_of e1 (by
    cases q:H c with
    |none=>rfl
    |some u=>exact absurd (hK c (by rw[q];simp)) (D7 e)),r⟩⟩
  have e0:Ju P w K mg (Jo s₁.heap H) callerA [] s₁ H:=⟨rfl,hM,λb o e=>Mv e,Nat.le_of_eq (Fw _ _),trivial,λb hb=>absurd (show b∈([]:List Addr)from hb) x_,hok,.of_eq hg,hT⟩;refine codeAny_mono ((F _ hKb (nsK hns)).run callerA [] s₁ H ⟨[.ref a],[]⟩ [.ref a] [.ref a] _ _ hr e0 (hbind s₁ (.ref a)) (.cons rfl .nil) (hsp H hO hS)) λr s' h=>?_
  cases r with
  |error e=>exact(hCX H e s' h).elim
  | ok fl =>
   cases fl with
   |next=>exact False.elim h
   |brk=>exact False.elim h
   |cont=>exact False.elim h
   | ret u =>
    obtain⟨v,H',os,bare,un,hok',r',q⟩:=h;have q':v=.bl true:=q;subst q';obtain rfl:u=Value.bool true:=r'
    have Uo:∀b o,s₁.heap.get? b=some o->s'.heap.get? b=some o∨(PySem.isCodeTable s₁.heap b/\o=W.tabObj #[]/\∃ps,s'.heap.get? b=some (W.tabObj ps)):=λb o e=>by
     cases q:H b with
     |none=>exact .inl (un.keep b o e q (by intro z;exact absurd (show b∈([]:List Addr)from z) x_) x_)
     | some u =>
      rcases hO b with z|⟨ob,xs,z⟩|⟨t,z⟩
      . rw[q]at z;cases z
      . have z2:=un.frzs b ob _ z;obtain⟨e1,_⟩:=hok b _ z;obtain⟨e2,_⟩:=hok' b _ z2;rw[e]at e1;cases e1;exact .inl e2
      .
       rcases hA b (by rw[q];simp)with e' | ⟨t2,_,e'⟩
       . subst e';obtain⟨ps,e1,_⟩:=hok b _ z;rw[ha]at e1;cases e1
       . obtain⟨ps,e2,_⟩:=hok' b _ (un.tbls b _ z);obtain⟨t1,t2,_⟩:=tabAt e';rw[e]at t2;cases t2;exact .inr ⟨t1,rfl,ps,e2⟩
    refine⟨rfl,⟨λb o e=>?_,λb o e=>?_⟩,os,bare⟩
    .
     rcases Uo b o e with z|⟨t,rfl,ps,z⟩
     . exact .inl z
     . exact .inr (.inl ⟨t,rfl,#[],ps,rfl,by rw[Array.empty_append];exact z⟩)
    .
     rcases Uo b o e with z|⟨t,_,ps,z⟩
     . exact⟨o,z⟩
     . exact⟨_,z⟩
 have tbsOf:∀{H:Hp},(∀b q,(fM K).lookup b=some q->H b=some (.tbl q))->Uc K H:=λ{H} h x hx c P e=>h P _ (km nd (aaJ.mpr ⟨x,hx,by rw[e];rfl⟩));have okT:∀{H:Hp}{b:Addr}{q:Str},(fM K).lookup b=some q->ip P w H s₁.heap b (.tbl q):=λ{H b q} e=>⟨#[],(tabAt e).2.1,trivial,λpos cv z=>by simp[codeAmong]at z⟩;have na:∀q,(fM K).lookup a≠some q:=λq z=>by have:=(tabAt z).2.1;rw[ha]at this;cases this
 cases hk:K.lookup a with
 | some o =>
  have e:=KX a o hk;rw[ha]at e;cases e;refine core (λb=>((fM K).lookup b).map .tbl) (λb=>?_) (.inr ⟨_,vs.toArray,_,hk,rfl,rfl,rfl,by rw[YT,lenV];exact hl,by simpa using rv⟩) (λb u z=>?_) (λb z=>?_) (λb z=>?_) (tbsOf λb q e=>by show Option.map _ _=_;rw[e];rfl)
  .
   show Option.map HO.tbl ((fM K).lookup b)=none∨_
   cases q:(fM K).lookup b with
   |none=>exact .inl rfl
   |some t=>exact .inr (.inr ⟨t,by show Option.map _ _=_;rw[q];rfl⟩)
  .
   have z':Option.map HO.tbl ((fM K).lookup b)=some u:=z
   cases q:(fM K).lookup b with
   |none=>rw[q]at z';cases z'
   |some t=>rw[q]at z';cases z';exact okT q
  .
   have z':Option.map HO.tbl ((fM K).lookup b)≠none:=z
   cases q:(fM K).lookup b with
   |none=>rw[q]at z';exact absurd rfl z'
   |some t=>exact .inr ⟨t,rfl,rfl⟩
  .
   have z':Option.map HO.tbl ((fM K).lookup b)≠none:=z
   cases q:(fM K).lookup b with
   |none=>rw[q]at z';exact absurd rfl z'
   |some t=>exact(tabAt q).2.2
 | none =>
  have at_a:∀ b,(if b=a then some (HO.frz {cls:=.type "list",data:=.seq vs.toArray} (.lst (ns.map V.int)))else((fM K).lookup b).map .tbl)≠none->b=a∨∃ q,(fM K).lookup b=some q:=λb z=>by
   by_cases hb:b=a
   . exact .inl hb
   .
    rw[if_neg hb]at z
    cases q:(fM K).lookup b with
    |none=>rw[q]at z;exact absurd rfl z
    |some t=>exact .inr ⟨t,rfl⟩
  have tabA:∀ b q,(fM K).lookup b=some q->(if b=a then some (HO.frz {cls:=.type "list",data:=.seq vs.toArray} (.lst (ns.map V.int)))else((fM K).lookup b).map .tbl)=some (.tbl q):=λb q e=>by rw[if_neg (λ(z:b=a)=>na q (by rw[<- z];exact e)),e];rfl
  refine core (λb=>if b=a then some (.frz {cls:=.type "list",data:=.seq vs.toArray} (.lst (ns.map V.int)))else((fM K).lookup b).map .tbl) (λb=>?_) (.inl (.inr ⟨{cls:=.type "list",data:=.seq vs.toArray},if_pos rfl⟩)) (λb u z=>?_) (λb z=>?_) (λb z=>?_) (tbsOf λb q e=>tabA b q e)
  .
   by_cases hb:b=a
   . exact .inr (.inl ⟨_,_,if_pos hb⟩)
   .
    cases q:(fM K).lookup b with
    |none=>exact .inl (by show ite _ _ _=_;rw[if_neg hb,q];rfl)
    |some t=>exact .inr (.inr ⟨t,tabA b t q⟩)
  .
   by_cases hb:b=a
   . have z':=(if_pos hb).symm.trans z;cases z';subst hb;exact⟨ha,by rw[YD];exact hl,vs,_,rv,ha⟩
   .
    have z':=(if_neg hb).symm.trans z
    cases q:(fM K).lookup b with
    |none=>rw[q]at z';cases z'
    |some t=>rw[q]at z';cases z';exact okT q
  .
   rcases at_a b z with e|⟨q,e⟩
   . exact .inl e
   . exact .inr ⟨q,tabA b q e,e⟩
  .
   rcases at_a b z with e|⟨q,e⟩
   . rw[e];exact hk
   . exact(tabAt e).2.2
theorem walk_of{l:W.OpenLaw}{n k:Nat}{q:Program}{loose:List Str}{XP:(Str->Option Value)->Heap->Prop}{YP:World->Heap->Prop}{d:DefRec}{K:Params->W.Frag}{CX:World->UE}{sp:World->Sp}{x:Str}
  (hn:l.most=some n) (hq:importsNone q=true) (hn2:n<=sizeLine) (hdf:d.params.defaults=[]) (hr:m6 k callerA)
  (hY:∀(w:World)(h:Heap),YP w h->(K w.params).In h) (hto:∀w:World,tabsOk (K w.params)=true) (hrc:∀(w:World),∀x∈lamNames,W.tabIn (K w.params) x=none∨((recsOf q).find? λe=>e.name == x).isSome=true)
  (F:∀(w:World)(mg:Str->Option Value)(fa:Addr)(h:Heap),(K w.params).In h->h.Ns mainGlobals mg->mg d.name=some (.ref fa) ->
   ∃fd:FuncData,(∀(s:Shared)(u:Value),BindsTo s fd ⟨[u],[]⟩ [(x,u)]) /\
    ∀base:Heap,(K w.params).In base->base.Ns mainGlobals mg->FnOk l.prog w (K w.params) mg base (CX w) k fa fd [x] (sp w))
  (hsp:∀(w:World)(H:Hp)(a:Addr)(ns:List Int),ns.length<=n->Q8 H->Up (K w.params) H a (ns.map V.int)->sp w [.ref a] H (λv _=>v=.bl true) λ_ _ _=>False)
  (hCX:∀(w:World)(H:Hp)(s:Shared)(e:Value)(s':Shared),CX w [] H s (λ_ _ _=>False) e s'->False) :
  W.WalkO q loose XP YP l.row.toRowW d [] (λf vs=>PySem.call f vs):=by
 refine Att.attach_call hn hdf λw s₀ s₁ mg mb fa o pm cd doc a vs ns G Y ho hd hcd hmg hobj hints b0 hg=>?_;have KX:=hY w _ Y;obtain⟨fd,hb,hF⟩:=F w mg fa _ KX G.T.g hmg
 exact Jy KX G.T.g G.T.b G.T.builtins G.T.nolimit (let ⟨mm,h1,_⟩:=(G.T.seer hq).mods;⟨mm,h1⟩) (let ⟨bm,ob,b1,b2,b3,b4,b5,b6⟩:=G.T.bmain;⟨bm,ob,b1,b2,b3,b4,b5,b6⟩) (hto w) (λy hy c P e=>by
  rcases hrc w y hy with z|z
  . rw[z]at e;cases e
  .
   obtain⟨d',hd'⟩:=Option.isSome_iff_exists.mp z
   exact W.tab_of G.T KX hd' e) hg hobj hints (YH b0 hn2) hr hF hb (λH hO hS=>hsp w H a ns b0 hO hS) λH e s'=>hCX w H s₁ e s'
noncomputable def pV(s:Stmt):Arguments:=match s with
 |.FunctionDef _ a _ _ _ _ _ _ _ _=>a
 |_=>{posonlyargs:=[],args:=[],vararg:=none,kwonlyargs:=[],kw_defaults:=[],kwarg:=none,defaults:=[] }
noncomputable def fT(s:Stmt):List Stmt:=match s with
 |.FunctionDef _ _ b _ _ _ _ _ _ _=>b
 |_=>[]
noncomputable def ar(s:Stmt):Scope:=match s with
 |.FunctionDef _ _ _ _ _ _ sc _ _ _=>sc
 |_=>{kind:=.function,names:=[],isGenerator:=false,isCoroutine:=false}
noncomputable abbrev CX0:UE:=λ_ _ _ _ _ _=>False
noncomputable abbrev E0:XK:=λ_ _ _=>False
theorem Pq{X:Cx}:CK CX0 X E0:=λ_ _ _ _ _ _ _ h=>h.elim
structure UU (K:W.Frag) (x qual:Str) (st:Stmt) (f:Addr) (fd:FuncData):Prop where
 ex:∃(oc:Value)(od:Option Addr)(kV doc pm:Value)(an:Option Addr)(cdv ct:Value)(osl:Array (Option Value)),
  fd=W.fnOf x qual (pV st) (fT st) (ar st) .none kV doc pm an cdv ct/\K.lookup f=some ⟨oc,od,.func fd,osl⟩/\W.codeIn K cdv qual=true
 kp:W.keepIn K (.ref f)=true
section
variable{P:Program}{w:World}{K:W.Frag}{mg:Str->Option Value}{base:Heap}
theorem UU.ok{x qual:Str}{st:Stmt}{f:Addr}{fd:FuncData}{N ps:List Str}{k:Nat}{sp:Sp}(F:UU K x qual st f fd)(S:aB N ps (ar st))(len:∀vs H Q E,sp vs H Q E->vs.length=ps.length)
  (hbody:∀(cdv:Value)(A:Around)(outer:List Env)(s:Shared)(H:Hp)(vs:List V)(Q:VK)(E:XK),m6 k (A.deeper (envOfC qual (ar st) s.heap.objs.size f cdv))->sp vs H Q E ->
   ∃t,Uk (LF CX0 P w K mg base N qual (ar st) f cdv A outer s H E).nox (fT st) t/\t {nx:=λ_ H'=>Q .non H',rt:=Q} (vw N vs) H):FnOk P w K mg base CX0 (k+1) f fd ps sp:=by
 obtain⟨oc,od,kV,doc,pm,an,cdv,ct,osl,rfl,lk,hcd⟩:=F.ex;refine Ph lk hcd S len λA outer s H vs Q E hr hsp=>?_;obtain⟨t,h,q⟩:=hbody cdv A outer s H vs Q E hr hsp;exact⟨t,h.nox,q⟩
theorem UU.binds{x qual:Str}{st:Stmt}{f:Addr}{fd:FuncData}{ps:List Str}(F:UU K x qual st f fd)
  (h:∀(kV doc pm:Value)(an:Option Addr)(cdv ct:Value)(us:List Value),us.length=ps.length->bindArgs (W.fnOf x qual (pV st) (fT st) (ar st) .none kV doc pm an cdv ct) ⟨us,[]⟩=pure (ps.zip us)):A5 K fd ps []:=by
 obtain⟨oc,od,kV,doc,pm,an,cdv,ct,osl,rfl,lk,hcd⟩:=F.ex;exact .all (h kV doc pm an cdv ct)
theorem LJ{x qual:Str}{st:Stmt}{f:Addr}{oc:Value}{od an:Option Addr}{osl:Array (Option Value)}{kV doc pm cdv ct:Value}(l:K.lookup f=some ⟨oc,od,.func (W.fnOf x qual (pV st) (fT st) (ar st) .none kV doc pm an cdv ct),osl⟩)
  (c:W.codeIn K cdv qual=true) (k:W.keepIn K (.ref f)=true):UU K x qual st f (W.fnOf x qual (pV st) (fT st) (ar st) .none kV doc pm an cdv ct):=⟨⟨oc,od,kV,doc,pm,an,cdv,ct,osl,rfl,l,c⟩,k⟩
end
def Sx(H H':Hp):Prop:=∀b o,H b=some o->H' b=some o
theorem Sx.free{H H':Hp}(e:Sx H H'){l:Addr}(h:H' l=Option.none):H l=Option.none:=by
 cases q:H l with
 |none=>rfl
 | some o =>
  rw[e l o q]at h;cases h
end L2
set_option maxHeartbeats 0
namespace L2
open PySem PySem.Spec
open Sem (wp)
theorem lQ:Slot "function" "__getattribute__" "object.__getattribute__" :=
 .of (owner:="object") (n:="__getattribute__") (by rw[typeLookup_type,builtinLookup_eq_fast]; kernel_rfl) y_ y_ y_
  (by first|exact .inl y_|exact .inr y_) (by rw[isSubtype_type];kernel_rfl)
theorem A9:entryFor table "object.__getattribute__"=some Builtin.«object.__getattribute__»:=by
 first | exact F.entry_object_getattribute | exact entryFor_alias (id':="object.__getattribute__") z_ (by first | rfl | decide +kernel) y_ z_ | kernel_rfl
theorem D8(a b:Value):argsOk "object.__getattribute__" ⟨[a,b],[]⟩:=by
 first|exact F.args_object_getattribute_2 a b|(unfold argsOk;kernel_rfl)
theorem Ba:typeLookup (.type "function") "__class__"=pure (some (.builtin "object.__class__")):=by rw[typeLookup_type,builtinLookup_eq_fast]; kernel_rfl
theorem oC:isSubtype (.type "function") (.type (".".intercalate ("object.__class__".cutAt '.').dropLast))=pure true:=by rw[F.owner_object_class,isSubtype_type];kernel_rfl
section
variable{prog:Program}{w:World}{A:Around}{E:Value->Shared->Prop}{h:Heap}{g:Array GenState}{d:Drawn}{t:Nat}{os:OsState}{a:Addr}{o:Obj}
theorem zj{R:Result->Shared->Prop}(hx:h.get? a=some o) (hc:o.cls=.type "function") (hq:R (.ok (.ret (.type "function"))) ⟨h,g,d,t,os⟩) :
  codeAny (model prog w) A (.call (.builtin "getset_descriptor.__get__") ⟨[.builtin "object.__class__",.ref a,.type "function"],[]⟩) R ⟨h,g,d,t,os⟩:=by
 have hT:(⟨h,g,d,t,os⟩:Shared).TypeIs (.ref a) "function":=⟨_,hx,hc⟩;have hT5:(⟨h,g,d,t,os⟩:Shared).TypeIs (.builtin "object.__class__") "getset_descriptor":=F.typeOf_object_class;have f8:=oC;refine codeAny_call_builtin F.slot_gs_get.plain F.entry_gs_get (F.slot_gs_get.check _ _ _ _ _ _ _ _ hT5 (F.args_gs_get _ _ _) ?_)
 repeat (any_goals (first|assumption|wp_step))
 refine⟨Code.quiet_builtin _ y_,codeAny_builtin F.entry_object_class ?_⟩
 repeat (any_goals (first|assumption|wp_step))
theorem vz{tk:Tok}{Q:PySem.Fin->Shared->Prop}(hx:h.get? a=some o) (hc:o.cls=.type "function") (hq:Q (.done (.ret (.type "function"))) ⟨h,g,d,t,os⟩) :
  wpAny (model prog w) A (Builtin.«object.__getattribute__» ⟨[.ref a,.str "__class__" tk],[]⟩) Q E ⟨h,g,d,t,os⟩:=by
 have hT:(⟨h,g,d,t,os⟩:Shared).TypeIs (.ref a) "function":=⟨_,hx,hc⟩;have hT5:(⟨h,g,d,t,os⟩:Shared).TypeIs (.builtin "object.__class__") "getset_descriptor":=F.typeOf_object_class;have f4:=Ba;have f5:=F.typeOf_object_class;have f6:=F.slot_gs_get.lookup;have f7:=F.slot_gs_set.lookup
 repeat (any_goals (first|assumption|wp_step))
 refine zj hx hc ?_
 repeat (any_goals (first|assumption|wp_step))
theorem xa{tk:Tok}{R:Result->Shared->Prop}(hx:h.get? a=some o) (hc:o.cls=.type "function") (hq:R (.ok (.ret (.type "function"))) ⟨h,g,d,t,os⟩) :
  codeAny (model prog w) A (.call (.builtin "object.__getattribute__") ⟨[.ref a,.str "__class__" tk],[]⟩) R ⟨h,g,d,t,os⟩ :=
 codeAny_call_builtin lQ.plain A9 (lQ.check _ _ _ _ _ _ _ _ (show(⟨h,g,d,t,os⟩:Shared).TypeIs (.ref a) "function" from⟨_,hx,hc⟩) (D8 _ _) (vz hx hc hq))
theorem Bc{tk:Tok}{Q:Value->Shared->Prop}(hx:h.get? a=some o) (hc:o.cls=.type "function") (hq:Q (.type "function") ⟨h,g,d,t,os⟩):wpAny (model prog w) A (getAttrBy (.ref a) (.str "__class__" tk) false) Q E ⟨h,g,d,t,os⟩:=by
 have hT:(⟨h,g,d,t,os⟩:Shared).TypeIs (.ref a) "function":=⟨_,hx,hc⟩;have f2:=lQ.lookup;have f3:=lQ.bind (.ref a)
 repeat (any_goals (first|assumption|wp_step))
 refine xa hx hc ?_
 repeat (any_goals (first|assumption|wp_step))
theorem xc{Q:Option Value->Shared->Prop}(hx:h.get? a=some o) (hc:o.cls=.type "function") (hq:Q (some (.type "function")) ⟨h,g,d,t+1,os⟩):wpAny (model prog w) A (getAttr? (.ref a) "__class__") Q E ⟨h,g,d,t,os⟩:=by
 unfold getAttr? getAttrBy?
 repeat (any_goals (first|assumption|with_reducible apply Bc hx hc|wp_step))
end
theorem FR{K:W.Frag}{a:Addr}:W.KitX K (.ref a) (.type "function") (W.KitAt a "function"):=W.kitx_of W.kitAt_ty (λ{_ _ _ _ _ s} p k=>by obtain⟨h,g,d,t,os⟩:=s; obtain⟨o,h1,h2⟩:=p; exact xc h1 h2 k)
end L2
namespace L2
open PySem PySem.Spec PyProof.Rows
inductive D where
 |non|bl (b:Bool)|int (i:Int)|str (x:Str)|tup (xs:List D)|lst (xs:List D)|dct (n:Nat)|exc (c:Str) (ns:List Str) (xs:List D)|fn (x:Str) (d:D)|dk (ks:List TX) (vs:List D)|gf (x:Str)
def UV(K:W.Frag)(H:Hp)(a:Addr)(xs:List V):Prop :=
 (∃o,H a=some (.frz o (.lst xs))) ∨
  ∃(o:Obj)(its:Array Value)(n:Nat),K.lookup a=some o/\o.cls=.type "list"/\o.dict=none/\o.data=.seq its n/\its.size<=sizeLine/\cC xs its.toList
theorem UV.l{K:W.Frag}{H:Hp}{a:Addr}{xs:List V}(h:UV K H a xs):Up K H a xs:=by
 rcases h with⟨o,h⟩|h
 . exact .inl (.inr ⟨o,h⟩)
 . exact .inr h
def MN:HO->Prop
 |.frz _ u=>MN u
 |.ins _ _ _=>False
 |_=>True
noncomputable def Jk(C L:Addr):List Value:=(if C=L then[]else[.ref C])++[.ref L,.type "ValueError",.type "Exception",.type "BaseException",.type "object"]
noncomputable def we(K:W.Frag)(c:Str)(C:Addr):Bool:=match W.clsIn K C,W.nsIn K mainGlobals "LoadError" with
 | some cd,some (some (.ref L))=>cd.name == c && cd.hasDict && cd.mro == Jk C L && (W.clsIn K L).any (λk=>k.name == ("LoadError" : Str)) &&
  W.findIn K (.ref C) "__getattribute__" == some (some (.builtin "BaseException.__getattribute__")) && W.findIn K (.ref C) "__getattr__" == some none && W.findIn K (.ref C) "__class__" == some (some (.builtin "object.__class__")) &&
  W.findIn K (.ref C) "__setattr__" == some (some (.builtin "object.__setattr__")) && W.typeIn K (.ref C) == some (.type "type") && W.nsIn K mainGlobals c == some (some (.ref C))
 |_,_=>false
noncomputable def FT:List Stmt->Option (Arguments×Expr×Scope×Pos)
 |[]=>none
 | st::r=>match FT r with
  |some l=>some l
  | none=>match st with
   | .Expr (.Call _ args _ _) _=>(match args.getLast? with
    |some (.Lambda p b sc pos)=>some (p,b,sc,pos)
    |_=>none)
   | .Return (some (.Call _ _ kws _)) _=>(match kws.getLast? with
    |some ⟨_,.Lambda p b sc pos,_⟩=>some (p,b,sc,pos)
    |_=>none)
   |_=>none
noncomputable def D9(K:W.Frag)(x:Str):Option (Arguments×Expr×Scope×Pos):=match W.nsIn K mainGlobals x with
 | some (some (.ref f))=>(match K.lookup f with
  | some ⟨_,_,.func fd,_⟩=>(match fd.body with
   |.stmts b=>FT b
   |_=>none)
  |_=>none)
 |_=>none
def XF(H:Hp)(dx:Option Addr)(ns:List Str)(vs:List V):Prop:=(ns=[]/\vs=[]/\dx=none)∨∃d od,dx=some d/\H d=some (.frz od (.xd (ns.zip vs)))/\ns.length=vs.length
mutual
inductive UW (K:W.Frag) (H:Hp):V->D->Prop where
 |non:UW K H .non .non
 |bl (b:Bool):UW K H (.bl b) (.bl b)
 |int (i:Int):UW K H (.int i) (.int i)
 |str (x:Str):UW K H (.str x) (.str x)
 |tup {a:Addr} {vs:List V} {ds:List D} (h:Uq K H a vs) (r:bX K H vs ds):UW K H (.ref a) (.tup ds)
 |lst {a:Addr} {vs:List V} {ds:List D} (h:UV K H a vs) (r:bX K H vs ds):UW K H (.ref a) (.lst ds)
 |dct {a:Addr} {o:Obj} {kvs:List (TX×V)} (h:H a=some (.frz o (.dK kvs))):UW K H (.ref a) (.dct kvs.length)
 |exc {a:Addr} {o:Obj} {u:HO} {c:Str} {C:Addr} {ns:List Str} {vs:List V} {ds:List D} (h:H a=some (.frz o u)) (hv:MN u) (hc:o.cls=.ref C) (hn:W.notCls o=true) (hs:we K c C=true) (hq:∀f∈ns,W.findIn K (.ref C) f=some none) (hf:XF H o.dict ns vs) (r:bX K H vs ds):UW K H (.ref a) (.exc c ns ds)
 | fn {f c c':Addr} {oc oq:Obj} {x y:Str} {pr:Arguments} {bd:Expr} {sc:Scope} {pos:Pos} {pm ctv u:Value} {v:V} {d:D} (hl:D9 K x=some (pr,bd,sc,pos)) (hf:H f=some (.frz (W.kla_obj "<lambda>" (wb x) pr bd sc [(y,c)] pm c' ctv) (.own f)))
  (hq:H c'=some (.frz oq (.own c'))) (hc:sV oq (wb x)) (hz:H c=some (.frz oc (.own c))) (hd:oc.data=.cell (some u)) (hv:cJ v u) (hm:(y,NameKind.free)∈sc.names) (r:UW K H v d):UW K H (.ref f) (.fn x d)
 |dk {a:Addr} {o:Obj} {kvs:List (TX×V)} {ds:List D} (h:H a=some (.frz o (.dK kvs))) (r:bX K H (kvs.map (·.2)) ds):UW K H (.ref a) (.dk (kvs.map (·.1)) ds)
 |gf {a:Addr} {x:Str} {fd:FuncData} (h:W.nsIn K mainGlobals x=some (some (.ref a))) (ho:K.lookup a=some ⟨.type "function",none,.func fd,#[]⟩) (hk:W.keepIn K (.ref a)=true):UW K H (.ref a) (.gf x)
inductive bX (K:W.Frag) (H:Hp):List V->List D->Prop where
 |nil:bX K H [] []
 |cons {v:V} {d:D} {vs:List V} {ds:List D} (h:UW K H v d) (t:bX K H vs ds):bX K H (v::vs) (d::ds)
end
theorem UW.inv_non{K:W.Frag}{H:Hp}{v:V}(h:UW K H v .non):v=.non:=by cases h;rfl
theorem UW.inv_bl{K:W.Frag}{H:Hp}{v:V}{b:Bool}(h:UW K H v (.bl b)):v=.bl b:=by cases h;rfl
theorem UW.inv_int{K:W.Frag}{H:Hp}{v:V}{i:Int}(h:UW K H v (.int i)):v=.int i:=by cases h;rfl
theorem UW.inv_str{K:W.Frag}{H:Hp}{v:V}{x:Str}(h:UW K H v (.str x)):v=.str x:=by cases h;rfl
theorem UW.inv_tup{K:W.Frag}{H:Hp}{v:V}{ds:List D}(h:UW K H v (.tup ds)):∃a vs,v=.ref a/\Uq K H a vs/\bX K H vs ds:=by cases h;exact⟨_,_,rfl,‹_›,‹_›⟩
theorem UW.inv_lst{K:W.Frag}{H:Hp}{v:V}{ds:List D}(h:UW K H v (.lst ds)):∃a vs,v=.ref a/\UV K H a vs/\bX K H vs ds:=by cases h;exact⟨_,_,rfl,‹_›,‹_›⟩
def Q9:HO->Prop
 |.tup _=>True
 |.frz _ _=>True
 |.tbl _=>True
 |_=>False
def wg(H H':Hp):Prop:=∀b o,Q9 o->H b=some o->H' b=some o
theorem Uq.pres{K:W.Frag}{H H':Hp}{a:Addr}{xs:List V}(p:wg H H')(h:Uq K H a xs):Uq K H' a xs:=by
 rcases h with(h|⟨o,h⟩)|h
 . exact .inl (.inl (p _ _ True.intro h))
 . exact .inl (.inr ⟨o,p _ _ True.intro h⟩)
 . exact .inr h
theorem UV.pres{K:W.Frag}{H H':Hp}{a:Addr}{xs:List V}(p:wg H H')(h:UV K H a xs):UV K H' a xs:=by
 rcases h with⟨o,h⟩|h
 . exact .inl ⟨o,p _ _ True.intro h⟩
 . exact .inr h
theorem XF.pres{H H':Hp}(p:wg H H'){dx:Option Addr}{ns:List Str}{vs:List V}(h:XF H dx ns vs):XF H' dx ns vs:=by
 rcases h with h|⟨d,od,e,h,l⟩
 . exact .inl h
 . exact .inr ⟨d,od,e,p _ _ True.intro h,l⟩
def UX(o:HO):Prop:=Q9 o/\MN o
theorem xf(o:Obj)(b:Addr):UX (.frz o (.own b)):=⟨True.intro,True.intro⟩
theorem MO(xs:List V):UX (.tup xs):=⟨True.intro,True.intro⟩
section
variable{K:W.Frag}{H H':Hp}
theorem Uq.mapv(p:∀b o,UX o->H b=some o->H' b=some o){a:Addr}{xs:List V}(h:Uq K H a xs):Uq K H' a xs:=by
 rcases h with(h|⟨o,h⟩)|h
 . exact .inl (.inl (p _ _ (MO _) h))
 . exact .inl (.inr ⟨o,p _ _ ⟨True.intro,True.intro⟩ h⟩)
 . exact .inr h
theorem UV.mapv(p:∀b o,UX o->H b=some o->H' b=some o){a:Addr}{xs:List V}(h:UV K H a xs):UV K H' a xs:=by
 rcases h with⟨o,h⟩|h
 . exact .inl ⟨o,p _ _ ⟨True.intro,True.intro⟩ h⟩
 . exact .inr h
mutual
theorem UW.mapv(p:∀b o,UX o->H b=some o->H' b=some o):∀{v:V}{d:D},UW K H v d->UW K H' v d
 |_,_,.non=>.non
 |_,_,.bl b=>.bl b
 |_,_,.int i=>.int i
 |_,_,.str x=>.str x
 |_,_,.tup h r=>.tup (h.mapv p) (bX.mapv p r)
 |_,_,.lst h r=>.lst (h.mapv p) (bX.mapv p r)
 |_,_,.dct h=>.dct (p _ _ ⟨True.intro,True.intro⟩ h)
 | _,_,.exc h hv hc hn hs hq hf r=>.exc (p _ _ ⟨True.intro,hv⟩ h) hv hc hn hs hq (by
   rcases hf with hf|⟨d,od,e,h,l⟩
   .
    exact .inl hf
   .
    exact .inr ⟨d,od,e,p _ _ ⟨True.intro,True.intro⟩ h,l⟩) (bX.mapv p r)
 |_,_,.fn hl hf hq hc hz hd hv hm r=>.fn hl (p _ _ (xf _ _) hf) (p _ _ (xf _ _) hq) hc (p _ _ (xf _ _) hz) hd hv hm (UW.mapv p r)
 |_,_,.dk h r=>.dk (p _ _ ⟨True.intro,True.intro⟩ h) (bX.mapv p r)
 |_,_,.gf h ho hk=>.gf h ho hk
theorem bX.mapv(p:∀b o,UX o->H b=some o->H' b=some o):∀{vs:List V}{ds:List D},bX K H vs ds->bX K H' vs ds
 |_,_,.nil=>.nil
 |_,_,.cons h t=>.cons (UW.mapv p h) (bX.mapv p t)
end
theorem UW.pres(p:wg H H'){v:V}{d:D}(r:UW K H v d):UW K H' v d:=r.mapv λb o z e=>p b o z.1 e
theorem bX.pres(p:wg H H'){vs:List V}{ds:List D}(r:bX K H vs ds):bX K H' vs ds:=r.mapv λb o z e=>p b o z.1 e
end
theorem bX.length{K:W.Frag}{H:Hp}:∀{vs:List V}{ds:List D},bX K H vs ds->vs.length=ds.length
 |_,_,.nil=>rfl
 |_,_,.cons _ t=>by simp[bX.length t]
theorem bX.get{K:W.Frag}{H:Hp}:∀{vs:List V}{ds:List D}{i:Nat}{d:D},bX K H vs ds->ds[i]?=some d->∃v,vs[i]?=some v/\UW K H v d
 |_,_,_,_,.nil,e=>by simp at e
 |_,_,0,_,.cons h _,e=>by simp at e;subst e;exact⟨_,rfl,h⟩
 | _,_,i+1,d,.cons _ t,e=>by obtain⟨v,h1,h2⟩:=bX.get (i:=i) (d:=d) t (by simpa using e);exact⟨v,by simpa using h1,h2⟩
theorem bX.set{K:W.Frag}{H:Hp}{v:V}{d:D}(r:UW K H v d):∀{vs:List V}{ds:List D}(i:Nat),bX K H vs ds->bX K H (vs.set i v) (ds.set i d)
 |_,_,_,.nil=>.nil
 |_,_,0,.cons _ t=>.cons r t
 |_,_,i+1,.cons h t=>.cons h (bX.set r i t)
theorem bX.append{K:W.Frag}{H:Hp}:∀{vs us:List V}{ds es:List D},bX K H vs ds->bX K H us es->bX K H (vs++us) (ds++es)
 |_,_,_,_,.nil,s=>s
 |_,_,_,_,.cons h t,s=>.cons h (bX.append t s)
theorem bX.take{K:W.Frag}{H:Hp}:∀{vs:List V}{ds:List D}(n:Nat),bX K H vs ds->bX K H (vs.take n) (ds.take n)
 |_,_,0,_=>.nil
 |_,_,_+1,.nil=>.nil
 |_,_,n+1,.cons h t=>.cons h (bX.take n t)
theorem bX.drop{K:W.Frag}{H:Hp}:∀{vs:List V}{ds:List D}(n:Nat),bX K H vs ds->bX K H (vs.drop n) (ds.drop n)
 |_,_,0,r=>r
 |_,_,_+1,.nil=>.nil
 |_,_,n+1,.cons _ t=>bX.drop n t
inductive L where
 |un|d (x:D)|own (a:Addr) (xs:List D)|bx (k:Option Addr) (ls:List L)|dic (a:Addr) (kvs:List (TX×D))
noncomputable abbrev Ev:=List L
mutual
noncomputable def bz:L->List Addr
 |.un=>[]
 |.d _=>[]
 |.own a _=>[a]
 |.bx k ls=>k.toList++fN ls
 |.dic a _=>[a]
noncomputable def fN:List L->List Addr
 |[]=>[]
 |l::ls=>bz l++fN ls
end
noncomputable def owns(Z:Ev):List Addr:=Z.flatMap bz
theorem fO:∀ls:List L,fN ls=owns ls
 |[]=>rfl
 |l::ls=>by rw[fN,fO ls];rfl
mutual
def bo(K:W.Frag)(H:Hp)(s:Option V):L->Prop
 |.un=>True
 |.d x=>∃v,s=some v/\UW K H v x
 |.own a xs=>s=some (.ref a)/\∃vs,H a=some (.lst vs)/\bX K H vs xs
 |.bx none ls=>∃a vs,s=some (.ref a)/\Uq K H a vs/\cw K H vs ls
 |.bx (some a) ls=>s=some (.ref a)/\∃vs,H a=some (.lst vs)/\cw K H vs ls
 |.dic a kvs=>s=some (.ref a)/\∃vs,H a=some (.dK vs)/\Paired (λ(p:TX×V) (q:TX×D)=>p.1=q.1/\UW K H p.2 q.2) vs kvs
def cw(K:W.Frag)(H:Hp)(vs:List V):List L->Prop
 |[]=>vs=[]
 |l::ls=>∃v us,vs=v::us/\bo K H (some v) l/\cw K H us ls
end
mutual
theorem bo.pres{K:W.Frag}{H H':Hp}(p:wg H H'):∀{s:Option V}(l:L),(∀a∈bz l,H' a=H a)->bo K H s l->bo K H' s l
 |_,.un,_,_=>by simp only[bo]
 | _,.d x,_,h=>by
  simp only[bo]at h ⊢
  obtain⟨v,e,r⟩:=h
  exact⟨v,e,r.pres p⟩
 | _,.own a xs,q,h=>by
  simp only[bo]at h ⊢
  obtain⟨e,vs,ha,r⟩:=h
  exact⟨e,vs,(q a (by simp[bz])).trans ha,r.pres p⟩
 | _,.bx none ls,q,h=>by
  simp only[bo]at h ⊢
  obtain⟨a,vs,e,ha,r⟩:=h
  exact⟨a,vs,e,ha.pres p,cw.pres p ls (λb hb=>q b (by simp[bz,hb])) r⟩
 | _,.bx (some a) ls,q,h=>by
  simp only[bo]at h ⊢
  obtain⟨e,vs,ha,r⟩:=h
  exact⟨e,vs,(q a (by simp[bz])).trans ha,cw.pres p ls (λb hb=>q b (by simp[bz,hb])) r⟩
 | _,.dic a kvs,q,h=>by
  simp only[bo]at h ⊢
  obtain⟨e,vs,ha,r⟩:=h
  exact⟨e,vs,(q a (by simp[bz])).trans ha,Paired.mapP r λ_ _ z=>⟨z.1,z.2.pres p⟩⟩
theorem cw.pres{K:W.Frag}{H H':Hp}(p:wg H H'):∀{vs:List V}(ls:List L),(∀a∈fN ls,H' a=H a)->cw K H vs ls->cw K H' vs ls
 |_,[],_,h=>by simpa only[cw]using h
 | _,l::ls,q,h=>by
  simp only[cw]at h ⊢
  obtain⟨v,us,e,h1,h2⟩:=h
  exact⟨v,us,e,bo.pres p l (λb hb=>q b (by simp[fN,hb])) h1,cw.pres p ls (λb hb=>q b (by simp[fN,hb])) h2⟩
end
def OT:HO->Prop
 |.lst _=>True
 |.dK _=>True
 |_=>False
theorem OT.no{o:HO}(h:OT o)(p:Q9 o):False:=by cases o<;>first|exact h|exact p
mutual
theorem bo.lstAt{K:W.Frag}{H:Hp}:∀{s:Option V}(l:L),bo K H s l->∀a∈bz l,∃o,H a=some o/\OT o
 |_,.un,_,a,ha=>by simp[bz]at ha
 |_,.d x,_,a,ha=>by simp[bz]at ha
 | _,.own b xs,h,a,ha=>by
  simp only[bo]at h
  have e:a=b:=by simpa[bz]using ha
  subst e
  obtain⟨_,vs,q,_⟩:=h
  exact⟨_,q,True.intro⟩
 | _,.bx none ls,h,a,ha=>by
  simp only[bo]at h
  obtain⟨b,vs,e,_,r⟩:=h
  exact cw.lstAt ls r a (by simpa[bz]using ha)
 | _,.bx (some b) ls,h,a,ha=>by
  simp only[bo]at h
  obtain⟨e,vs,q,r⟩:=h
  rcases(by simpa[bz]using ha:a=b∨a∈fN ls)with z|z
  .
   subst z;exact⟨_,q,True.intro⟩
  .
   exact cw.lstAt ls r a z
 | _,.dic b xs,h,a,ha=>by
  simp only[bo]at h
  have e:a=b:=by simpa[bz]using ha
  subst e
  obtain⟨_,vs,q,_⟩:=h
  exact⟨_,q,True.intro⟩
theorem cw.lstAt{K:W.Frag}{H:Hp}:∀{vs:List V}(ls:List L),cw K H vs ls->∀a∈fN ls,∃o,H a=some o/\OT o
 |_,[],_,a,ha=>by simp[fN]at ha
 | _,l::ls,h,a,ha=>by
  simp only[cw]at h
  obtain⟨v,us,e,h1,h2⟩:=h
  rcases(by simpa[fN]using ha:a∈bz l∨a∈fN ls)with z|z
  .
   exact bo.lstAt l h1 a z
  .
   exact cw.lstAt ls h2 a z
end
structure aI (K:W.Frag) (Pr H:Hp) (σ:St) (Z:Ev):Prop where
 sub:∀b o,Pr b=some o->H b=some o
 nd:(owns Z).Nodup
 off:∀a∈owns Z,Pr a=none
 sl:Paired (bo K H) σ Z
theorem jc{Z:Ev}{a:Addr}:a∈owns Z↔∃l∈Z,a∈bz l:=by unfold owns;rw[List.mem_flatMap]
theorem MP{Z:Ev}{a:Addr}{xs:List D}(h:L.own a xs∈Z):a∈owns Z:=jc.mpr ⟨_,h,by simp[bz]⟩
theorem aK(a b:Ev):owns (a++b)=owns a++owns b:=List.flatMap_append
theorem Paired.mem2{α β:Type}{F:α->β->Prop}:∀{l1:List α}{l2:List β}{b:β},Paired F l1 l2->b∈l2->∃a,a∈l1/\F a b
 |_,_,_,.nil,h=>by simp at h
 | _,_,_,.cons r t,h=>by
  rcases YK.mp h with rfl|h
  . exact⟨_,k5,r⟩
  . obtain⟨a,h1,h2⟩:=Paired.mem2 t h;exact⟨a,fI _ h1,h2⟩
theorem Paired.app{α β:Type}{F:α->β->Prop}:∀{a c:List α}{b d:List β},Paired F a b->Paired F c d->Paired F (a++c) (b++d)
 |_,_,_,_,.nil,s=>s
 |_,_,_,_,.cons r t,s=>.cons r (Paired.app t s)
theorem Paired.unapp{α β:Type}{F:α->β->Prop}:∀{a c:List α}{b d:List β},a.length=b.length->Paired F (a++c) (b++d)->Paired F a b/\Paired F c d
 |[],_,[],_,_,s=>⟨.nil,s⟩
 | x::a,_,y::b,_,hl,.cons r t=>by obtain⟨p,q⟩:=Paired.unapp (a:=a) (b:=b) (by simpa using hl) t;exact⟨.cons r p,q⟩
 |[],_,_::_,_,hl,_=>by simp at hl
 |_::_,_,[],_,hl,_=>by simp at hl
theorem Paired.get2{α β:Type}{F:α->β->Prop}:∀{l1:List α}{l2:List β}{i:Nat}{b:β},Paired F l1 l2->l2[i]?=some b->∃a,l1[i]?=some a/\F a b
 |_,_,_,_,.nil,e=>by simp at e
 |_,_,0,_,.cons h _,e=>by simp at e;subst e;exact⟨_,rfl,h⟩
 | _,_,i+1,d,.cons _ t,e=>by obtain⟨v,h1,h2⟩:=Paired.get2 (i:=i) (b:=d) t (by simpa using e);exact⟨v,by simpa using h1,h2⟩
theorem Paired.set2{α β:Type}{F:α->β->Prop}{a:α}{b:β}(r:F a b):∀{l1:List α}{l2:List β}(i:Nat),Paired F l1 l2->Paired F (l1.set i a) (l2.set i b)
 |_,_,_,.nil=>.nil
 |_,_,0,.cons _ t=>.cons r t
 |_,_,i+1,.cons h t=>.cons h (Paired.set2 r i t)
theorem Paired.impMem{α β:Type}{F G:α->β->Prop}:∀{l1:List α}{l2:List β},Paired F l1 l2->(∀b∈l2,∀a,F a b->G a b)->Paired G l1 l2
 |_,_,.nil,_=>.nil
 |_,_,.cons r t,h=>.cons (h _ k5 _ r) (Paired.impMem t λb hb=>h b (fI _ hb))
theorem Paired.set_r{α β:Type}{F:α->β->Prop}{b:β}:∀{l1:List α}{l2:List β}(i:Nat),Paired F l1 l2->(∀a,l1[i]?=some a->F a b)->Paired F l1 (l2.set i b)
 |_,_,_,.nil,_=>.nil
 |_,_,0,.cons _ t,h=>.cons (h _ rfl) t
 |_,_,i+1,.cons q t,h=>.cons q (Paired.set_r i t λa e=>h a (by simpa using e))
section
variable{K:W.Frag}{Pr H H':Hp}{σ τ w σ':St}{Z μ lam Z':Ev}
theorem aI.len(E:aI K Pr H σ Z):σ.length=Z.length:=Paired.length E.sl
noncomputable def bK(H:Hp)(Z:Ev):Hp:=λb=>if b∈owns Z then none else H b
theorem aI.at_own(E:aI K Pr H σ Z){a:Addr}(h:a∈owns Z):∃o,H a=some o/\OT o:=by obtain⟨l,hx,ha⟩:=jc.mp h;obtain⟨s,_,q⟩:=Paired.mem2 E.sl hx;exact q.lstAt l a ha
theorem aI.wide(E:aI K Pr H σ Z):aI K (bK H Z) H σ Z :=
 ⟨λb o e=>by unfold bK at e;split at e;cases e;exact e,E.nd,λa h=>by unfold bK;rw[if_pos h],E.sl⟩
theorem aI.drop(E:aI K Pr H (τ++σ) (lam++Z))(hl:τ.length=lam.length):aI K Pr H σ Z :=
 ⟨E.sub,(Zj.mp (aK lam Z ▸ E.nd)).2.1,λa h=>E.off a (by rw[aK];exact YW _ h),(Paired.unapp hl E.sl).2⟩
theorem aI.left(E:aI K Pr H (τ++σ) (lam++Z))(hl:τ.length=lam.length):aI K Pr H τ lam :=
 ⟨E.sub,(Zj.mp (aK lam Z ▸ E.nd)).1,λa h=>E.off a (by rw[aK];exact Y1 _ h),(Paired.unapp hl E.sl).1⟩
theorem xg{H H':Hp}{Z:Ev}{σ:St}{Pr:Hp}(E:aI K Pr H σ Z)(h:∀b o,bK H Z b=some o->H' b=some o):wg H H':=λb o p e=>by refine h b o ?_;unfold bK;rw[if_neg,e];intro hm;obtain⟨u,e',m⟩:=E.at_own hm;rw[e]at e';cases e';exact m.no p
theorem aI.step(E:aI K Pr H (τ++σ) (lam++Z))(hl:τ.length=lam.length)(E':aI K (bK H Z) H' (w++σ') (μ++Z'))(hw:w.length=μ.length):aI K Pr H' (w++(τ++σ')) (μ++(lam++Z')):=by
 have Eσ:=E.drop hl;have p:wg H H':=xg Eσ E'.sub;have dis:∀a∈owns lam,a∉owns Z:=λa h1 h2=>(Zj.mp (aK lam Z ▸ E.nd)).2.2 a h1 a h2 rfl;have at':∀a∈owns lam,bK H Z a=H a:=λa h=>by unfold bK;rw[if_neg (dis a h)]
 have some':∀a∈owns lam,∃o,H a=some o/\OT o:=λa h=>E.at_own (by rw[aK];exact Y1 _ h);have out:∀a∈owns lam,a∉owns (μ++Z'):=λa h h2=>by have z:=E'.off a h2;rw[at' a h]at z;obtain⟨vs,e,_⟩:=some' a h;rw[e]at z;cases z
 have s1:=(Paired.unapp hw E'.sl);have s2:=(Paired.unapp hl E.sl).1;refine⟨λb o e=>?_,?_,λa ha=>?_,Paired.app s1.1 (Paired.app ?_ s1.2)⟩
 . refine E'.sub b o ?_;unfold bK;rw[if_neg,E.sub b o e];intro hm;have z:=Eσ.off b hm;rw[e]at z;cases z
 .
  have n1:=E'.nd;rw[aK]at n1;rw[aK,aK];obtain⟨q1,q2,q3⟩:=Zj.mp n1;refine Zj.mpr ⟨q1,Zj.mpr ⟨(Zj.mp (aK lam Z ▸ E.nd)).1,q2,λa ha b hb=>?_⟩,λa ha b hb=>?_⟩
  . rintro rfl;exact out a ha (by rw[aK];exact YW _ hb)
  .
   rcases YY.mp hb with hb|hb
   . rintro rfl;exact out a hb (by rw[aK];exact Y1 _ ha)
   . exact q3 a ha b hb
 .
  rw[aK,aK]at ha
  have key:a∈owns (μ++Z')->Pr a=none:=λh=>by
   have z:=E'.off a h;unfold bK at z;by_cases hm:a∈owns Z
   . exact Eσ.off a hm
   .
    rw[if_neg hm]at z
    cases q:Pr a with
    |none=>rfl
    |some o=>rw[E.sub a o q]at z;cases z
  rcases YY.mp ha with h|h
  . exact key (by rw[aK];exact Y1 _ h)
  .
   rcases YY.mp h with h|h
   . exact E.off a (by rw[aK];exact Y1 _ h)
   . exact key (by rw[aK];exact YW _ h)
 .
  have:∀l∈lam,∀s,bo K H s l->bo K H' s l:=λl hlm s h=>h.pres p l λa e=>by have ha:a∈owns lam:=jc.mpr ⟨l,hlm,e⟩;obtain⟨vs,e,_⟩:=some' a ha;rw[E'.sub a _ ((at' a ha).trans e),e]
  exact Paired.impMem s2 this
end
end L2
namespace L2
open PySem PySem.Spec PyProof.Rows PySem.W
structure Ea (K:Frag) (c:Str) (C L:Addr) (cd:ClassData):Prop where
 cls:clsIn K C=some cd
 load:nsIn K mainGlobals "LoadError"=some (some (.ref L))
 name:cd.name=c
 dct:cd.hasDict=true
 mro:cd.mro=Jk C L
 lname:∃ k,clsIn K L=some k/\k.name=("LoadError" : Str)
 ga:findIn K (.ref C) "__getattribute__"=some (some (.builtin "BaseException.__getattribute__"))
 gx:findIn K (.ref C) "__getattr__"=some none
 gc:findIn K (.ref C) "__class__"=some (some (.builtin "object.__class__"))
 sa:findIn K (.ref C) "__setattr__"=some (some (.builtin "object.__setattr__"))
 ty:typeIn K (.ref C)=some (.type "type")
 own:nsIn K mainGlobals c=some (some (.ref C))
theorem zk{K:Frag}{c:Str}{C:Addr}(h:we K c C=true):∃L cd,Ea K c C L cd:=by
 unfold we at h;split at h
 . rename_i cd L e1 e2;simp only[YV,beq_iff_eq]at h;obtain⟨⟨⟨⟨⟨⟨⟨⟨⟨h1,h2⟩,h3⟩,h4⟩,h5⟩,h6⟩,h7⟩,h8⟩,h9⟩,h10⟩:=h;obtain⟨k,hk,hn⟩:=any_some h4;exact⟨L,cd,e1,e2,h1,h2,h3,⟨k,hk,beq_iff_eq.mp hn⟩,h5,h6,h7,h8,h9,h10⟩
 . cases h
section
variable{K:Frag}{c:Str}{C L:Addr}{cd:ClassData}
theorem FU(C L:Addr):Jk C L=[.ref C,.ref L,.type "ValueError",.type "Exception",.type "BaseException",.type "object"]∨Jk C L=[.ref L,.type "ValueError",.type "Exception",.type "BaseException",.type "object"]/\C=L:=by
 by_cases h:C=L
 . exact .inr ⟨by unfold Jk;rw[if_pos h];rfl,h⟩
 . exact .inl (by unfold Jk;rw[if_neg h];rfl)
theorem Jz(C L:Addr)(b:Value):(Jk C L).contains b=([.ref C,.ref L,.type "ValueError",.type "Exception",.type "BaseException",.type "object"]:List Value).contains b:=by
 rcases FU C L with e|⟨e,h⟩
 . rw[e]
 . subst h;rw[e];simp only[List.contains_cons,<- Bool.or_assoc,Bool.or_self]
theorem Ea.mroIn(S:Ea K c C L cd)(b:Value):W.mroIn K C b=some (([.ref C,.ref L,.type "ValueError",.type "Exception",.type "BaseException",.type "object"]:List Value).contains b):=by
 unfold W.mroIn;rw[S.cls,Option.bind_some,S.mro];have ne:(Jk C L).isEmpty=false:=by rcases FU C L with e|⟨e,_⟩<;>rw[e]<;>rfl
 show(if(Jk C L).isEmpty=true then none else some ((Jk C L).contains b))=_
 rw[ne,Jz];rfl
theorem tj(C L:Addr)(T:String):(([.ref C,.ref L,.type "ValueError",.type "Exception",.type "BaseException",.type "object"]:List Value).contains (.type T))=(["ValueError","Exception","BaseException","object"]:List String).contains T:=by
 simp only[List.contains_cons,List.contains_nil,Bool.or_false];have e:∀a:Addr,(Value.type T == Value.ref a)=false:=λ_=>rfl
 have f:∀U:String,(Value.type T == Value.type U)=(T == U):=λU=>by
  by_cases q:T=U
  . subst q;simp
  . rw[beq_eq_false_iff_ne.mpr q,beq_eq_false_iff_ne];intro z;injection z with z;exact q z
 rw[e,e,f,f,f,f];rfl
theorem Ea.has(S:Ea K c C L cd){T:String} (h:(["ValueError","Exception","BaseException","object"]:List String).contains T=true):W.mroIn K C (.type T)=some true:=by rw[S.mroIn,tj,h]
theorem Ea.isT(S:Ea K c C L cd){M:Model}{h:Heap}(X:K.In h)(T:String):Looks M h (isSubtype (.ref C) (.type T)) ((["ValueError","Exception","BaseException","object"]:List String).contains T):=looks_mroIn X (by rw[S.mroIn,tj])
end
section
variable{prog:Program}{w:World}{A:Around}{E:Value->Shared->Prop}{s:Shared}{K:Frag}{c:Str}{x C L:Addr}{cd:ClassData}{ox:Obj}{od:Option Obj}{name:Str}
theorem zl{tk:Tok}{Q:Fin->Shared->Prop}(S:Ea K c C L cd)(X:K.In s.heap)(I:InstAt s.heap x ox C od) (hf:findObj K C od "__class__"=some (.bind (.builtin "getset_descriptor.__get__") (.builtin "object.__class__"))) (hq:Q (.done (.ret (.ref C))) s) :
  wpAny (model prog w) A (Builtin.«object.__getattribute__» ⟨[.ref x,.str "__class__" tk],[]⟩) Q E s:=by
 obtain⟨hh,g,d,t,os⟩:=s;have L0:=I.type (M:=model prog w);have L1:=looks_find (M:=model prog w) X I hf;unfold Builtin.«object.__getattribute__»;refine YE (YX (YE (YX ?_)));refine YE (L0.at (YE (L1.at ?_)));show wpAny _ _ (holding [Value.builtin "object.__class__"] (call (.builtin "getset_descriptor.__get__") [.builtin "object.__class__",.ref x,.ref C]) >>= ret) _ _ _;refine YE (ZQ (wpAny_call ?_));exact class_get (s:=⟨hh,g,d,t,os⟩) (ox:=ox) (od:=od) X I (S.has xp) (YX hq)
theorem MQ{tk:Tok}{v:Value}{fill expr:Bool}{Q:Value->Shared->Prop}(S:Ea K c C L cd)(X:K.In s.heap)(I:InstAt s.heap x ox C od)
  (he:∀(A':Around)(Q':Fin->Shared->Prop),Q' (.done (.ret v)) s->wpAny (model prog w) A' (Builtin.«object.__getattribute__» ⟨[.ref x,.str name tk],[]⟩) Q' (λ_ _=>False) s) (hh:handedIn v=true) (hq:Q v s) :
  wpAny (model prog w) A (getAttrBy (.ref x) (.str name tk) fill expr) Q E s:=by
 have FB:=F.excAttr_ValueError;have L0:=I.type (M:=model prog w);have L1:=looks_findIn (M:=model prog w) X S.ga;have L2:=looks_findIn (M:=model prog w) X S.gx;unfold getAttrBy;refine ZQ (YE (L0.here (YE (L1.here ?_))));have hx2:(Value.builtin "BaseException.__getattribute__" == Value.builtin "object.__getattribute__")=false:=by decide +kernel
 dsimp only;rw[hx2,Bool.and_false,if_neg (by decide)];unfold getAttrByItsOwn;refine YE ((looks_hook (mc:=.ref C) X (r:=none) S.gx).here ?_);refine YE (wpAny_attempt (ZQ ?_));have hx0:(expr && onTheHeap (Value.builtin "BaseException.__getattribute__"))=false:=by cases expr <;> rfl
 unfold callGetattribute boundAndCalled;rw[hx0,if_neg (by decide),FB.ga.bind];refine YE (YX (wpAny_call ?_));have hi:Looks (model prog w) s.heap (isInstance (.ref x) (.type "BaseException")) true:=L0.andThen (S.isT X _);have hkd:builtinKind "BaseException.__getattribute__"=some .slot:=by decide +kernel
 have hsp:splitId "BaseException.__getattribute__"=some ("BaseException","__getattribute__"):=by decide +kernel
 refine codeAny_call_builtin FB.ga.plain F.entry_bexc_ga (@check_slot (model prog w) _ _ s "BaseException.__getattribute__" "BaseException" "__getattribute__" (.ref x) [.str name tk] [] _ hkd hsp hi (F.args_bexc_ga (.ref x) (.str name tk)) ?_);refine aaz (he _ _ ?_) (λ_ _ z=>z) λ_ _ z=>z.elim;show wpAny _ _ (handedOut v) _ _ _;rw[handedOut_of hh];exact YX hq
end
theorem MR(K:Frag):specialIn K (.builtin "object.__class__") "__get__"=some (some (.builtin "getset_descriptor.__get__")):=(by decide +kernel:specialIn [] (.builtin "object.__class__") "__get__"=some (some (.builtin "getset_descriptor.__get__")))
theorem FV(K:Frag):takesIn K (.builtin "object.__class__")=some true:=(by decide +kernel:takesIn [] (.builtin "object.__class__")=some true)
section
variable{prog:Program}{w:World}{A:Around}{E:Value->Shared->Prop}{s:Shared}{K:Frag}{c:Str}{x C L:Addr}{cd:ClassData}{ox:Obj}{od:Option Obj}
theorem Ea.fclass(S:Ea K c C L cd)(od:Option Obj):findObj K C od "__class__"=some (.bind (.builtin "getset_descriptor.__get__") (.builtin "object.__class__")):=by unfold findObj;rw[S.cls,Option.bind_some,S.gc,Option.bind_some];simp[MR,FV]
theorem Bd{Q:Option Value->Shared->Prop}(S:Ea K c C L cd)(X:K.In s.heap)(I:InstAt s.heap x ox C od)(hq:Q (some (.ref C)) {s with toks:=s.toks+1}) :
  wpAny (model prog w) A (getAttr? (.ref x) "__class__") Q E s:=by
 obtain⟨hh,g,d,t,os⟩:=s;unfold getAttr? getAttrBy?;refine YE (wpAny_mkText (YE (wpAny_attempt ?_)));exact MQ (s:=⟨hh,g,d,t+1,os⟩) (ox:=ox) (od:=od) S X I (λA' Q' q=>zl (s:=⟨hh,g,d,t+1,os⟩) S X I (S.fclass od) q) rfl (YX hq)
theorem JA(S:Ea K c C L cd):KitX K (.ref x) (.ref C) (λh=>∃ox od,InstAt h x ox C od) where
 ty:=λ_ _ _ ⟨_,_,I⟩=>I.type
 it:=λ_ _ X _=>by
  have hc:=S.cls;unfold clsIn at hc;split at hc
  . rename_i ho;intro A' Q' E' s' k q;unfold isType loadHead;exact YE (wpAny_loadPart (k _ _ (X _ _ ho)) (YX q))
  . cases hc
 ne:=λh tp dd its n sl X htp=>by
  refine Bool.eq_false_iff.mpr λq=>?_;have e:C=tp:=Value.ref.inj (beq_iff_eq.mp q);subst e;have hc:=S.cls;unfold clsIn at hc;split at hc
  . rename_i ho;have z:=(X _ _ ho).symm.trans htp;cases z
  . cases hc
 ca:=λX ⟨_,_,I⟩ k=>Bd S X I k
end
end L2
namespace L2
open PySem PySem.Spec PyProof.Rows
section
variable{X:Cx}{ab:List (Addr×Obj)}{σ:St}{H:Hp}{s:Shared}
theorem Uh.reword{a:Addr}{u w:HO}(I:Uh X ab σ H s)(h:H a=some u)(hu:¬Q9 u)(hw:∀y,u≠.own y)(nw:ip X.prog X.w H s.heap a w)(hw2:∀C dx fs,w≠.ins C dx fs):Uh X ab σ (TY H a w) s:=by
 have ne:∀b,H b=none->b≠a:=λb n e=>by subst e;rw[h]at n;cases n
 have nt:∀b xs,H b=some (.tup xs)->b≠a:=λb xs n e=>by subst e;rw[h]at n;cases n;exact hu True.intro
 have nf:∀b o z,H b=some (.frz o z)->b≠a:=λb o z n e=>by subst e;rw[h]at n;cases n;exact hu True.intro
 have no:∀b z,H b=some (.own z)->b≠a:=λb z n e=>by subst e;rw[h]at n;cases n;exact hw _ rfl
 refine⟨I.ok,I.os,I.bare,⟨I.base.keep,I.base.slot,λb ob e n hx=>?_,I.base.there,λb xs e=>?_,λb ob z e=>?_,λb ps e=>?_⟩,I.loc,I.cell,?_,λx c e=>?_,λp hp=>?_,λb z e=>?_,I.len⟩
 . have q:=I.base.free b ob e n hx;rw[aH (ne b q)];exact q
 . have q:=I.base.tups b xs e;rw[aH (nt b xs q)];exact q
 . have q:=I.base.frzs b ob z e;rw[aH (nf b ob z q)];exact q
 . have q:=I.base.tbls b ps e;rw[aH (λz=>by subst z;rw[h]at q;cases q;exact hu True.intro)];exact q
 . rw[aH (ne _ I.free)];exact I.free
 .
  rcases I.freeC x c e with z|⟨hf,o,z⟩
  . exact .inl (by rw[aH (ne _ z)];exact z)
  . exact .inr ⟨hf,o,by rw[aH (nf _ _ _ z)];exact z⟩
 . obtain⟨e,n,r⟩:=I.pin p hp;exact⟨e,by rw[aH (ne _ n)];exact n,r⟩
 .
  by_cases hb:b=a
  . subst hb;rw[bF]at e;cases e;exact nw.stay (λc v _ q=>q) (λc q=>by rw[aH (no c _ q)];exact q) (λc xs q=>by rw[aH (nt c xs q)];exact q) λc ob _ _ q=>by rw[aH (nf c ob _ q)];exact q
  . rw[aH hb]at e;exact(I.hok b z e).stay (λc v _ q=>q) (λc q=>by rw[aH (no c _ q)];exact q) (λc xs q=>by rw[aH (nt c xs q)];exact q) λc ob _ _ q=>by rw[aH (nf c ob _ q)];exact q
theorem Uh.freezeL{a:Addr}{xs:List V}(I:Uh X ab σ H s)(h:H a=some (.lst xs)):∃o,Uh X ab σ (TY H a (.frz o (.lst xs))) s:=by obtain⟨z,its,n,r,e⟩:=id (I.hok a _ h);exact⟨_,I.reword h (λq=>q) (λ_ q=>nomatch q) ⟨e,z,its,n,r,e⟩ (λ_ _ _ q=>nomatch q)⟩
end
section
variable{K:W.Frag}{Pr H:Hp}{σ:St}{Z:Ev}
theorem aI.new(E:aI K Pr H σ Z){p:Addr}{o:HO}(h:H p=none):aI K Pr (TY H p o) σ Z:=by
 have k:∀b u,H b=some u->TY H p o b=some u:=λb u e=>by rw[aH (bJ e h)];exact e
 exact⟨λb u e=>k b u (E.sub b u e),E.nd,E.off,Paired.impMem E.sl λl hl s q=>q.pres (λb u _ e=>k b u e) l λa e=>by
  obtain⟨vs,e,_⟩:=E.at_own (jc.mpr ⟨l,hl,e⟩)
  rw[k _ _ e,e]⟩
theorem bX.new{vs:List V}{ds:List D}(r:bX K H vs ds){p:Addr}{o:HO}(h:H p=none):bX K (TY H p o) vs ds:=r.pres λb u _ e=>by rw[aH (bJ e h)];exact e
theorem UW.new{v:V}{d:D}(r:UW K H v d){p:Addr}{o:HO}(h:H p=none):UW K (TY H p o) v d:=r.pres λb u _ e=>by rw[aH (bJ e h)];exact e
theorem rj:owns (.un::Z)=owns Z:=rfl
theorem bp{a:Addr}{xs:List D}:owns (.own a xs::Z)=a::owns Z:=rfl
theorem aI.cons_d(E:aI K Pr H σ Z){v:V}{x:D}(r:UW K H v x):aI K Pr H (some v::σ) (.d x::Z):=⟨E.sub,E.nd,E.off,.cons ⟨v,rfl,r⟩ E.sl⟩
theorem aI.cons_un(E:aI K Pr H σ Z){v:Option V}:aI K Pr H (v::σ) (.un::Z):=⟨E.sub,E.nd,E.off,.cons True.intro E.sl⟩
theorem aI.cons_own(E:aI K Pr H σ Z){p:Addr}{vs:List V}{xs:List D}(h:H p=none)(r:bX K H vs xs):aI K Pr (TY H p (.lst vs)) (some (.ref p)::σ) (.own p xs::Z):=by
 have E':=E.new (o:=.lst vs) h;refine⟨E'.sub,?_,λa ha=>?_,.cons ⟨rfl,vs,bF,r.new h⟩ E'.sl⟩
 . rw[bp];refine Zc.mpr ⟨λhm=>?_,E.nd⟩;obtain⟨us,e,_⟩:=E.at_own hm;rw[h]at e;cases e
 .
  rw[bp]at ha;rcases YK.mp ha with rfl|ha
  .
   cases q:Pr a with
   |none=>rfl
   |some u=>rw[E.sub a u q]at h;cases h
  . exact E.off a ha
theorem aI.cons_tup(E:aI K Pr H σ Z){p:Addr}{vs:List V}{xs:List D}(h:H p=none)(r:bX K H vs xs):aI K Pr (TY H p (.tup vs)) (some (.ref p)::σ) (.d (.tup xs)::Z) :=
 (E.new h).cons_d (.tup (Uq.of bF) (r.new h))
theorem aI.freeze(E:aI K Pr H σ (.own a xs::Z)){vs:List V}(h:H a=some (.lst vs))(o:Obj):aI K Pr (TY H a (.frz o (.lst vs))) σ (.d (.lst xs)::Z):=by
 have pa:Pr a=none:=E.off a (by rw[bp];exact k5);have nd:=E.nd;rw[bp]at nd;obtain⟨hn,nd⟩:=Zc.mp nd;have p:wg H (TY H a (.frz o (.lst vs))):=λb u pu e=>by rw[aH];exact e;rintro rfl;rw[h]at e;cases e;exact pu
 refine⟨λb u e=>?_,nd,λb hb=>E.off b (by rw[bp];exact fI _ hb),?_⟩
 . rw[aH];exact E.sub b u e;rintro rfl;rw[pa]at e;cases e
 .
  have sl:=E.sl
  cases sl with
  | cons q t =>
   obtain⟨e,us,e2,r⟩:=q;rw[h]at e2;cases e2;refine .cons ⟨.ref a,e,.lst (.inl ⟨o,bF⟩) (r.pres p)⟩ (Paired.impMem t λl hl s z=>z.pres p l λb hbm=>?_);rw[aH];rintro rfl;exact hn (jc.mpr ⟨l,hl,hbm⟩)
theorem aR(l:L)(Z:Ev):owns (l::Z)=bz l++owns Z:=rfl
theorem iT{k:L}:∀{Z:Ev}{i:Nat}{l:L},Z[i]?=some k->bz l=[]->(owns Z).Perm (bz k++owns (Z.set i l))
 |[],_,_,h,_=>by simp at h
 | _::Z,0,l,h,hl=>by simp at h;subst h;show(owns (_::Z)).Perm (_++owns (l::Z));rw[aR,aR,hl];exact List.Perm.refl _
 | m::Z,i+1,l,h,hl=>by have ih:=iT (i:=i) (Z:=Z) (l:=l) (by simpa using h) hl;show(owns (m::Z)).Perm (bz k++owns (m::Z.set i l));rw[aR,aR];refine(List.Perm.append_left _ ih).trans ?_;rw[<- Zo,<- Zo];exact List.Perm.append_right _ ZL
theorem FW{a:Addr}{xs:List D}{Z:Ev}{i:Nat}{l:L}(h:Z[i]?=some (.own a xs))(hl:bz l=[]):(owns Z).Perm (a::owns (Z.set i l)):=iT h hl
theorem CO{Z:Ev}{i:Nat}(l:L)(h:Z[i]?=some .un):(owns (Z.set i l)).Perm (bz l++owns Z):=by
 have hi:i<Z.length:=(YA.mp h).1;have pm:=iT (Z:=Z.set i l) (i:=i) (k:=l) (l:=.un) (by simp[hi]) rfl;rw[aaC]at pm;have e2:Z.set i .un=Z:=by have:=List.set_getElem_self (as:=Z) (i:=i) hi;have e3:Z[i]=.un:=(YA.mp h).2;rw[e3]at this;exact this
 rw[e2]at pm;exact pm
theorem aI.outL(E:aI K Pr H σ Z){i:Nat}{k:L}{s:Option V}(h:Z[i]?=some k)(hs:σ[i]?=some s):aI K Pr H (s::σ) (k::Z.set i .un):=by have pm:=iT (l:=.un) h rfl;obtain⟨s',hs',q⟩:=Paired.get2 E.sl h;rw[hs]at hs';cases hs';refine⟨E.sub,?_,λb hb=>E.off b (pm.mem_iff.mpr (by rw[aR]at hb;exact hb)),.cons q (Paired.set_r i E.sl λ_ _=>by simp only[bo])⟩;rw[aR];exact pm.nodup_iff.mp E.nd
theorem aI.out(E:aI K Pr H σ Z){i:Nat}{a:Addr}{xs:List D}(h:Z[i]?=some (.own a xs)):aI K Pr H (some (.ref a)::σ) (.own a xs::Z.set i .un):=by
 have pm:=FW (l:=.un) h rfl;obtain⟨s,hs,q⟩:=Paired.get2 E.sl h;refine⟨E.sub,?_,λb hb=>E.off b (pm.mem_iff.mpr (by rw[bp]at hb;exact hb)),.cons ?_ (Paired.set_r i E.sl λ_ _=>by simp only[bo])⟩
 . rw[bp];exact pm.nodup_iff.mp E.nd
 . obtain⟨_,r⟩:=q;exact⟨rfl,r⟩
theorem aI.back{v:Option V}{l:L}(E:aI K Pr H (v::σ) (l::Z)){i:Nat}(h:Z[i]?=some .un)(hs:σ[i]?=some v):aI K Pr H σ (Z.set i l):=by
 have sl:=E.sl
 cases sl with
 | cons q t =>
  have e1:Z.set i l=(Z.set i l):=rfl;refine⟨E.sub,?_,λb hb=>?_,Paired.set_r i t λa e=>by rw[hs]at e;cases e;exact q⟩
  . exact(CO l h).nodup_iff.mpr E.nd
  . exact E.off b ((CO l h).mem_iff.mp hb)
theorem aI.write(E:aI K Pr H σ (.own a xs::Z)){vs:List V}{ys:List D}(r:bX K H vs ys):aI K Pr (TY H a (.lst vs)) σ (.own a ys::Z):=by
 have pa:Pr a=none:=E.off a (by rw[bp];exact k5);have nd:=E.nd;rw[bp]at nd;obtain⟨hn,nd'⟩:=Zc.mp nd;obtain⟨us,ha,mu⟩:=E.at_own (a:=a) (by rw[bp];exact k5);have p:wg H (TY H a (.lst vs)):=λb u pu e=>by rw[aH];exact e;rintro rfl;rw[ha]at e;cases e;exact mu.no pu
 refine⟨λb u e=>?_,nd,λb hb=>E.off b hb,?_⟩
 . rw[aH];exact E.sub b u e;rintro rfl;rw[pa]at e;cases e
 .
  have sl:=E.sl
  cases sl with
  | cons q t =>
   obtain⟨e,_⟩:=q;refine .cons ⟨e,vs,bF,r.pres p⟩ (Paired.impMem t λl hl s z=>z.pres p l λb hbm=>?_);rw[aH];rintro rfl;exact hn (jc.mpr ⟨l,hl,hbm⟩)
end
noncomputable abbrev W(α:Type):=Ev->(α->Ev->Prop)->Prop
inductive Fl where
 |nx|bk|ct|rt (r:L)
inductive EL (X:Cx) (ab:List (Addr×Obj)) (σ:St) (Pr:Hp) (k4:L->Ev->Prop) (u:Value) (s':Shared):Prop
 |mk (v:V) (H':Hp) (r:L) (Z':Ev) (i:Uh X ab σ H' s') (q:cJ v u) (e:aI X.K Pr H' (some v::σ) (r::Z')) (p:k4 r Z')
theorem EL.on{G:Prop}{X:Cx}{ab:List (Addr×Obj)}{σ:St}{Pr:Hp}{k4:L->Ev->Prop}{u:Value}{s':Shared}(h:EL X ab σ Pr k4 u s')(k:∀v H' r Z',Uh X ab σ H' s'->cJ v u->aI X.K Pr H' (some v::σ) (r::Z')->k4 r Z'->G):G:=by cases h with|mk a b c d e f g h=>exact k a b c d e f g h
def PL(X:Cx)(e:Expr)(t:W L):Prop :=
 ∀(ab:List (Addr×Obj))(s:Shared)(σ:St)(H Pr:Hp)(Z:Ev)(k4:L->Ev->Prop),Uh X ab σ H s->aI X.K Pr H σ Z->t Z k4->wpAny (model X.prog X.w) X.A (eval e X.env) (EL X ab σ Pr k4) X.xe s
inductive EB (X:Cx) (ab:List (Addr×Obj)) (σ:St) (Pr:Hp) (k4:Bool->Ev->Prop) (b:Bool) (s':Shared):Prop
 |mk (H':Hp) (Z':Ev) (i:Uh X ab σ H' s') (e:aI X.K Pr H' σ Z') (p:k4 b Z')
theorem EB.on{G:Prop}{X:Cx}{ab:List (Addr×Obj)}{σ:St}{Pr:Hp}{k4:Bool->Ev->Prop}{b:Bool}{s':Shared}(h:EB X ab σ Pr k4 b s')(k:∀H' Z',Uh X ab σ H' s'->aI X.K Pr H' σ Z'->k4 b Z'->G):G:=by cases h with|mk a c d e f=>exact k a c d e f
def PB(X:Cx)(e:Expr)(t:W Bool):Prop :=
 ∀(ab:List (Addr×Obj))(s:Shared)(σ:St)(H Pr:Hp)(Z:Ev)(k4:Bool->Ev->Prop),Uh X ab σ H s->aI X.K Pr H σ Z->t Z k4->wpAny (model X.prog X.w) X.A (isTrue e X.env (eval e X.env)) (EB X ab σ Pr k4) X.xe s
inductive EA (X:Cx) (ab:List (Addr×Obj)) (σ:St) (Pr:Hp) (bs:List (Option Nat)) (k4:List L->Ev->Prop) (us:List Value) (s':Shared):Prop
 |mk (vs:List V) (H':Hp) (ls:List L) (Z':Ev) (i:Uh X ab σ H' s') (q:cC vs us) (hl:vs.length=ls.length) (hb:vs.length=bs.length) (e:aI X.K Pr H' (vs.map some++σ) (ls++Z')) (o:∀(k i:Nat),bs[k]?=some (some i)->ls[k]?=some L.un/\∃v,vs[k]?=some v/\σ[i]?=some (some v)) (p:k4 ls Z')
theorem EA.on{G:Prop}{X:Cx}{ab:List (Addr×Obj)}{σ:St}{Pr:Hp}{bs:List (Option Nat)}{k4:List L->Ev->Prop}{us:List Value}{s':Shared}(h:EA X ab σ Pr bs k4 us s')(k:∀vs H' ls Z',Uh X ab σ H' s'->cC vs us->vs.length=ls.length->vs.length=bs.length->aI X.K Pr H' (vs.map some++σ) (ls++Z')->(∀(k i:Nat),bs[k]?=some (some i)->ls[k]?=some L.un/\∃v,vs[k]?=some v/\σ[i]?=some (some v))->k4 ls Z'->G):G:=by cases h with|mk a b c d e f g i j l m=>exact k a b c d e f g i j l m
def UY(X:Cx)(es:List Expr)(bs:List (Option Nat))(t:W (List L)):Prop :=
 ∀(pos:Pos)(ab:List (Addr×Obj))(s:Shared)(σ:St)(H Pr:Hp)(Z:Ev)(k4:List L->Ev->Prop),Uh X ab σ H s->aI X.K Pr H σ Z->t Z k4 ->
  wpAny (model X.prog X.w) X.A (spliced (backTo pos (starEach es X.env))) (EA X ab σ Pr bs k4) X.xe s
inductive UZ (X:Cx) (ab:List (Addr×Obj)) (Pr:Hp) (k4:Ev->Prop) (s':Shared):Prop
 |mk (σ':St) (H':Hp) (Z':Ev) (i:Uh X ab σ' H' s') (e:aI X.K Pr H' σ' Z') (p:k4 Z')
inductive U0 (X:Cx) (ab:List (Addr×Obj)) (Pr:Hp) (k4:L->Ev->Prop) (u:Value) (s':Shared):Prop
 |mk (v:V) (σ':St) (H':Hp) (r:L) (Z':Ev) (τ:St) (i:Uh X ab σ' H' s') (q:cJ v u) (e:aI X.K Pr H' (some v::τ) (r::Z')) (p:k4 r Z')
def SM(X:Cx)(ab:List (Addr×Obj))(Pr:Hp)(k4:Fl->Ev->Prop)(f:Flow)(s':Shared):Prop :=
 match f with
 |.next=>UZ X ab Pr (k4 .nx) s'
 |.brk=>UZ X ab Pr (k4 .bk) s'
 |.cont=>UZ X ab Pr (k4 .ct) s'
 |.ret u=>U0 X ab Pr (λr=>k4 (.rt r)) u s'
def PM(X:Cx)(st:Stmt)(t:W Fl):Prop :=
 ∀(ab:List (Addr×Obj))(s:Shared)(σ:St)(H Pr:Hp)(Z:Ev)(k4:Fl->Ev->Prop),Uh X ab σ H s->aI X.K Pr H σ Z->t Z k4->wpAny (model X.prog X.w) X.A (exec st X.env) (SM X ab Pr k4) X.xe s
def U1(X:Cx)(st:List Stmt)(t:W Fl):Prop :=
 ∀(ab:List (Addr×Obj))(s:Shared)(σ:St)(H Pr:Hp)(Z:Ev)(k4:Fl->Ev->Prop),Uh X ab σ H s->aI X.K Pr H σ Z->t Z k4->wpAny (model X.prog X.w) X.A (execs st X.env) (SM X ab Pr k4) X.xe s
section
variable{X:Cx}{e a b:Expr}{pos:Pos}{ta tb:W L}
theorem PL.of{t:TE}{u:W L}(h:PE X e t)(q:∀σ H Pr Z k4,aI X.K Pr H σ Z->u Z k4->t σ H λv H'=>∃r Z',aI X.K Pr H' (some v::σ) (r::Z')/\k4 r Z'):PL X e u :=
 λab s σ H Pr Z k4 I E hu=>Ul (h ab s σ H _ I (q σ H Pr Z k4 E hu)) λu s1 ⟨v,H1,I1,r1,r,Z',E1,p⟩=>⟨v,H1,r,Z',I1,r1,E1,p⟩
mutual
noncomputable def bS:L->Option D
 |.un=>none
 |.d x=>some x
 |.own _ xs=>some (.lst xs)
 |.bx none ls=>(cK ls).map .tup
 |.bx (some _) ls=>(cK ls).map .lst
 |.dic _ _=>none
noncomputable def cK:List L->Option (List D)
 |[]=>some []
 | l::ls=>match bS l,cK ls with
  |some x,some xs=>some (x::xs)
  |_,_=>none
end
def eU:Option D->(D->Prop)->Prop
 |some x,k=>k x
 |none,_=>False
theorem Eb{o:Option D}{k:D->Prop}(h:eU o k):∃x,o=some x/\k x:=by
 cases o with
 |some x=>exact⟨x,rfl,h⟩
 |none=>exact h.elim
def Fs(a:Option Addr)(ls:List L)(k:D->Prop):Prop:=eU (bS (.bx a ls)) k
def U2:L->(D->Prop)->Prop
 |.un,_=>False
 |.d x,k=>k x
 |.own _ xs,k=>k (.lst xs)
 |.bx a ls,k=>Fs a ls k
 |.dic _ _,_=>False
theorem Be{a:Option Addr}{ls:List L}{k:D->Prop}(h:Fs a ls k):∃x,bS (.bx a ls)=some x/\k x:=Eb h
def JB(ls:List L)(k:List D->Prop):Prop:=∃xs,cK ls=some xs/\k xs
theorem Pu(ls:List L)(k:D->Prop):Fs none ls k=JB ls λxs=>k (.tup xs):=by
 unfold Fs JB;simp only[bS]
 cases cK ls with
 |none=>simp[eU]
 |some xs=>simp[eU]
theorem Pv(a:Addr)(ls:List L)(k:D->Prop):Fs (some a) ls k=JB ls λxs=>k (.lst xs):=by
 unfold Fs JB;simp only[bS]
 cases cK ls with
 |none=>simp[eU]
 |some xs=>simp[eU]
theorem JC(k:List D->Prop):JB [] k=k []:=by unfold JB;simp[cK]
theorem MS(l:L)(k:D->Prop):U2 l k=∃x,bS l=some x/\k x:=by
 cases l with
 |un=>simp[U2,bS]
 |d x=>simp[U2,bS]
 |own a xs=>simp[U2,bS]
 | bx a ls =>
  show eU _ k=_
  cases bS (.bx a ls)with
  |none=>simp[eU]
  |some x=>simp[eU]
 |dic a kvs=>simp[U2,bS]
theorem FY(l:L)(ls:List L)(k:List D->Prop):JB (l::ls) k=U2 l λx=>JB ls λxs=>k (x::xs):=by
 rw[MS];unfold JB;simp only[cK]
 cases bS l with
 |none=>simp
 | some x =>
  cases cK ls with
  |none=>simp
  |some xs=>simp
theorem dS{K:W.Frag}{H:Hp}:∀{vs:List V}{ls:List L},cw K H vs ls↔Paired (bo K H) (vs.map some) ls
 |[],[]=>⟨λ_=>.nil,λ_=>by simp only[cw]⟩
 | v::vs,l::ls=>by
  simp only[cw,YQ];constructor
  . rintro⟨w,us,e,h1,h2⟩;cases e;exact .cons h1 (dS.mp h2)
  .
   intro h
   cases h with
   |cons q t=>exact⟨v,vs,rfl,q,dS.mpr t⟩
 | [],l::ls=>by
  simp only[cw,aaW];constructor
  . rintro⟨w,us,e,_⟩;cases e
  . intro h;cases h
 | v::vs,[]=>by
  simp only[cw,YQ];constructor
  . intro h;cases h
  . intro h;cases h
theorem Bf{K:W.Frag}{H:Hp}:∀{vs:List V}{xs:List D},Paired (bo K H) (vs.map some) (xs.map .d)->bX K H vs xs
 |[],[],_=>.nil
 | v::vs,x::xs,h=>by
  simp only[YQ]at h
  cases h with
  | cons q t =>
   simp only[bo]at q;obtain⟨w,e,r⟩:=q;cases e;exact .cons r (Bf t)
 |[],_::_,h=>by simp only[YQ,aaW]at h;cases h
 |_::_,[],h=>by simp only[YQ,aaW]at h;cases h
theorem cw.len{K:W.Frag}{H:Hp}{vs:List V}{ls:List L}(h:cw K H vs ls):vs.length=ls.length:=by have:=Paired.length (dS.mp h);simpa using this
theorem jd:∀{ls:List L}{xs:List D},cK ls=some xs->xs.length=ls.length
 |[],_,h=>by simp[cK]at h;subst h;rfl
 | l::ls,xs,h=>by
  simp only[cK]at h;split at h
  . rename_i x ys h1 h2;cases h;simp[jd h2]
  . cases h
theorem aI.openT{K:W.Frag}{Pr H:Hp}{σ:St}{Z:Ev}{v:Option V}{ls:List L}(E:aI K Pr H (v::σ) (.bx none ls::Z)):∃a vs,v=some (.ref a)/\Uq K H a vs/\vs.length=ls.length/\aI K Pr H (vs.map some++σ) (ls++Z):=by
 have sl:=E.sl
 cases sl with
 | cons q t =>
  simp only[bo]at q;obtain⟨a,vs,e,h,r⟩:=q;have ow:owns (.bx none ls::Z)=owns (ls++Z):=by rw[aR,aK];simp only[bz,Option.toList,aaA,fO]
  exact⟨a,vs,e,h,r.len,E.sub,by rw[<- ow];exact E.nd,λb hb=>E.off b (by rw[ow];exact hb),Paired.app (dS.mp r) t⟩
theorem aI.openO{K:W.Frag}{Pr H:Hp}{σ:St}{Z:Ev}{v:Option V}{a:Addr}{ls:List L}(E:aI K Pr H (v::σ) (.bx (some a) ls::Z)):∃vs,v=some (.ref a)/\H a=some (.lst vs)/\vs.length=ls.length/\a∉owns (ls++Z)/\Pr a=none/\aI K Pr H (vs.map some++σ) (ls++Z):=by
 have sl:=E.sl
 cases sl with
 | cons q t =>
  simp only[bo]at q;obtain⟨e,vs,h,r⟩:=q;have ow:owns (.bx (some a) ls::Z)=a::owns (ls++Z):=by rw[aR,aK];simp only[bz,Option.toList,List.cons_append,aaA,fO]
  have nd:=E.nd;rw[ow]at nd;obtain⟨n1,n2⟩:=Zc.mp nd;exact⟨vs,e,h,r.len,n1,E.off a (by rw[ow];exact k5),E.sub,n2,λb hb=>E.off b (by rw[ow];exact fI _ hb),Paired.app (dS.mp r) t⟩
def rk(H H':Hp)(S:List Addr):Prop:=wg H H'/\(∀b,b∉S->H' b=H b)/\∀a∈S,∀vs,H a=some (.lst vs)->∃o,H' a=some (.frz o (.lst vs))
theorem rk.refl(H:Hp):rk H H []:=⟨λ_ _ _ e=>e,λ_ _=>rfl,λ_ h=>by simp at h⟩
mutual
theorem Pw:∀(l:L){ab:List (Addr×Obj)}{σ0:St}{s:Shared}{Pr H:Hp}{σ:St}{Z:Ev}{v:Option V}{x:D},Uh X ab σ0 H s->aI X.K Pr H (v::σ) (l::Z)->bS l=some x->∃H',Uh X ab σ0 H' s/\aI X.K Pr H' (v::σ) (.d x::Z)/\rk H H' (bz l)
 |.un,_,_,_,_,_,_,_,_,_,_,_,h=>by simp[bS]at h
 |.dic _ _,_,_,_,_,_,_,_,_,_,_,_,h=>by simp[bS]at h
 | .d y,_,_,_,_,_,_,_,_,_,I,E,h=>by
  simp only[bS,Zm]at h
  subst h
  exact⟨_,I,E,rk.refl _⟩
 | .own a xs,_,_,_,_,H,σ,Z,v,_,I,E,h=>by
  simp only[bS,Zm]at h
  subst h
  have sl:=E.sl
  cases sl with
  | cons q t =>
   simp only[bo]at q
   obtain⟨e0,vs,ha,r⟩:=q
   obtain⟨o,I'⟩:=I.freezeL ha
   refine⟨_,I',E.freeze ha o,λb u pu eb=>?_,λb hb=>?_,λb hb vs' eb=>?_⟩
   .
    rw[aH];exact eb
    rintro rfl
    rw[ha]at eb;cases eb;exact pu
   .
    rw[aH]
    rintro rfl
    exact hb (by simp[bz])
   .
    have e:b=a:=by simpa[bz]using hb
    subst e
    rw[ha]at eb;cases eb
    exact⟨o,bF⟩
 | .bx none ls,_,_,_,Pr,H,σ,Z,v,x,I,E,h=>by
  simp only[bS,aaB]at h
  obtain⟨xs,h,rfl⟩:=h
  obtain⟨a,vs,rfl,ha,hl,E1⟩:=E.openT
  obtain⟨H',I',E',F⟩:=MT ls hl I E1 h
  have hxl:=jd h
  obtain⟨s1,s2⟩:=Paired.unapp (by simp[hl,hxl]) E'.sl
  refine⟨H',I',(E'.drop (by simp[hl,hxl])).cons_d (.tup (ha.pres F.1) (Bf s1)),F.1,λb hb=>F.2.1 b ?_,λb hb=>F.2.2 b ?_⟩
  .
   simpa[bz,fO]using hb
  .
   simpa[bz,fO]using hb
 | .bx (some a) ls,_,_,_,Pr,H,σ,Z,v,x,I,E,h=>by
  simp only[bS,aaB]at h
  obtain⟨xs,h,rfl⟩:=h
  obtain⟨vs,rfl,ha,hl,hn,hp,E1⟩:=E.openO
  obtain⟨H',I',E',F⟩:=MT ls hl I E1 h
  have hxl:=jd h
  have hal:a∉owns ls:=λz=>hn (by rw[aK];exact Y1 _ z)
  have haρ:a∉owns Z:=λz=>hn (by rw[aK];exact YW _ z)
  have ha':H' a=some (.lst vs):=(F.2.1 a hal).trans ha
  obtain⟨s1,s2⟩:=Paired.unapp (by simp[hl,hxl]) E'.sl
  have E2:=E'.drop (by simp[hl,hxl])
  have E3:aI X.K Pr H' (some (.ref a)::σ) (.own a xs::Z):=by
   refine⟨E2.sub,?_,λb hb=>?_,.cons ?_ E2.sl⟩
   .
    rw[bp];exact Zc.mpr ⟨haρ,E2.nd⟩
   .
    rw[bp]at hb
    rcases YK.mp hb with z|z
    .
     rw[z];exact hp
    .
     exact E2.off b z
   .
    unfold bo
    exact⟨rfl,vs,ha',Bf s1⟩
  obtain⟨o,I2⟩:=I'.freezeL ha'
  refine⟨_,I2,E3.freeze ha' o,λb u pu e=>?_,λb hb=>?_,λb hb vs' eb=>?_⟩
  .
   rw[aH];exact F.1 b u pu e
   rintro rfl
   rw[ha]at e;cases e;exact pu
  .
   have hb':b≠a/\b∉owns ls:=by simpa[bz,fO,not_or]using hb
   rw[aH hb'.1]
   exact F.2.1 b hb'.2
  .
   by_cases hba:b=a
   .
    subst hba
    rw[ha]at eb;cases eb
    exact⟨o,bF⟩
   .
    have hb':b∈owns ls:=by
     rcases(by simpa[bz,fO]using hb:b=a∨b∈owns ls)with z|z
     .
      exact absurd z hba
     .
      exact z
    rw[aH hba]
    exact F.2.2 b hb' vs' eb
theorem MT:∀(ls:List L){ab:List (Addr×Obj)}{σ0:St}{s:Shared}{Pr H:Hp}{σ:St}{Z:Ev}{vs:List V}{xs:List D},vs.length=ls.length->Uh X ab σ0 H s->aI X.K Pr H (vs.map some++σ) (ls++Z)->cK ls=some xs->∃H',Uh X ab σ0 H' s/\aI X.K Pr H' (vs.map some++σ) (xs.map .d++Z)/\rk H H' (owns ls)
 | [],_,_,_,_,_,_,_,vs,xs,hl,I,E,h=>by
  simp only[cK,Zm]at h
  subst h
  cases vs with
  |nil=>exact⟨_,I,E,rk.refl _⟩
  |cons _ _=>simp at hl
 | l::ls,_,_,_,Pr,H,σ,Z,vs,xs,hl,I,E,h=>by
  simp only[cK]at h
  split at h
  rotate_left
  .
   cases h
  rename_i x ys h1 h2
  cases h
  cases vs with
  |nil=>simp at hl
  | cons v vs =>
   have hl':vs.length=ls.length:=by simpa using hl
   obtain⟨H1,I1,E1,F1⟩:=Pw l I E h1
   have E2:aI X.K (bK H1 (ls++Z)) H1 (vs.map some++σ) (ls++Z):=(E1.drop (τ:=[some v]) (lam:=[.d x]) rfl).wide
   obtain⟨H2,I2,E3,F2⟩:=MT ls hl' I1 E2 h2
   have hyl:=jd h2
   have E4:aI X.K Pr H2 (some v::(vs.map some++σ)) (.d x::(ys.map .d++Z)):=by
    have z:=aI.step (τ:=[some v]) (lam:=[.d x]) (w:=[]) (μ:=[]) (σ':=vs.map some++σ) (Z':=ys.map .d++Z) E1 rfl E3 rfl
    exact z
   refine⟨H2,I2,E4,λb u pu e=>F2.1 b u pu (F1.1 b u pu e),λb hb=>?_,λb hb vs' eb=>?_⟩
   .
    rw[aR]at hb
    rw[F2.2.1 b (λz=>hb (YW _ z)),F1.2.1 b (λz=>hb (Y1 _ z))]
   .
    rw[aR]at hb
    rcases YY.mp hb with z|z
    .
     obtain⟨o,eo⟩:=F1.2.2 b z vs' eb
     exact⟨o,F2.1 b _ True.intro eo⟩
    .
     have hn:b∉bz l:=λz'=>by
      have nd:=E.nd
      rw[List.cons_append,aR,aK]at nd
      exact(Zj.mp nd).2.2 b z' b (Y1 _ z) rfl
     exact F2.2.2 b z vs' ((F1.2.1 b hn).trans eb)
end
theorem EL.frz{ab:List (Addr×Obj)}{σ:St}{Pr:Hp}{k4:D->Ev->Prop}{u:Value}{s':Shared}(h:EL X ab σ Pr (λr Z=>U2 r λx=>k4 x Z) u s') :
  ∃v H' x Z',Uh X ab σ H' s'/\cJ v u/\aI X.K Pr H' (some v::σ) (.d x::Z')/\k4 x Z':=by
 obtain⟨v,H',r,Z',I,rv,E,p⟩:=h
 cases r with
 |un=>exact p.elim
 |d x=>exact⟨v,H',x,Z',I,rv,E,p⟩
 | own a xs =>
  obtain⟨H2,I2,E2,_⟩:=Pw (.own a xs) I E rfl;exact⟨v,H2,.lst xs,Z',I2,rv,E2,p⟩
 | bx a ls =>
  obtain⟨x,ex,p⟩:=Be p;obtain⟨H2,I2,E2,_⟩:=Pw (.bx a ls) I E ex;exact⟨v,H2,x,Z',I2,rv,E2,p⟩
 |dic a kvs=>exact p.elim
def bj(t:W L):W L:=λZ k4=>t Z λr Z1=>U2 r λx=>k4 (.d x) Z1
theorem ay{t:W L}(h:PL X e t):PL X e (bj t):=λab s σ H Pr Z k4 I E ht =>
 Ul (h ab s σ H Pr Z _ I E ht) λu s1 q=>by obtain⟨v,H',x,Z',I',rv,E',p⟩:=EL.frz (k4:=λx Z=>k4 (.d x) Z) q;exact⟨v,H',.d x,Z',I',rv,E',p⟩
theorem aI.head_d{K:W.Frag}{Pr H:Hp}{v:Option V}{σ:St}{x:D}{Z:Ev}(E:aI K Pr H (v::σ) (.d x::Z)):∃w,v=some w/\UW K H w x:=by
 have sl:=E.sl
 cases sl with
 |cons q t=>exact q
theorem aI.tail{K:W.Frag}{Pr H:Hp}{v:Option V}{σ:St}{l:L}{Z:Ev}(E:aI K Pr H (v::σ) (l::Z)):aI K Pr H σ Z:=aI.drop (τ:=[v]) (lam:=[l]) E rfl
theorem two{ab:List (Addr×Obj)}{s:Shared}{σ:St}{H Pr:Hp}{Z:Ev}{R:D->D->Ev->Prop}(ha:PL X a ta)(hb:PL X b tb)(I:Uh X ab σ H s)(E:aI X.K Pr H σ Z)
  (h:ta Z λx Z1=>U2 x λdx=>tb Z1 λy Z2=>U2 y λdy=>R dx dy Z2) {α:Type} {Q:α->Shared->Prop} {f:Value->Value->Sem α}
  (hf:∀v u s2 x y H2 dx dy Z2,Uh X ab σ H2 s2->cJ x v->cJ y u->aI X.K Pr H2 (some y::some x::σ) (.d dy::.d dx::Z2)->UW X.K H2 x dx->UW X.K H2 y dy->R dx dy Z2->wpAny (model X.prog X.w) X.A (f v u) Q X.xe s2) :
  wpAny (model X.prog X.w) X.A (eval a X.env) (λv s₁=>wpAny (model X.prog X.w) X.A (eval b X.env) (λu s₂=>wpAny (model X.prog X.w) X.A (f v u) Q X.xe s₂) X.xe s₁) X.xe s:=by
 refine Ul (ha ab s σ H Pr Z _ I E h) λv s1 q=>?_;obtain⟨x,H1,dx,Z1,I1,r1,E1,q1⟩:=EL.frz (k4:=λdx Z1=>tb Z1 λy Z2=>U2 y λdy=>R dx dy Z2) q;refine Ul (hb ab s1 σ H1 _ Z1 _ I1 E1.tail.wide q1) λu s2 q=>?_;obtain⟨y,H2,dy,Z2,I2,r2,E2,q2⟩:=EL.frz (k4:=λdy Z2=>R dx dy Z2) q;have E3:aI X.K Pr H2 (some y::some x::σ) (.d dy::.d dx::Z2):=aI.step (τ:=[some x]) (lam:=[.d dx]) (w:=[some y]) (μ:=[.d dy]) E1 rfl E2 rfl;obtain⟨_,e1,p1⟩:=E3.head_d;obtain⟨_,e2,p2⟩:=E3.tail.head_d;cases e1;cases e2;exact hf v u s2 x y H2 dx dy Z2 I2 r1 r2 E3 p2 p1 q2
abbrev U3:=D->D->(L->Prop)->Prop
def U4(X:Cx)(f:Value->Value->Sem Value)(op:U3):Prop :=
 ∀(ab:List (Addr×Obj))(s:Shared)(σ:St)(H Pr:Hp)(Z:Ev)(x y:V)(v u:Value)(dx dy:D)(k4:L->Prop),Uh X ab σ H s->cJ x v->cJ y u->aI X.K Pr H σ Z->UW X.K H x dx->UW X.K H y dy->op dx dy k4 ->
  wpAny (model X.prog X.w) X.A (f v u) (λw s'=>∃z H' r,Uh X ab σ H' s'/\cJ z w/\aI X.K Pr H' (some z::σ) (r::Z)/\k4 r) X.xe s
theorem U4.of{f:Value->Value->Sem Value}{r:R2}{op:U3}(h:Ux X f r)(q:∀σ H Pr Z x y dx dy k4,aI X.K Pr H σ Z->UW X.K H x dx->UW X.K H y dy->op dx dy k4->r x y H λz H'=>∃r,aI X.K Pr H' (some z::σ) (r::Z)/\k4 r):U4 X f op :=
 λab s σ H Pr Z x y v u dx dy k4 I rx ry E px py ho=>Ul (h ab s σ H x y v u _ I rx ry (q σ H Pr Z x y dx dy k4 E px py ho)) λw s' ⟨z,H',I',rz,r,E',p⟩=>⟨z,H',r,I',rz,E',p⟩
theorem U4.imp{f:Value->Value->Sem Value}{o1 o2:U3}(h1:U4 X f o1)(h:∀x y p,o2 x y p->o1 x y p):U4 X f o2 :=
 λab s σ H Pr Z x y v u dx dy k4 I rx ry E px py ho=>h1 ab s σ H Pr Z x y v u dx dy k4 I rx ry E px py (h _ _ _ ho)
def ax(op:U3)(ta tb:W L):W L:=λZ k4=>ta Z λx Z1=>U2 x λdx=>tb Z1 λy Z2=>U2 y λdy=>op dx dy λr=>k4 r Z2
theorem az{op:Operator}{o:U3}(ho:U4 X (binaryOp op) o)(ha:PL X a ta)(hb:PL X b tb):PL X (.BinOp a op b pos) (ax o ta tb):=λab s σ H Pr Z k4 I E h =>
 wpAny_BinOp (two (R:=λdx dy Z2=>o dx dy λr=>k4 r Z2) ha hb I E h λv u s2 x y H2 dx dy Z2 I2 r1 r2 E2 p1 p2 q =>
  Ul (ho ab s2 σ H2 Pr Z2 x y v u dx dy _ I2 r1 r2 E2.tail.tail p1 p2 q) λw s3 ⟨z,H3,r,I3,rz,E3,p⟩=>⟨z,H3,r,Z2,I3,rz,E3,p⟩)
theorem gB{op:CmpOp}{o:U3}(ho:U4 X (compareOp op) o)(ha:PL X a ta)(hb:PL X b tb)(hm:behindInMarks op b=false):PL X (.Compare a [op] [b] pos) (ax o ta tb):=λab s σ H Pr Z k4 I E h =>
 wpAny_Compare1 (two (R:=λdx dy Z2=>o dx dy λr=>k4 r Z2) ha hb I E h λv u s2 x y H2 dx dy Z2 I2 r1 r2 E2 p1 p2 q =>
  Ul (ho ab s2 σ H2 Pr Z2 x y v u dx dy _ I2 r1 r2 E2.tail.tail p1 p2 q) λw s3 ⟨z,H3,r,I3,rz,E3,p⟩=>⟨z,H3,r,Z2,I3,rz,E3,p⟩) hm
def wC(x:D):W L:=λZ k4=>k4 (.d x) Z
theorem ah {i j pos}:PL X (.Constant (.int i) j pos) (wC (.int i)):=PL.of O4 λσ H Pr Z k4 E h=>⟨_,_,E.cons_d (.int i),h⟩
theorem rS {b j pos}:PL X (.Constant (.bool b) j pos) (wC (.bl b)):=PL.of Rg λσ H Pr Z k4 E h=>⟨_,_,E.cons_d (.bl b),h⟩
theorem wj {j pos}:PL X (.Constant .none j pos) (wC .non):=PL.of O5 λσ H Pr Z k4 E h=>⟨_,_,E.cons_d .non,h⟩
theorem wm {x j pos}:PL X (.Constant (.str x) j pos) (wC (.str x)):=PL.of Ly λσ H Pr Z k4 E h=>⟨_,_,E.cons_d (.str x),h⟩
def OU(o:Option L)(i:Nat)(Z:Ev)(k4:L->Ev->Prop):Prop:=match o with
 |some (.d x)=>k4 (.d x) Z
 |some (.own _ xs)=>k4 (.d (.lst xs)) (Z.set i (.d (.lst xs)))
 |some (.bx a ls)=>Fs a ls λx=>k4 (.d x) (Z.set i (.d x))
 |_=>False
def ao(i:Nat):W L:=λZ k4=>OU Z[i]? i Z k4
theorem Px(x:D)(i:Nat)(Z:Ev)(k4:L->Ev->Prop):OU (some (.d x)) i Z k4=k4 (.d x) Z:=rfl
theorem JD(a:Addr)(xs:List D)(i:Nat)(Z:Ev)(k4:L->Ev->Prop):OU (some (.own a xs)) i Z k4=k4 (.d (.lst xs)) (Z.set i (.d (.lst xs))):=rfl
theorem MU(a:Option Addr)(ls:List L)(i:Nat)(Z:Ev)(k4:L->Ev->Prop):OU (some (.bx a ls)) i Z k4=Fs a ls λx=>k4 (.d x) (Z.set i (.d x)):=rfl
theorem aI.slot{K:W.Frag}{Pr H:Hp}{σ:St}{Z:Ev}{i:Nat}{l:L}(E:aI K Pr H σ Z)(h:Z[i]?=some l):∃s,σ[i]?=some s/\bo K H s l:=Paired.get2 E.sl h
theorem ae(i:Nat){x:Str}{pos:Pos}(hN:X.N[i]?=some x:=by rfl)(hv:Ue X.env.scope x:=by first | exact Or.inl rfl | exact Or.inr (Or.inl rfl) | exact Or.inr (Or.inr rfl)) (hd:adf x:=by decide)
  (hcd:adg x:=by decide):PL X (.Name x pos) (ao i):=by
 intro ab s σ H Pr Z k4 I E h;unfold ao OU at h
 cases q:Z[i]? with
 |none=>rw[q]at h;exact h.elim
 | some l =>
  rw[q]at h;obtain⟨sv,hs,sl⟩:=E.slot q
  cases l with
  |un=>exact h.elim
  |dic a kvs=>exact h.elim
  | d y =>
   obtain⟨v,rfl,r⟩:=sl;exact Ul (jY hN hv hd hcd ab s σ H (λw H'=>w=v/\H'=H) I ⟨v,hs,rfl,rfl⟩) λu s1 ⟨w,H1,I1,r1,e1,e2⟩=>by subst e1 e2;exact⟨w,H1,_,Z,I1,r1,E.cons_d r,h⟩
  | own a xs =>
   obtain⟨rfl,vs,ha,r⟩:=sl;refine Ul (jY hN hv hd hcd ab s σ H (λw H'=>w=.ref a/\H'=H) I ⟨.ref a,hs,rfl,rfl⟩) λu s1 ⟨w,H1,I1,r1,e1,e2⟩=>?_;subst e1 e2;obtain⟨o,I2⟩:=I1.freezeL ha;have E2:=(E.out q).freeze ha o;have hi:i<Z.length:=(YA.mp q).1;have E3:=E2.back (i:=i) (by simp[hi]) hs;rw[aaC]at E3;obtain⟨_,e,p⟩:=E2.head_d;cases e;exact⟨_,_,_,_,I2,r1,E3.cons_d p,h⟩
  | bx a ls =>
   obtain⟨y,ey,h⟩:=Be h
   have hv':∃b,sv=some (.ref b):=by
    cases a with
    |none=>simp only[bo]at sl;obtain⟨b,_,e,_⟩:=sl;exact⟨b,e⟩
    |some b=>simp only[bo]at sl;exact⟨b,sl.1⟩
   obtain⟨b,rfl⟩:=hv';refine Ul (jY hN hv hd hcd ab s σ H (λw H'=>w=.ref b/\H'=H) I ⟨.ref b,hs,rfl,rfl⟩) λu s1 ⟨w,H1,I1,r1,e1,e2⟩=>?_;subst e1 e2;obtain⟨H2,I2,E2,_⟩:=Pw (.bx a ls) I1 (E.outL q hs) ey;have hi:i<Z.length:=(YA.mp q).1;have E3:=E2.back (i:=i) (by simp[hi]) hs;rw[aaC]at E3;obtain⟨_,e,p⟩:=E2.head_d;cases e;exact⟨_,_,_,_,I2,r1,E3.cons_d p,h⟩
def OV(o:Option L)(i:Nat)(Z:Ev)(k4:L->Ev->Prop):Prop:=match o with
 |some (.d x)=>k4 (.d x) Z
 |some (.own a xs)=>k4 (.own a xs) (Z.set i .un)
 |some (.bx a ls)=>k4 (.bx a ls) (Z.set i .un)
 |_=>False
def iq(i:Nat):W L:=λZ k4=>OV Z[i]? i Z k4
theorem Py(x:D)(i:Nat)(Z:Ev)(k4:L->Ev->Prop):OV (some (.d x)) i Z k4=k4 (.d x) Z:=rfl
theorem JE(a:Addr)(xs:List D)(i:Nat)(Z:Ev)(k4:L->Ev->Prop):OV (some (.own a xs)) i Z k4=k4 (.own a xs) (Z.set i .un):=rfl
theorem MV(a:Option Addr)(ls:List L)(i:Nat)(Z:Ev)(k4:L->Ev->Prop):OV (some (.bx a ls)) i Z k4=k4 (.bx a ls) (Z.set i .un):=rfl
theorem cz(i:Nat){x:Str}{pos:Pos}(hN:X.N[i]?=some x:=by rfl)(hv:Ue X.env.scope x:=by first | exact Or.inl rfl | exact Or.inr (Or.inl rfl) | exact Or.inr (Or.inr rfl)) (hd:adf x:=by decide)
  (hcd:adg x:=by decide):PL X (.Name x pos) (iq i):=by
 intro ab s σ H Pr Z k4 I E h;unfold iq OV at h
 cases q:Z[i]? with
 |none=>rw[q]at h;exact h.elim
 | some l =>
  rw[q]at h;obtain⟨sv,hs,sl⟩:=E.slot q
  cases l with
  |un=>exact h.elim
  |dic a kvs=>exact h.elim
  | d y =>
   obtain⟨v,rfl,r⟩:=sl;exact Ul (jY hN hv hd hcd ab s σ H (λw H'=>w=v/\H'=H) I ⟨v,hs,rfl,rfl⟩) λu s1 ⟨w,H1,I1,r1,e1,e2⟩=>by subst e1 e2;exact⟨w,H1,_,Z,I1,r1,E.cons_d r,h⟩
  | own a xs =>
   obtain⟨rfl,vs,ha,r⟩:=sl;refine Ul (jY hN hv hd hcd ab s σ H (λw H'=>w=.ref a/\H'=H) I ⟨.ref a,hs,rfl,rfl⟩) λu s1 ⟨w,H1,I1,r1,e1,e2⟩=>?_;subst e1 e2;exact⟨_,_,_,_,I1,r1,E.out q,h⟩
  | bx a ls =>
   have hv':∃b,sv=some (.ref b):=by
    cases a with
    |none=>simp only[bo]at sl;obtain⟨b,_,e,_⟩:=sl;exact⟨b,e⟩
    |some b=>simp only[bo]at sl;exact⟨b,sl.1⟩
   obtain⟨b,rfl⟩:=hv';refine Ul (jY hN hv hd hcd ab s σ H (λw H'=>w=.ref b/\H'=H) I ⟨.ref b,hs,rfl,rfl⟩) λu s1 ⟨w,H1,I1,r1,e1,e2⟩=>?_;subst e1 e2;exact⟨_,_,_,_,I1,r1,E.outL q hs,h⟩
theorem MW{x:Str}{v:V}{u:Value}{y:D}{pos:Pos}(hg:Gl X x)(hm:X.mg x=some u)(r:cJ v u)(hy:∀ H,UW X.K H v y) (hd:adf x:=by decide):PL X (.Name x pos) (wC y) :=
 PL.of (Mx hg hm r hd) λσ H Pr Z k4 E h=>⟨_,_,E.cons_d (hy H),h⟩
def Ec:L->(Bool->Prop)->Prop
 |.d (.bl b),k=>k b
 |_,_=>False
def a7(t:W L):W Bool:=λZ k4=>t Z λr Z1=>Ec r λb=>k4 b Z1
theorem xh{r:L}{k:Bool->Prop}(h:Ec r k):∃b,r=.d (.bl b)/\k b:=by
 cases r with
 | d x=>cases x with
  |bl b=>exact⟨b,rfl,h⟩
  |_=>exact h.elim
 |_=>exact h.elim
theorem bN{t:W L}(h:PL X e t)(he:∀whole,isTrue e X.env whole=(do let v <- whole;standAt e.pos;holding [v] (truthy v)):=by intro _;rfl):PB X e (a7 t):=by intro ab s σ H Pr Z k4 I E ht;rw[he];refine YE (Ul (h ab s σ H Pr Z _ I E ht) λu s1 ⟨v,H1,r,Z1,I1,rv,E1,p⟩=>YE (aaY (ZQ ?_)));obtain⟨b,rfl,p⟩:=xh p;obtain⟨_,e1,p1⟩:=E1.head_d;cases e1;obtain rfl:=UW.inv_bl p1;cases rv;exact ZW ⟨H1,Z1,I1,E1.tail,p⟩
end
section
variable{X:Cx}{e a b c:Expr}{rest:List Expr}{pos:Pos}{ta tb:W L}{tA tB:W Bool}
def U5(X:Cx)(e:Expr)(t:W Bool):Prop :=
 ∀(whole:Sem Value)(ab:List (Addr×Obj))(s:Shared)(σ:St)(H Pr:Hp)(Z:Ev)(k4:Bool->Ev->Prop),Uh X ab σ H s->aI X.K Pr H σ Z->t Z k4->wpAny (model X.prog X.w) X.A (isTrue e X.env whole) (EB X ab σ Pr k4) X.xe s
theorem U5.pb{t:W Bool}(h:U5 X e t):PB X e t:=h _
def Rt(t u:W Bool):W Bool:=λZ k4=>t Z λc Z1=>if c=true then u Z1 k4 else k4 false Z1
def U6(t u:W Bool):W Bool:=λZ k4=>t Z λc Z1=>if c=true then k4 true Z1 else u Z1 k4
def Ed(t:W Bool):W Bool:=λZ k4=>t Z λc Z1=>k4 (!c) Z1
theorem JF(ha:PB X a tA):U5 X (.BoolOp .And [a] pos) tA:=by
 intro wh ab s σ H Pr Z k4 I E h;refine isTrue_and (Ul (ha ab s σ H Pr Z k4 I E h) λc s1 e=>?_)
 cases c with
 |true=>exact isTrue_and_nil e
 |false=>exact e
theorem m7(ha:PB X a tA):U5 X (.BoolOp .Or [a] pos) tA:=by
 intro wh ab s σ H Pr Z k4 I E h;refine isTrue_or (Ul (ha ab s σ H Pr Z k4 I E h) λc s1 e=>?_)
 cases c with
 |false=>exact isTrue_or_nil e
 |true=>exact e
theorem MX(ha:PB X a tA)(hb:U5 X (.BoolOp .And (b::rest) pos) tB):U5 X (.BoolOp .And (a::b::rest) pos) (Rt tA tB):=by
 intro wh ab s σ H Pr Z k4 I E h;refine isTrue_and (Ul (ha ab s σ H Pr Z _ I E h) λc s1 h_=>h_.on λH1 Z1 I1 E1 q1=>?_)
 cases c with
 |true=>exact hb wh ab s1 σ H1 Pr Z1 k4 I1 E1 q1
 |false=>exact⟨H1,Z1,I1,E1,q1⟩
theorem oD(ha:PB X a tA)(hb:U5 X (.BoolOp .Or (b::rest) pos) tB):U5 X (.BoolOp .Or (a::b::rest) pos) (U6 tA tB):=by
 intro wh ab s σ H Pr Z k4 I E h;refine isTrue_or (Ul (ha ab s σ H Pr Z _ I E h) λc s1 h_=>h_.on λH1 Z1 I1 E1 q1=>?_)
 cases c with
 |true=>exact⟨H1,Z1,I1,E1,q1⟩
 |false=>exact hb wh ab s1 σ H1 Pr Z1 k4 I1 E1 q1
theorem kq(ha:PB X a tA):PB X (.UnaryOp .Not a pos) (Ed tA):=by intro ab s σ H Pr Z k4 I E h;exact isTrue_not (Ul (ha ab s σ H Pr Z (λc Z1=>k4 (!c) Z1) I E h) λ_ _ h_=>h_.on λH1 Z1 I1 E1 q=>⟨H1,Z1,I1,E1,q⟩)
theorem U7{op:CmpOp}{o:U3}(ho:U4 X (compareOp op) o)(ha:PL X a ta)(hb:PL X b tb)(hm:behindInMarks op b=false):PB X (.Compare a [op] [b] pos) (a7 (ax o ta tb)):=by intro ab s σ H Pr Z k4 I E h;refine wpAny_isTrue_Compare1 (two (R:=λdx dy Z2=>o dx dy λr=>Ec r λb=>k4 b Z2) ha hb I E h λv u s2 x y H2 dx dy Z2 I2 r1 r2 E2 p1 p2 q=>?_) hm;refine Ul (ho ab s2 σ H2 Pr Z2 x y v u dx dy _ I2 r1 r2 E2.tail.tail p1 p2 q) λw s3 ⟨z,H3,r,I3,rz,E3,p⟩=>?_;obtain⟨b,rfl,p⟩:=xh p;obtain⟨_,e1,p1⟩:=E3.head_d;cases e1;obtain rfl:=UW.inv_bl p1;cases rz;exact ZW ⟨H3,Z2,I3,E3.tail,p⟩
def pW(ta tb:W L):W L:=λZ k4=>ta Z λr Z1=>Ec r λc=>if c=true then tb Z1 k4 else k4 (.d (.bl false)) Z1
def Ru(ta tb:W L):W L:=λZ k4=>ta Z λr Z1=>Ec r λc=>if c=true then k4 (.d (.bl true)) Z1 else tb Z1 k4
def FZ(t:W Bool):W L:=λZ k4=>t Z λc Z1=>k4 (.d (.bl (!c))) Z1
theorem rm {op} {t:W L} (h:PL X a t):PL X (.BoolOp op [a] pos) t:=λab s σ H Pr Z k4 I E hw=>BoolOp_one (h ab s σ H Pr Z k4 I E hw)
theorem EL.bl{ab:List (Addr×Obj)}{σ:St}{Pr:Hp}{k4:Bool->Ev->Prop}{u:Value}{s':Shared}(h:EL X ab σ Pr (λr Z=>Ec r λb=>k4 b Z) u s') :
  ∃H' b Z',u=.bool b/\Uh X ab σ H' s'/\aI X.K Pr H' σ Z'/\k4 b Z':=by
 obtain⟨v,H',r,Z',I,rv,E,p⟩:=h;obtain⟨b,rfl,p⟩:=xh p;obtain⟨_,e1,p1⟩:=E.head_d;cases e1;obtain rfl:=UW.inv_bl p1;cases rv;exact⟨H',b,Z',rfl,I,E.tail,p⟩
theorem kr(ha:PL X a ta)(hb:PL X (.BoolOp .And (b::rest) pos) tb):PL X (.BoolOp .And (a::b::rest) pos) (pW ta tb):=by
 intro ab s σ H Pr Z k4 I E h;refine BoolOp_and (Ul (ha ab s σ H Pr Z _ I E h) λv s1 q=>?_)
 obtain⟨H1,c,Z1,rfl,I1,E1,q1⟩:=EL.bl (k4:=λc Z1=>if c=true then tb Z1 k4 else k4 (.d (.bl false)) Z1) q
 refine ZW ?_
 cases c with
 |true=>exact hb ab s1 σ H1 Pr Z1 k4 I1 E1 q1
 |false=>exact⟨.bl false,H1,_,Z1,I1,rfl,E1.cons_d (.bl false),q1⟩
theorem Rv(ha:PL X a ta)(hb:PL X (.BoolOp .Or (b::rest) pos) tb):PL X (.BoolOp .Or (a::b::rest) pos) (Ru ta tb):=by
 intro ab s σ H Pr Z k4 I E h;refine BoolOp_or (Ul (ha ab s σ H Pr Z _ I E h) λv s1 q=>?_)
 obtain⟨H1,c,Z1,rfl,I1,E1,q1⟩:=EL.bl (k4:=λc Z1=>if c=true then k4 (.d (.bl true)) Z1 else tb Z1 k4) q
 refine ZW ?_
 cases c with
 |false=>exact hb ab s1 σ H1 Pr Z1 k4 I1 E1 q1
 |true=>exact⟨.bl true,H1,_,Z1,I1,rfl,E1.cons_d (.bl true),q1⟩
theorem F0(ha:PL X a ta):PL X (.UnaryOp .Not a pos) (FZ (a7 ta)):=by intro ab s σ H Pr Z k4 I E h;refine UnaryOp_ (Ul (ha ab s σ H Pr Z _ I E h) λv s1 q=>?_);obtain⟨H1,c,Z1,rfl,I1,E1,q1⟩:=EL.bl (k4:=λc Z1=>k4 (.d (.bl (!c))) Z1) q;exact not_of (ZW ⟨.bl (!c),H1,_,Z1,I1,rfl,E1.cons_d (.bl _),q1⟩)
def Ee(t:W Bool)(ta tb:W L):W L:=λZ k4=>t Z λc Z1=>if c=true then ta Z1 k4 else tb Z1 k4
theorem ku(hc:PB X c tA)(ha:PL X a ta)(hb:PL X b tb):PL X (.IfExp c a b pos) (Ee tA ta tb):=by
 intro ab s σ H Pr Z k4 I E h;refine wpAny_IfExp (Ul (hc ab s σ H Pr Z _ I E h) λd s1 h_=>h_.on λH1 Z1 I1 E1 q1=>?_)
 cases d with
 |true=>exact ha ab s1 σ H1 Pr Z1 k4 I1 E1 q1
 |false=>exact hb ab s1 σ H1 Pr Z1 k4 I1 E1 q1
def U8(op:D->(L->Prop)->Prop)(t:W L):W L:=λZ k4=>t Z λx Z1=>U2 x λdx=>op dx λr=>k4 r Z1
def JG:D->(L->Prop)->Prop
 |.int i,k=>k (.d (.int (-i)))
 |_,_=>False
theorem Pz(ha:PL X a ta):PL X (.UnaryOp .USub a pos) (U8 JG ta):=by
 intro ab s σ H Pr Z k4 I E h;refine UnaryOp_ (Ul (ha ab s σ H Pr Z _ I E h) λv s1 q=>?_);obtain⟨x,H1,dx,Z1,I1,r1,E1,q1⟩:=EL.frz (k4:=λdx Z1=>JG dx λr=>k4 r Z1) q;obtain⟨_,e1,p1⟩:=E1.head_d;cases e1
 cases p1 with
 | int i =>
  exact Ul (Pd ab s1 σ H1 _ v (λw H'=>w=.int (-i)/\H'=H1) I1 r1 ⟨i,rfl,rfl,rfl⟩) λu s2 ⟨w,H2,I2,r2,e1,e2⟩=>by subst e1 e2;exact⟨_,_,_,Z1,I2,r2,E1.tail.cons_d (.int _),q1⟩
 |_=>exact q1.elim
variable{st:Stmt}{sts:List Stmt}{t u:W Fl}
def cA:W Fl:=λZ k4=>k4 .nx Z
def aT(t u:W Fl):W Fl:=λZ k4=>t Z λf Z1=>match f with
 |.nx=>u Z1 k4
 |f=>k4 f Z1
theorem ba:U1 X [] cA:=λ_ _ σ H Pr Z k4 I E h=>wpAny_execs_nil ⟨σ,H,Z,I,E,h⟩
theorem ai(h1:PM X st t)(h2:U1 X sts u):U1 X (st::sts) (aT t u):=by
 intro ab s σ H Pr Z k4 I E h;refine wpAny_execs_cons (Ul (h1 ab s σ H Pr Z _ I E h) λf s1 q=>?_)
 cases f with
 | next =>
  obtain⟨σ',H',Z',I',E',q⟩:=q;exact h2 ab s1 σ' H' Pr Z' k4 I' E' q
 |ret v=>exact q
 |brk=>exact q
 |cont=>exact q
theorem aq(h1:PM X st t):U1 X [st] t:=by
 intro ab s σ H Pr Z k4 I E h;refine wpAny_execs_cons (Ul (h1 ab s σ H Pr Z _ I E h) λf s1 q=>?_)
 cases f with
 |next=>exact wpAny_execs_nil q
 |ret v=>exact q
 |brk=>exact q
 |cont=>exact q
def vA(t:W L):W Fl:=λZ k4=>t Z λ_ Z1=>k4 .nx Z1
theorem kx{te:W L}(he:PL X e te)(hs:swapsWith e none pos.line X.env=pure false:=by rfl):PM X (.Expr e pos) (vA te):=by intro ab s σ H Pr Z k4 I E h;exact wpAny_Expr_any (Ul (he ab s σ H Pr Z _ I E h) λv s1 h_=>h_.on λx H1 r Z1 I1 r1 E1 q1=>⟨σ,H1,Z1,I1,E1.tail,q1⟩) I.quiet hs
def bI(t:W L):W Fl:=λZ k4=>t Z λr Z1=>k4 (.rt r) Z1
theorem aD{te:W L}(he:PL X e te):PM X (.Return (some e) pos) (bI te):=by intro ab s σ H Pr Z k4 I E h;exact wpAny_Return_some (Ul (he ab s σ H Pr Z _ I E h) λv s1 h_=>h_.on λx H1 r Z1 I1 r1 E1 q1=>⟨x,σ,H1,r,Z1,σ,I1,r1,E1,q1⟩)
def U9(c:W Bool)(t u:W Fl):W Fl:=λZ k4=>c Z λb Z1=>if b=true then t Z1 k4 else u Z1 k4
theorem cL{sa sb:List Stmt}(hc:PB X c tA)(ha:U1 X sa t)(hb:U1 X sb u):PM X (.If c sa sb pos) (U9 tA t u):=by
 intro ab s σ H Pr Z k4 I E h;refine wpAny_If (Ul (hc ab s σ H Pr Z _ I E h) λd s1 h_=>h_.on λH1 Z1 I1 E1 q1=>?_)
 cases d with
 |true=>exact ha ab s1 σ H1 Pr Z1 k4 I1 E1 q1
 |false=>exact hb ab s1 σ H1 Pr Z1 k4 I1 E1 q1
def zm:W Fl:=λ_ _=>False
theorem sE:PM X st zm:=λ_ _ _ _ _ _ _ _ _ h=>h.elim
theorem aI.forget{K:W.Frag}{Pr H:Hp}{σ:St}{Z:Ev}(E:aI K Pr H σ Z)(i:Nat)(v:Option V):aI K Pr H (σ.set i v) (Z.set i .un):=by
 have hsub:(owns (Z.set i .un)).Sublist (owns Z):=by
  have:∀(Z:Ev)(i:Nat),(owns (Z.set i .un)).Sublist (owns Z):=by
   intro Z
   induction Z with
   |nil=>intro i;exact aaS _
   | cons l Z ih =>
    intro i
    cases i with
    | zero =>
     show(owns Z).Sublist (owns (l::Z));rw[aR];exact aab _ _
    | succ i =>
     show(owns (l::Z.set i .un)).Sublist (owns (l::Z));rw[aR,aR];exact(aaS _).append (ih i)
  exact this Z i
 exact⟨E.sub,E.nd.sublist hsub,λa h=>E.off a (hsub.subset h),Paired.set2 True.intro i E.sl⟩
theorem aI.store{K:W.Frag}{Pr H:Hp}{σ:St}{Z:Ev}{v:Option V}{l:L}(E:aI K Pr H (v::σ) (l::Z)){i:Nat}(hi:i<σ.length):aI K Pr H (σ.set i v) (Z.set i l):=by have E1:=E.forget (i+1) v;have E2:aI K Pr H (v::σ.set i v) (l::Z.set i .un):=E1;have hl:=E.tail.len;have E3:=E2.back (i:=i) (by rw[Zq xL]) (by rw[Zq hi]);rw[aaC]at E3;exact E3
def bq(i:Nat)(t:W L):W Fl:=λZ k4=>t Z λr Z1=>k4 .nx (Z1.set i r)
theorem aA{i:Nat}{x:Str}{te:W L}{pos':Pos}(hN:X.N.Nodup)(hi:X.N[i]?=some x)(hx:Ug X.env.scope x)(he:PL X e te)(hs:swapsWith e (some (.Name x pos')) pos.line X.env=pure false:=by rfl)(hf:X.fn x=true∨X.env.scope.names.lookup x=some .local:=by first|exact .inl rfl|exact .inr rfl|assumption) :
  PM X (.Assign [.Name x pos'] e pos) (bq i te):=by
 intro ab s σ H Pr Z k4 I E h;refine wpAny_Assign_Name (Ul (he ab s σ H Pr Z _ I E h) λv s1 h_=>h_.on λy H1 r Z1 I1 r1 E1 q1=>?_) hs;exact sD I1 hN hi hx r1 (λs2 I2=>⟨_,H1,_,I2,E1.store (by rw[I1.len];exact(YA.mp hi).1),q1⟩) hf
end
theorem oE{a b:Ev}(h:a.Perm b):(owns a).Perm (owns b):=by
 induction h with
 |nil=>exact .refl _
 |cons x _ ih=>rw[aR,aR];exact ih.append_left _
 | swap x y l =>
  rw[aR,aR,aR,aR,<- Zo,<- Zo];exact List.Perm.append_right _ ZL
 |trans _ _ h1 h2=>exact h1.trans h2
theorem JH{a b:Ev}(h:a.Sublist b):(owns a).Sublist (owns b):=by
 induction h with
 |slnil=>exact .refl _
 |cons x _ ih=>rw[aR];exact ih.trans (aab _ _)
 |cons_cons x _ ih=>rw[aR,aR];exact(aaS _).append ih
def tL(K:W.Frag)(t:W L):TE:=λσ H Q=>∃Pr Z k4,aI K Pr H σ Z/\t Z k4/\∀v H' r Z',aI K Pr H' (some v::σ) (r::Z')->k4 r Z'->Q v H'
def tW(K:W.Frag)(t:W Fl):TS:=λD σ H=>∃Pr Z k4,aI K Pr H σ Z/\t Z k4/\(∀σ' H' Z',aI K Pr H' σ' Z'->k4 .nx Z'->D.nx σ' H')/\(∀σ' H' Z',aI K Pr H' σ' Z'->k4 .bk Z'->D.bk σ' H')/\(∀σ' H' Z',aI K Pr H' σ' Z'->k4 .ct Z'->D.ct σ' H') /\
 ∀v τ H' r Z',aI K Pr H' (some v::τ) (r::Z')->k4 (.rt r) Z'->D.rt v H'
noncomputable def Va(K:W.Frag)(t:W Bool):TT:=λσ H Q=>∃Pr Z k4,aI K Pr H σ Z/\t Z k4/\∀b H' Z',aI K Pr H' σ Z'->k4 b Z'->Q b H'
section
variable{X:Cx}{e a b:Expr}{es:List Expr}{pos:Pos}{st:Stmt}{sts:List Stmt}{t u:W Fl}
theorem PL.pe{t:W L}(h:PL X e t):PE X e (tL X.K t):=λab s σ H Q I ⟨Pr,Z,k4,E,ht,q⟩ =>
 Ul (h ab s σ H Pr Z k4 I E ht) λu s1 h_=>h_.on λv H1 r Z1 I1 rv E1 p=>⟨v,H1,I1,rv,q v H1 r Z1 E1 p⟩
theorem PB.pt{t:W Bool}(h:PB X e t):PT X e (Va X.K t):=λab s σ H Q I ⟨Pr,Z,k4,E,ht,q⟩ =>
 Ul (h ab s σ H Pr Z k4 I E ht) λb s1 h_=>h_.on λH1 Z1 I1 E1 p=>⟨H1,I1,q b H1 Z1 E1 p⟩
theorem U1.pss(h:U1 X sts t):Uk X sts (tW X.K t):=λab s σ H D I ⟨Pr,Z,k4,E,ht,q1,q2,q3,q4⟩ =>
 Ul (h ab s σ H Pr Z k4 I E ht) λf s1 q=>by
  cases f with
  |next=>obtain⟨σ',H',Z',I',E',p⟩:=q;exact⟨σ',H',I',q1 σ' H' Z' E' p⟩
  |brk=>obtain⟨σ',H',Z',I',E',p⟩:=q;exact⟨σ',H',I',q2 σ' H' Z' E' p⟩
  |cont=>obtain⟨σ',H',Z',I',E',p⟩:=q;exact⟨σ',H',I',q3 σ' H' Z' E' p⟩
  |ret u=>obtain⟨v,σ',H',r,Z',τ,I',rv,E',p⟩:=q;exact⟨v,σ',H',I',rv,q4 v τ H' r Z' E' p⟩
noncomputable def PD(K:W.Frag)(Pr:Hp)(k4:Fl->Ev->Prop):OS where
 nx:=λσ' H'=>∃Z',aI K Pr H' σ' Z'/\k4 .nx Z'
 rt:=λv H'=>∃τ r Z',aI K Pr H' (some v::τ) (r::Z')/\k4 (.rt r) Z'
 bk:=λσ' H'=>∃Z',aI K Pr H' σ' Z'/\k4 .bk Z'
 ct:=λσ' H'=>∃Z',aI K Pr H' σ' Z'/\k4 .ct Z'
theorem PM.of{ts:TS}(h:PS X st ts)(q:∀σ H Pr Z k4,σ.length=X.N.length->aI X.K Pr H σ Z->t Z k4->ts (PD X.K Pr k4) σ H):PM X st t:=λab s σ H Pr Z k4 I E ht =>
 Ul (h ab s σ H _ I (q σ H Pr Z k4 I.len E ht)) λf s1 q=>by
  cases f with
  |next=>obtain⟨σ',H',I',Z',E',p⟩:=q;exact⟨σ',H',Z',I',E',p⟩
  |brk=>obtain⟨σ',H',I',Z',E',p⟩:=q;exact⟨σ',H',Z',I',E',p⟩
  |cont=>obtain⟨σ',H',I',Z',E',p⟩:=q;exact⟨σ',H',Z',I',E',p⟩
  |ret u=>obtain⟨v,σ',H',I',rv,τ,r,Z',E',p⟩:=q;exact⟨v,σ',H',r,Z',τ,I',rv,E',p⟩
theorem aI.narrow{K:W.Frag}{Pr H1 H:Hp}{σ1 σ:St}{Z1 Z:Ev}(E1:aI K Pr H1 σ1 Z1)(E:aI K (bK H1 Z1) H σ Z):aI K Pr H σ Z:=by
 refine⟨λb o e=>E.sub b o ?_,E.nd,λa ha=>?_,E.sl⟩
 . unfold bK;rw[if_neg,E1.sub b o e];intro hm;have z:=E1.off b hm;rw[e]at z;cases z
 .
  have z:=E.off a ha;unfold bK at z;by_cases hm:a∈owns Z1
  . exact E1.off a hm
  .
   rw[if_neg hm]at z
   cases q:Pr a with
   |none=>rfl
   |some o=>rw[E1.sub a o q]at z;cases z
def aG:W (List L):=λZ k4=>k4 [] Z
def au(t:W L)(r:W (List L)):W (List L):=λZ k4=>t Z λx Z1=>r Z1 λxs Z2=>k4 (x::xs) Z2
def pU(i:Nat)(r:W (List L)):W (List L):=λZ k4=>match Z[i]? with
 |some (.own _ _)=>r Z λxs Z2=>k4 (.un::xs) Z2
 |_=>False
theorem ag:UY X [] [] aG:=λ_ ab s σ H Pr Z k4 I E h=>Calls.spliced_nil ⟨[],H,[],Z,I,.nil,rfl,rfl,E,λk i e=>by simp at e,h⟩
theorem af{bs:List (Option Nat)}{r:W (List L)}{t:W L}(ha:PL X e t)(hr:UY X es bs r)(hs:starEach (e::es) X.env=(false,eval e X.env)::starEach es X.env:=by rfl):UY X (e::es) (none::bs) (au t r):=by
 intro pos ab s σ H Pr Z k4 I E h;rw[hs];show wpAny _ _ (spliced ((false,eval e X.env)::backTo pos (starEach es X.env))) _ _ s;refine Calls.spliced_cons (Ul (ha ab s σ H Pr Z _ I E h) λu s1 h_=>h_.on λx H1 l Z1 I1 r1 E1 q1=>?_);refine Ul (hr pos ab s1 σ H1 _ Z1 _ I1 E1.tail.wide q1) λus s2 h_=>h_.on λvs H2 ls Z2 I2 r2 hl hb E2 hv q2=>?_;have E3:aI X.K Pr H2 (vs.map some++(some x::σ)) (ls++(l::Z2)):=aI.step (τ:=[some x]) (lam:=[l]) E1 rfl E2 (by simp[hl])
 have E4:aI X.K Pr H2 (some x::(vs.map some++σ)) (l::(ls++Z2)):=by
  have pm:(owns (ls++(l::Z2))).Perm (owns (l::(ls++Z2))):=oE List.perm_middle;have s1:=Paired.unapp (by simp[hl]) E3.sl;obtain⟨s1,s2⟩:=s1
  cases s2 with
  |cons q t=>exact⟨E3.sub,pm.nodup_iff.mp E3.nd,λa h=>E3.off a (pm.mem_iff.mpr h),.cons q (Paired.app s1 t)⟩
 refine⟨x::vs,H2,l::ls,Z2,I2,.cons r1 r2,by simp[hl],by simp[hb],E4,λk i e=>?_,q2⟩
 cases k with
 |zero=>simp at e
 |succ k=>simpa using hv k i (by simpa using e)
theorem bL(i:Nat){x:Str}{p:Pos}{bs:List (Option Nat)}{r:W (List L)}(hr:UY X es bs r)(hN:X.N[i]?=some x:=by rfl)(hv:Ue X.env.scope x:=by first | exact Or.inl rfl | exact Or.inr (Or.inl rfl) | exact Or.inr (Or.inr rfl)) (hd:adf x:=by decide)
  (hcd:adg x:=by decide) (hs:starEach (.Name x p::es) X.env=(false,eval (.Name x p) X.env)::starEach es X.env:=by rfl):UY X (.Name x p::es) (some i::bs) (pU i r):=by
 intro pos ab s σ H Pr Z k4 I E h;unfold pU at h
 cases q:Z[i]? with
 |none=>rw[q]at h;exact h.elim
 | some l =>
  rw[q]at h
  cases l with
  |un=>exact h.elim
  |d y=>exact h.elim
  |bx _ _=>exact h.elim
  |dic _ _=>exact h.elim
  | own a xs =>
   obtain⟨sv,hsl,sl⟩:=E.slot q;obtain⟨rfl,_⟩:=sl;rw[hs];show wpAny _ _ (spliced ((false,eval (.Name x p) X.env)::backTo pos (starEach es X.env))) _ _ s;refine Calls.spliced_cons (Ul (jY hN hv hd hcd ab s σ H (λw H'=>w=.ref a/\H'=H) I ⟨.ref a,hsl,rfl,rfl⟩) λu s1 ⟨w,H1,I1,r1,e1,e2⟩=>?_);subst e1 e2;refine Ul (hr pos ab s1 σ H1 Pr Z _ I1 E h) λus s2 ⟨vs,H2,ls,Z2,I2,r2,hl,hb,E2,hv,q2⟩=>?_;refine⟨.ref a::vs,H2,.un::ls,Z2,I2,.cons r1 r2,by simp[hl],by simp[hb],E2.cons_un,λk j e=>?_,q2⟩
   cases k with
   |zero=>simp at e;subst e;exact⟨rfl,.ref a,rfl,hsl⟩
   |succ k=>simpa using hv k j (by simpa using e)
def OW:List L->(List D->Prop)->Prop
 |[],k=>k []
 |.d x::r,k=>OW r λxs=>k (x::xs)
 |_::_,_=>False
theorem tD:∀{ls:List L}{k:List D->Prop},OW ls k->∃xs,ls=xs.map .d/\k xs
 |[],_,h=>⟨[],rfl,h⟩
 | .d x::r,k,h=>by obtain⟨xs,e,q⟩:=tD (ls:=r) h;exact⟨x::xs,by rw[e];rfl,q⟩
 |.un::_,_,h=>h.elim
 |.own _ _::_,_,h=>h.elim
theorem tE{K:W.Frag}{Pr H:Hp}{σ:St}{Z:Ev}:∀{vs:List V}{xs:List D},vs.length=xs.length->aI K Pr H (vs.map some++σ) (xs.map .d++Z)->bX K H vs xs
 |[],[],_,_=>.nil
 | v::vs,x::xs,hl,E=>by obtain⟨w,e,r⟩:=aI.head_d (v:=some v) (x:=x) E;cases e;exact .cons r (tE (by simpa using hl) (aI.tail (v:=some v) (l:=.d x) E))
 |[],_::_,hl,_=>by simp at hl
 |_::_,[],hl,_=>by simp at hl
def lR(t:W (List L)):W L:=λZ k4=>t Z λls Z1=>OW ls λxs=>xs.length<=sizeLine/\k4 (.d (.tup xs)) Z1
def pX(t:W (List L)):W L:=λZ k4=>t Z λls Z1=>OW ls λxs=>xs.length<=sizeLine/\∀a,k4 (.own a xs) Z1
theorem bR {x1} {bs:List (Option Nat)} {t:W (List L)} (h:UY X es bs t):PL X (.Tuple es x1 pos) (lR t):=by
 intro ab s σ H Pr Z k4 I E hq;refine wpAny_Tuple_spliced (Ul (h pos ab s σ H Pr Z _ I E hq) λus s1 h_=>h_.on λvs H1 ls Z1 I1 r hl hb E1 hv q=>?_);obtain⟨xs,rfl,z,q⟩:=tD q;have b0:vs.length=xs.length:=by simpa using hl
 refine⟨by rw[<- r.length,b0];exact z,?_⟩;have hf:H1 s1.heap.objs.size=none:=I1.hok.fresh (YN _);refine⟨.ref s1.heap.objs.size,TY H1 s1.heap.objs.size (.tup vs),_,Z1,I1.laid (t':=s1.toks) (λb u e=>YG _ e) (YN _) ?_,rfl,(E1.drop (by simp[b0])).cons_tup hf (tE b0 E1),q⟩;exact⟨by rw[b0];exact z,us,r,⟨_,Y2 _ rfl,rfl,_,rfl⟩⟩
theorem cx{bs:List (Option Nat)}{t:W (List L)}(h:UY X es bs t):PL X (.List es pos) (pX t):=by
 intro ab s σ H Pr Z k4 I E hq;refine wpAny_List_spliced (Ul (h pos ab s σ H Pr Z _ I E hq) λus s1 h_=>h_.on λvs H1 ls Z1 I1 r hl hb E1 hv q=>?_);obtain⟨xs,rfl,z,q⟩:=tD q;have b0:vs.length=xs.length:=by simpa using hl
 refine⟨by rw[<- r.length,b0];exact z,?_⟩;have hf:H1 s1.heap.objs.size=none:=I1.hok.fresh (YN _);refine⟨.ref s1.heap.objs.size,TY H1 s1.heap.objs.size (.lst vs),_,Z1,I1.laid (t':=s1.toks) (λb u e=>YG _ e) (YN _) ?_,rfl,(E1.drop (by simp[b0])).cons_own hf (tE b0 E1),q _⟩;exact⟨by rw[b0];exact z,us,0,r,Y2 _ rfl⟩
abbrev FS:=List L->(L->List L->Prop)->Prop
noncomputable def spF(K:W.Frag)(n:Nat)(fs:FS):Sp:=λvs H Q _=>vs.length=n/\∃Pr ls k4,aI K Pr H (vs.map some) ls/\fs ls k4/\∀v H' r ls',aI K Pr H' (some v::vs.map some) (r::ls')->k4 r ls'->Q v H'
theorem aI.swap{K:W.Frag}{Pr H:Hp}{σ τ:St}{Z lam:Ev}(hl:τ.length=lam.length)(E:aI K Pr H (τ++σ) (lam++Z)):aI K Pr H (σ++τ) (Z++lam):=by have pm:(owns (lam++Z)).Perm (owns (Z++lam)):=oE ZL;obtain⟨s1,s2⟩:=Paired.unapp hl E.sl;exact⟨E.sub,pm.nodup_iff.mp E.nd,λa h=>E.off a (pm.mem_iff.mpr h),Paired.app s2 s1⟩
theorem LK{K:W.Frag}{Pr H H':Hp}{σ τ:St}{Z ls ls':Ev}{v:Option V}{r:L}(hl:τ.length=ls.length)(E:aI K Pr H (τ++σ) (ls++Z))(E':aI K (bK H ls) H' (v::τ) (r::ls')):aI K Pr H' (v::(τ++σ)) (r::(ls'++Z)):=by
 have hρ:σ.length=Z.length:=(E.drop hl).len;have z:=aI.step (τ:=σ) (σ:=τ) (lam:=Z) (Z:=ls) (w:=[v]) (μ:=[r]) (E.swap hl) hρ E' rfl;have hl':τ.length=ls'.length:=by have:=E'.len;simpa using this
 obtain⟨s1,s2⟩:=Paired.unapp (a:=[v]) (b:=[r]) rfl z.sl;obtain⟨s2,s3⟩:=Paired.unapp hρ s2;have pm:(owns ([r]++(Z++ls'))).Perm (owns (r::(ls'++Z))):=oE (List.Perm.cons r (ZL (l₁:=Z) (l₂:=ls')));exact⟨z.sub,pm.nodup_iff.mp z.nd,λa h=>z.off a (pm.mem_iff.mpr h),Paired.app s1 (Paired.app s3 s2)⟩
def aC(fs:FS)(t:W (List L)):W L:=λZ k4=>t Z λls Z1=>fs ls λr _=>k4 r Z1
def cb(fs:FS)(k i:Nat)(t:W (List L)):W L:=λZ k4=>t Z λls Z1=>match Z1[i]? with
 |some (.own a xs)=>fs (ls.set k (.own a xs)) λr ls'=>∃ys,ls'[k]?=some (.own a ys)/\k4 r (Z1.set i (.own a ys))
 |_=>False
section
variable{CX:UE}{k n:Nat}{f:Addr}{fd:FuncData}{ps:List Str}{fs:FS}{E:XK}{x:Str}{p:Pos}{bs:List (Option Nat)}{t:W (List L)}
theorem aI.drop1{K:W.Frag}{Pr H:Hp}{σ τ:St}{Z lam:Ev}{v:Option V}{r:L}(hl:τ.length=lam.length)(E:aI K Pr H (v::(τ++σ)) (r::(lam++Z))):aI K Pr H (v::σ) (r::Z):=by obtain⟨s1,s2⟩:=Paired.unapp (a:=[v]) (b:=[r]) rfl E.sl;obtain⟨s2,s3⟩:=Paired.unapp hl s2;have sb:(owns (r::Z)).Sublist (owns (r::(lam++Z))):=JH (List.Sublist.cons_cons r (aab _ _));exact⟨E.sub,E.nd.sublist sb,λa h=>E.off a (sb.subset h),Paired.app s1 s3⟩
theorem MY(F:FnOk X.prog X.w X.K X.mg X.base CX k f fd ps (spF X.K n fs))(hr:m6 k X.A)(hg:Gl X x)(hm:X.mg x=some (.ref f))(hk:W.keepIn X.K (.ref f)=true)(hb:A5 X.K fd ps [])(hx:CK CX X E)
  (ha:UY X (e::es) bs t) (hn:bs.length=n) (hdb:adf x:=by decide) (he:starEach (e::es) X.env=(false,eval e X.env)::starEach es X.env:=by rfl) (hpl:(backTo pos (starEach es X.env)).any (·.1)=false:=by rfl) :
  PL X (.Call (.Name x p) (e::es) [] pos) (aC fs t):=by
 intro ab s σ H Pr Z k4 I E0 h;refine aaI (A4 I hg hm ?_ hdb);refine W.callWith_K (h₀:=X.base) I.ok.mod.kin hk (Ul (ha pos ab s σ H Pr Z _ I E0 h) λus s1 h_=>h_.on λvs H1 ls Z1 I1 r hl hbl E1 hv q=>⟨I1.kIn,?_⟩) he hpl;have hl':(vs.map some).length=ls.length:=by simp[hl]
 refine Ul (LD (Q:=λv H'=>∃r Z',aI X.K Pr H' (some v::σ) (r::Z')/\k4 r Z') F hr hb .nil hx I1 r ?_) λu s2 ⟨v,H2,I2,rv,r,Z',E2,p⟩=>⟨v,H2,r,Z',I2,rv,E2,p⟩;rw[aai];refine⟨hbl.trans hn,bK H1 ls,ls,_,(E1.left hl').wide,q,λv H' r ls' E2 p=>⟨r,Z1,?_,p⟩⟩;have z:=LK hl' E1 E2;have hl2:(vs.map some).length=ls'.length:=by have:=E2.len;simpa using this
 exact z.drop1 hl2
theorem JI(F:FnOk X.prog X.w X.K X.mg X.base CX k f fd ps (spF X.K n fs))(hr:m6 k X.A)(hg:Gl X x)(hm:X.mg x=some (.ref f))(hk:W.keepIn X.K (.ref f)=true)(hb:A5 X.K fd ps [])(hx:CK CX X E)
  (j i:Nat) (ha:UY X (e::es) bs t) (hj:bs[j]?=some (some i)) (hn:bs.length=n) (hdb:adf x:=by decide) (he:starEach (e::es) X.env=(false,eval e X.env)::starEach es X.env:=by rfl) (hpl:(backTo pos (starEach es X.env)).any (·.1)=false:=by rfl) :
  PL X (.Call (.Name x p) (e::es) [] pos) (cb fs j i t):=by
 intro ab s σ H Pr Z k4 I E0 h;refine aaI (A4 I hg hm ?_ hdb);refine W.callWith_K (h₀:=X.base) I.ok.mod.kin hk (Ul (ha pos ab s σ H Pr Z _ I E0 h) λus s1 h_=>h_.on λvs H1 ls Z1 I1 r hl hbl E1 hv q=>⟨I1.kIn,?_⟩) he hpl;have hl':(vs.map some).length=ls.length:=by simp[hl]
 refine Ul (LD (Q:=λv H'=>∃r Z',aI X.K Pr H' (some v::σ) (r::Z')/\k4 r Z') F hr hb .nil hx I1 r ?_) λu s2 ⟨v,H2,I2,rv,r,Z',E2,p⟩=>⟨v,H2,r,Z',I2,rv,E2,p⟩;rw[aai]
 try dsimp only at q
 cases qi:Z1[i]? with
 |none=>rw[qi]at q;exact q.elim
 | some l =>
  rw[qi]at q
  cases l with
  |un=>exact q.elim
  |d y=>exact q.elim
  |bx _ _=>exact q.elim
  |dic _ _=>exact q.elim
  | own a xs =>
   obtain⟨hun,w,hw,hσ⟩:=hv j i hj;obtain⟨sv,hs2,rfl,_⟩:=(E1.drop hl').slot qi;rw[hσ]at hs2;cases hs2;have hjl:j<ls.length:=(YA.mp hun).1;have hjv:j<vs.length:=by omega
   have hil:i<Z1.length:=(YA.mp qi).1;have E2:=E1.out (i:=ls.length+i) (a:=a) (xs:=xs) (by rw[Y6 xL];simpa using qi);rw[aaO _ _ xL,Zf]at E2;have E3:=E2.back (i:=j) (by rw[ZG hjl];exact hun) (by rw[ZG (by simp;omega)];simp[hw]);rw[List.set_append_left _ _ hjl]at E3;have hl3:(vs.map some).length=(ls.set j (.own a xs)).length:=by simp[hl]
   refine⟨hbl.trans hn,bK H1 (ls.set j (.own a xs)),_,_,(E3.left hl3).wide,q,λv H' r ls' E4 p=>?_⟩;obtain⟨ys,hys,p⟩:=p;refine⟨r,Z1.set i (.own a ys),?_,p⟩;have z:=LK hl3 E3 E4;have hl4:(vs.map some).length=ls'.length:=by have:=E4.len;simpa using this
   have hjl':j<ls'.length:=by simp at hl4;omega
   have z1:=z.out (i:=1+j) (a:=a) (xs:=ys) (by rw[Nat.add_comm];simp only[List.getElem?_cons_succ];rw[ZG hjl'];exact hys);rw[Nat.add_comm 1 j,List.set_cons_succ,List.set_append_left _ _ hjl']at z1
   have z2:=z1.back (i:=(1+ls'.length)+i) (by
    rw[Nat.add_comm 1,Nat.add_right_comm,List.getElem?_cons_succ,Y6 x_]
    simp[hil]) (by
    rw[Nat.add_comm 1,Nat.add_right_comm,List.getElem?_cons_succ,Y6 (by simp at hl4 ⊢;omega)];simp at hl4 ⊢;rw[<- hl4,Zf]
    exact hσ)
   rw[Nat.add_comm 1,Nat.add_right_comm,List.set_cons_succ,aaO _ _ x_]at z2;simp only[aah,Zf,aaC]at z2;exact z2.drop1 (by simp at hl4 ⊢;exact hl4)
end
end
def AW(Z:Ev):List L->List L->Prop:=Paired λl l'=>match l with
 |.own a _=>(∃ys,l'=.own a ys/\L.own a ys∈Z)∨l'=.un
 |.bx _ _=>l'=.un
 |.dic _ _=>l'=.un
 |l=>l'=l
def aP(ls:List L)(k4:L->List L->Prop):Fl->Ev->Prop:=λf Z=>match f with
 |.rt r=>∃ls',AW Z ls ls'/\k4 r ls'
 |.nx=>∃ls',AW Z ls ls'/\k4 (.d .non) ls'
 |_=>False
theorem AW.owns{Z:Ev}:∀{ls ls':List L},AW Z ls ls'->(owns ls').Sublist (owns ls)
 |_,_,.nil=>.refl _
 | l::ls,l'::ls',.cons h t=>by
  have ih:=AW.owns t;rw[aR,aR]
  cases l with
  | own a xs =>
   rcases h with⟨ys,rfl,_⟩|rfl
   . exact(aaS _).append ih
   . exact ih.trans (aab _ _)
  |un=>have e:l'=.un:=h;subst e;exact(aaS _).append ih
  |d x=>have e:l'=.d x:=h;subst e;exact(aaS _).append ih
  |bx k ms=>have e:l'=.un:=h;subst e;exact ih.trans (aab _ _)
  |dic k ms=>have e:l'=.un:=h;subst e;exact ih.trans (aab _ _)
theorem AW.sub{Z:Ev}:∀{ls ls':List L},AW Z ls ls'->∀a∈L2.owns ls',a∈L2.owns Z
 |_,_,.nil=>λa ha=>by simp[L2.owns]at ha
 | l::ls,l'::ls',.cons h t=>λa ha=>by
  have ih:=AW.sub t;rw[aR]at ha;rcases YY.mp ha with z|z
  .
   cases l with
   | own b xs =>
    rcases h with⟨ys,rfl,hm⟩|rfl
    .
     have e:a=b:=by simpa[bz]using z
     subst e;exact MP hm
    . simp[bz]at z
   |un=>have e:l'=.un:=h;subst e;simp[bz]at z
   |d x=>have e:l'=.d x:=h;subst e;simp[bz]at z
   |bx k ms=>have e:l'=.un:=h;subst e;simp[bz]at z
   |dic k ms=>have e:l'=.un:=h;subst e;simp[bz]at z
  . exact ih a z
theorem sF{K:W.Frag}{Pr H H':Hp}{σ τ:St}{ls ls' Z:Ev}{v:Option V}{r:L}(E:aI K Pr H σ ls)(E':aI K (bK H ls) H' (v::τ) (r::Z))(B:AW Z ls ls'):aI K Pr H' (v::σ) (r::ls'):=by
 have E1:=E.narrow E';have p:wg H H':=xg E E'.sub;have sub:=B.sub;have nd1:(owns ls').Nodup:=E.nd.sublist B.owns;refine⟨E1.sub,?_,λa ha=>?_,?_⟩
 . have nd:=E'.nd;rw[aR]at nd ⊢;obtain⟨n1,n2,n3⟩:=Zj.mp nd;exact Zj.mpr ⟨n1,nd1,λa ha b hb=>n3 a ha b (sub b hb)⟩
 .
  rw[aR]at ha;refine E1.off a ?_;rw[aR];rcases YY.mp ha with z|z
  . exact Y1 _ z
  . exact YW _ (sub a z)
 .
  have s1:=E'.sl
  cases s1 with
  | cons q t =>
   refine .cons q ?_;have sl:=E.sl;clear E E' E1 nd1 sub
   induction B generalizing σ with
   |nil=>cases sl;exact .nil
   | cons h u ih =>
    rename_i l l' _ _
    cases sl with
    | cons s0 s2 =>
     refine .cons ?_ (ih s2)
     cases l with
     | own a xs =>
      rcases h with⟨ys,rfl,hm⟩|rfl
      . obtain⟨e,_⟩:=s0;obtain⟨_,_,_,z⟩:=Paired.mem2 t hm;exact⟨e,z⟩
      . unfold bo;exact True.intro
     |un=>have e:l'=.un:=h;subst e;unfold bo;exact True.intro
     |bx k ms=>have e:l'=.un:=h;subst e;unfold bo;exact True.intro
     |dic k ms=>have e:l'=.un:=h;subst e;unfold bo;exact True.intro
     | d x =>
      have e:l'=.d x:=h;subst e;obtain⟨w,e,r⟩:=s0;exact⟨w,e,r.pres p⟩
section
variable{P:Program}{w:World}{K:W.Frag}{mg:Str->Option Value}{base:Heap}
theorem aI.uns{K:W.Frag}{Pr H:Hp}{σ:St}{Z:Ev}(E:aI K Pr H σ Z):∀n,aI K Pr H (σ++List.replicate n none) (Z++List.replicate n .un):=λn=>by
 have e:owns (Z++List.replicate n .un)=owns Z:=by
  rw[aK]
  have:owns (List.replicate n L.un)=[]:=by
   induction n with
   |zero=>rfl
   |succ n ih=>rw[Zp,rj];exact ih
  rw[this,aai]
 refine⟨E.sub,by rw[e];exact E.nd,λa h=>E.off a (by rw[e]at h;exact h),Paired.app E.sl ?_⟩
 induction n with
 |zero=>exact .nil
 | succ n ih =>
  rw[Zp,Zp];refine .cons True.intro (ih ?_)
  have:owns (List.replicate n L.un)=[]:=by
   clear ih e
   induction n with
   |zero=>rfl
   |succ n ih=>rw[Zp,rj];exact ih
  rw[aK,this,aai]
theorem aX{x qual:Str}{st:Stmt}{f:Addr}{fd:FuncData}{N ps:List Str}{k:Nat}{fs:FS}(F:UU K x qual st f fd)(S:aB N ps (ar st))(t:W Fl)
  (hbody:∀(cdv:Value)(A:Around)(outer:List Env)(s:Shared)(H:Hp)(E:XK),m6 k (A.deeper (envOfC qual (ar st) s.heap.objs.size f cdv))->U1 (LF CX0 P w K mg base N qual (ar st) f cdv A outer s H E).nox (fT st) t)
  (h:∀ls k4,ls.length=ps.length->fs ls k4->t (ls++List.replicate (N.length-ps.length) .un) (aP ls k4)):FnOk P w K mg base CX0 (k+1) f fd ps (spF K ps.length fs):=by
 refine F.ok S (λvs H Q E q=>q.1) (λcdv A outer s H vs Q E hr q=>?_);obtain⟨hl,Pr,ls,k4,E0,hf,q⟩:=q;refine⟨_,(hbody cdv A outer s H E hr).pss,bK H ls,ls++List.replicate (N.length-ps.length) .un,aP ls k4,?_,h ls k4 (by rw[<- hl];have:=E0.len;simpa using this.symm) hf,λσ' H' Z' E' p=>?_,λ_ _ _ _ p=>p.elim,λ_ _ _ _ p=>p.elim,λv τ H' r Z' E' p=>?_⟩
 . unfold vw;rw[hl];exact E0.wide.uns _
 . obtain⟨ls',B,p⟩:=p;exact q .non H' (.d .non) ls' (sF E0 (E'.cons_d .non) B) p
 . obtain⟨ls',B,p⟩:=p;exact q v H' r ls' (sF E0 E' B) p
end
theorem aL{Z:Ev}:AW Z [] []:=.nil
theorem aj{Z:Ev}{x:D}{a b:List L}(t:AW Z a b):AW Z (.d x::a) (.d x::b):=.cons rfl t
theorem je{Z:Ev}{p:Addr}{xs ys:List D}{a b:List L}(h:L.own p ys∈Z)(t:AW Z a b):AW Z (.own p xs::a) (.own p ys::b):=.cons (.inl ⟨ys,rfl,h⟩) t
section
variable{X:Cx}{e a b c tg:Expr}{es:List Expr}{pos:Pos}{tA:W Bool}{t u:W Fl}
def tF(c:W Bool)(b:W Fl):W Fl:=λZ k4=>∃J:Nat->Ev->Prop,(∃n,J n Z)/\∀n Z,J n Z->c Z λt Z1=>if t=true then b Z1 λf Z2=>(match f with
 |.nx=>∃m,m<n/\J m Z2
 |.ct=>∃m,m<n/\J m Z2
 |.bk=>k4 .nx Z2
 |.rt r=>k4 (.rt r) Z2)else k4 .nx Z1
theorem oF{body:List Stmt}(hp:PassesOwn (model X.prog X.w) X.A X.env X.xe)(hc:PB X c tA)(hb:U1 X body t):PM X (.While c body [] pos) (tF tA t):=by
 refine PM.of (Jr hp hc.pt hb.pss) λσ H Pr Z k4 b0 E h=>?_;obtain⟨J,⟨n0,j0⟩,turn⟩:=h;refine⟨λn σ H=>∃Z,aI X.K Pr H σ Z/\J n Z,⟨n0,Z,E,j0⟩,λn σ1 H1 ⟨Z1,E1,j1⟩=>⟨Pr,Z1,_,E1,turn n Z1 j1,λb H2 Z2 E2 q=>?_⟩⟩
 cases b with
 |false=>exact⟨Z2,E2,q⟩
 | true =>
  refine⟨λσ' H'=>∃Z' m,aI X.K Pr H' σ' Z'/\m<n/\J m Z',λσ' H' ⟨Z',m,E',hm,j⟩=>⟨m,hm,Z',E',j⟩,Pr,Z2,_,E2,q,λσ' H' Z' E' ⟨m,hm,j⟩=>⟨Z',m,E',hm,j⟩,λσ' H' Z' E' p=>⟨Z',E',p⟩,λσ' H' Z' E' ⟨m,hm,j⟩=>⟨Z',m,E',hm,j⟩,λv τ H' r Z' E' p=>⟨τ,r,Z',E',p⟩⟩
abbrev Tg:=D->Ev->(Ev->Prop)->Prop
def Vb(X:Cx)(tg:Expr)(g:Tg):Prop:=∃gg:TG,PG X tg gg/\∀v σ H Pr Z x k,σ.length=X.N.length->aI X.K Pr H σ Z->UW X.K H v x->g x Z k->gg v σ H λσ' H'=>H'=H/\σ'.length=X.N.length/\∃Z',aI X.K Pr H σ' Z'/\k Z'
def a9(i:Nat):Tg:=λx Z k=>k (Z.set i (.d x))
theorem cM{i:Nat}{x:Str}(hN:X.N.Nodup)(hi:X.N[i]?=some x)(hx:Ug X.env.scope x)(hf:X.fn x=true∨X.env.scope.names.lookup x=some .local:=by first|exact .inl rfl|exact .inr rfl|assumption):Vb X (.Name x pos) (a9 i) :=
 ⟨_,w5 hN hi hx hf,λv σ H Pr Z x k hl E r h=>⟨rfl,by simpa using hl,_,(E.cons_d r).store (by rw[hl];exact(YA.mp hi).1),h⟩⟩
def ir:List Nat->List D->Ev->(Ev->Prop)->Prop
 |[],[],Z,k=>k Z
 |i::is,x::xs,Z,k=>ir is xs (Z.set i (.d x)) k
 |_,_,_,_=>False
def Vc(X:Cx)(es:List Expr)(is:List Nat):Prop:=∃gg:Ur,Us X es gg/\es.length=is.length/\∀vs σ H Pr Z xs k,σ.length=X.N.length->aI X.K Pr H σ Z->bX X.K H vs xs->ir is xs Z k->gg vs σ H λσ' H'=>H'=H/\σ'.length=X.N.length/\∃Z',aI X.K Pr H σ' Z'/\k Z'
theorem cN:Vc X [] []:=⟨_,Fx,rfl,λvs σ H Pr Z xs k hl E r h=>by
 cases r with
 |nil=>exact⟨rfl,rfl,hl,Z,E,h⟩
 |cons _ _=>exact h.elim⟩
theorem aN{i:Nat}{is:List Nat}{x:Str}(hN:X.N.Nodup)(hi:X.N[i]?=some x)(hx:Ug X.env.scope x)(hr:Vc X es is)(hf:X.fn x=true∨X.env.scope.names.lookup x=some .local:=by first|exact .inl rfl|exact .inr rfl|assumption)
  (hs:(assignEach (.Name x pos::es) X.env).map (·.2)=assign (.Name x pos) X.env::(assignEach es X.env).map (·.2):=by rfl):Vc X (.Name x pos::es) (i::is):=by
 obtain⟨gg,hg,b0,q⟩:=hr;refine⟨_,CI (w5 hN hi hx hf) hg hs,by simp[b0],λvs σ H Pr Z xs k hl E r h=>?_⟩
 cases r with
 |nil=>exact h.elim
 | cons r0 t =>
  refine⟨_,_,rfl,?_⟩;exact q _ _ H Pr _ _ k (by simpa using hl) ((E.cons_d r0).store (by rw[hl];exact(YA.mp hi).1)) t h
def dH(is:List Nat):Tg:=λx Z k=>match x with
 |.tup xs=>ir is xs Z k
 |_=>False
theorem gC:∀{is:List Nat}{xs:List D}{Z:Ev}{k:Ev->Prop},ir is xs Z k->xs.length=is.length
 |[],[],_,_,_=>rfl
 |_::is,_::xs,_,_,h=>by simp[gC (is:=is) (xs:=xs) h]
 |[],_::_,_,_,h=>h.elim
 |_::_,[],_,_,h=>h.elim
theorem gD{is:List Nat}{k:Nat}(hc:X.calm=true)(h:Vc X es is)(hn:(assignEach es X.env).length=is.length:=by rfl)(hst:(assignEach es X.env).findIdx? (·.1)=none:=by rfl):Vb X (.Tuple es k pos) (dH is):=by
 obtain⟨gg,hg,b0,q⟩:=h;refine⟨_,Lz hc hg hn hst,λv σ H Pr Z x k hl E r h=>?_⟩
 cases r with
 |tup hs rs=>exact⟨_,_,rfl,hs,by rw[rs.length];exact gC h,q _ σ H Pr Z _ k hl E rs h⟩
 |_=>exact h.elim
def ck(g:Tg)(b:W Fl):List D->W Fl
 |[]=>λZ k4=>k4 .nx Z
 | x::xs=>λZ k4=>g x Z λZ1=>b Z1 λf Z2=>match f with
  |.nx=>ck g b xs Z2 k4
  |.ct=>ck g b xs Z2 k4
  |.bk=>k4 .nx Z2
  |.rt r=>k4 (.rt r) Z2
def ky:D->(List D->Prop)->Prop
 |.lst xs,k=>k xs
 |.tup xs,k=>k xs
 |_,_=>False
def PF(H H':Hp):Prop:=H'=H∨∃p o,H p=none/\H'=TY H p o
theorem aI.grown{K:W.Frag}{Pr H H':Hp}{σ:St}{Z:Ev}(E:aI K Pr H σ Z)(g:PF H H'):aI K Pr H' σ Z:=by
 rcases g with rfl|⟨p,o,h,rfl⟩
 . exact E
 . exact E.new h
def Ef(K:W.Frag)(H:Hp)(J:It)(xs:List D):Prop:=∀H',wg H H' ->
 (∀i x,xs[i]?=some x->J.go i H'/\∀v H2,J.yld i H' v H2->PF H' H2/\UW K H2 v x)/\J.stop xs.length H'
inductive EI (X:Cx) (ab:List (Addr×Obj)) (σ:St) (tg:Expr) (Pr:Hp) (k4:List D->Ev->Prop) (itv:Value) (s2:Shared):Prop
 |mk (it:Addr) (fp:List Addr) (tn:Nat->Heap->Prop) (J:It) (H':Hp) (xs:List D) (Z':Ev) (hv:itv=.ref it) (i:Uh X ab σ H' s2) (t:MA X.prog X.w X.K tg J fp it tn) (h0:tn 0 s2.heap) (hf:∀b∈fp,Fy X ab H' b) (e:aI X.K Pr H' σ Z') (g:Ef X.K H' J xs) (p:k4 xs Z')
def Vd(X:Cx)(tg iter:Expr)(w:W (List D)):Prop :=
 ∀(ab:List (Addr×Obj))(s:Shared)(σ:St)(H Pr:Hp)(Z:Ev)(k4:List D->Ev->Prop),Uh X ab σ H s->aI X.K Pr H σ Z->w Z k4 ->
  wpAny (model X.prog X.w) X.A (eval iter X.env) (λv s1=>wpAny (model X.prog X.w) X.A (pyIter v) (EI X ab σ tg Pr k4) X.xe s1) X.xe s
def pY(t:W L):W (List D):=λZ k4=>t Z λr Z1=>U2 r λx=>ky x λxs=>k4 xs Z1
theorem Eg{K:W.Frag}{H:Hp}{a:Addr}{vs:List V}{xs:List D}(h:UV K H a vs)(r:bX K H vs xs):Ef K H (Uu K a) xs:=λH' p=>by have h':=(h.pres p).l;refine⟨λi x e=>?_,⟨vs,h',by rw[r.length];exact YN _⟩⟩;obtain⟨v,ev,rv⟩:=r.get e;refine⟨⟨vs,v,h',ev⟩,λw H2 ⟨e1,e2⟩=>?_⟩;have e3:=e2 vs h';rw[ev]at e3;cases e3;subst e1;exact⟨.inl rfl,rv.pres p⟩
theorem F4{K:W.Frag}{H:Hp}{a:Addr}{vs:List V}{xs:List D}(h:Uq K H a vs)(r:bX K H vs xs):Ef K H (Uv K a) xs:=λH' p=>by have h':=h.pres p;refine⟨λi x e=>?_,⟨vs,h',by rw[r.length];exact YN _⟩⟩;obtain⟨v,ev,rv⟩:=r.get e;refine⟨⟨vs,v,h',ev⟩,λw H2 ⟨e1,e2⟩=>?_⟩;have e3:=e2 vs h';rw[ev]at e3;cases e3;subst e1;exact⟨.inl rfl,rv.pres p⟩
theorem bM{t:W L}(h:PL X e t):Vd X tg e (pY t):=by
 intro ab s σ H Pr Z k4 I E ht;refine Ul (h ab s σ H Pr Z _ I E ht) λu s1 q=>?_;obtain⟨v,H1,x,Z1,I1,r1,E1,q2⟩:=EL.frz (k4:=λx Z1=>ky x λxs=>k4 xs Z1) q;obtain⟨_,e1,p⟩:=E1.head_d;cases e1
 cases p with
 | lst hz rs =>
  cases r1;obtain⟨its,rv,pl,hz'⟩:=I1.list hz.l;refine wpAny_pyIter_list pl.isList ?_;refine⟨s1.heap.objs.size,[s1.heap.objs.size],_,_,H1,_,Z1,rfl,I1.kept (t':=s1.toks) λb o e=>YG _ e,Fz _ _,⟨_,Y2 _ rfl,rfl,rfl⟩,λb hb=>?_,E1.tail,Eg hz rs,q2⟩;have e:b=s1.heap.objs.size:=by simpa using hb
  subst e;exact I1.fpOk (YN _) (I1.hok.fresh (YN _))
 | tup hz rs =>
  cases r1;obtain⟨its,rv,pl,hz'⟩:=I1.tuple hz;refine wpAny_pyIter_tuple (show s1.heap.IsTuple _ its.toArray from pl) ?_;refine⟨s1.heap.objs.size,[s1.heap.objs.size],_,_,H1,_,Z1,rfl,I1.kept (t':=s1.toks) λb o e=>YG _ e,D1 _ _,⟨_,Y2 _ rfl,rfl,rfl⟩,λb hb=>?_,E1.tail,F4 hz rs,q2⟩;have e:b=s1.heap.objs.size:=by simpa using hb
  subst e;exact I1.fpOk (YN _) (I1.hok.fresh (YN _))
 |_=>exact q2.elim
noncomputable def wo(lo:Int)(n:Nat):List D:=(List.range n).map λ(i:Nat)=>.int (lo+(i:Int))
theorem zo{K:W.Frag}{H:Hp}(lo:Int)(n:Nat):Ef K H (Uw lo n) (wo lo n):=λH' p=>by
 refine⟨λi x e=>?_,?_⟩
 .
  have hi:i<n:=by have:=(YA.mp e).1;simpa[wo]using this
  refine⟨hi,λv H2 ⟨e1,e2⟩=>?_⟩;subst e1 e2;have:x=.int (lo+(i:Int)):=by unfold wo at e;rw[YS,ZE hi]at e;simpa using e.symm
  subst this;exact⟨.inl rfl,.int _⟩
 . show n<=(wo lo n).length;simp[wo]
def pZ:L->(Int->Prop)->Prop
 |.d (.int i),k=>k i
 |_,_=>False
theorem fz{r:L}{k:Int->Prop}(h:pZ r k):∃i,r=.d (.int i)/\k i:=by
 cases r with
 | d x=>cases x with
  |int i=>exact⟨i,rfl,h⟩
  |_=>exact h.elim
 |_=>exact h.elim
def F5(j:Int):Prop:=-(2^62)<=j/\j<2^62
def tG(t:W L):W (List D):=λZ k4=>t Z λr Z1=>pZ r λj=>F5 j/\k4 (wo 0 j.toNat) Z1
def F6(t u:W L):W (List D):=λZ k4=>t Z λr Z1=>pZ r λi=>u Z1 λr Z2=>pZ r λj=>F5 i/\F5 j/\k4 (wo i (j-i).toNat) Z2
theorem gj{t:W L}{p pos:Pos} (hg:Gl X "range") (hm:X.mg "range"=none) (ha:PL X a t) (hs:starEach [a] X.env=[(false,eval a X.env)]:=by rfl):Vd X tg (.Call (.Name "range" p) [a] [] pos) (tG t):=by
 intro ab s σ H Pr Z k4 I E h;refine Ul (FC (tg:=tg) hg hm (gA ha.pe rg hs) hs ab s σ H (λJ H1=>∃Z1 n,J=Uw 0 n/\aI X.K Pr H1 σ Z1/\k4 (wo 0 n) Z1) I ?_) λv s1 q=>Ul q λitv s2 ⟨it,fp,tn,J,H',e,I',T,t0,hf,Z1,n,eJ,E1,q⟩=>?_
 . refine⟨Pr,Z,_,E,h,λv H' r Z' E' p=>?_⟩;obtain⟨j,rfl,hj,p⟩:=fz p;obtain⟨_,e1,p1⟩:=E'.head_d;cases e1;obtain rfl:=UW.inv_int p1;exact⟨j,rfl,hj.1,hj.2,Z',_,rfl,E'.tail,p⟩
 . subst eJ;exact⟨it,fp,tn,_,H',_,Z1,e,I',T,t0,hf,E1,zo 0 n,q⟩
theorem xi{t u:W L}{p pos:Pos} (hg:Gl X "range") (hm:X.mg "range"=none) (ha:PL X a t) (hb:PL X b u) (hs:starEach [a,b] X.env=[(false,eval a X.env),(false,eval b X.env)]:=by rfl) (hs2:starEach [b] X.env=[(false,eval b X.env)]:=by rfl):Vd X tg (.Call (.Name "range" p) [a,b] [] pos) (F6 t u):=by
 intro ab s σ H Pr Z k4 I E h;refine Ul (FD (tg:=tg) hg hm (gA ha.pe (gA hb.pe rg hs2) (hs.trans (by rw[hs2]))) hs hs2 ab s σ H (λJ H1=>∃Z1 lo n,J=Uw lo n/\aI X.K Pr H1 σ Z1/\k4 (wo lo n) Z1) I ?_) λv s1 q=>Ul q λitv s2 ⟨it,fp,tn,J,H',e,I',T,t0,hf,Z1,lo,n,eJ,E1,q⟩=>?_
 . refine⟨Pr,Z,_,E,h,λv H' r Z' E' p=>?_⟩;obtain⟨i,rfl,p⟩:=fz p;obtain⟨_,e1,p1⟩:=E'.head_d;cases e1;obtain rfl:=UW.inv_int p1;refine⟨Pr,Z',_,E'.tail,p,λv H2 r Z2 E2 p=>?_⟩;obtain⟨j,rfl,hi,hj,p⟩:=fz p;obtain⟨_,e1,p1⟩:=E2.head_d;cases e1;obtain rfl:=UW.inv_int p1;exact⟨i,j,rfl,⟨hi.1,hi.2,hj.1,hj.2⟩,Z2,_,_,rfl,E2.tail,p⟩
 . subst eJ;exact⟨it,fp,tn,_,H',_,Z1,e,I',T,t0,hf,E1,zo lo n,q⟩
def mq(s:W (List D))(g:Tg)(b:W Fl):W Fl:=λZ k4=>s Z λxs Z1=>ck g b xs Z1 k4
theorem bV{iter:Expr}{body:List Stmt}{w:W (List D)}{g:Tg}(hp:PassesOwn (model X.prog X.w) X.A X.env X.xe)(hc:X.calm=true)(hi:Vd X tg iter w)(hg:Vb X tg g)(hb:U1 X body t)
  (hs:∀x,foldedSetIterable iter X.env x=pure x:=by intro _;rfl):PM X (.For tg iter body [] pos) (mq w g t):=by
 intro ab s σ H Pr Z k4 I E h;obtain⟨gg,hg,hgg⟩:=hg;refine wpAny_For (Ul (hi ab s σ H Pr Z _ I E h) λv s1 h1=>Ul h1 λitv s2 h2=>?_) hs;obtain⟨it,fp,tn,J,H2,xs,Z2,e,I2,T,st2,f2,E2,G,w0⟩:=h2;subst e;have stat:∀{H':Hp},(∀b∈fp,H' b=none)->∀b∈fp,Fy X ab H' b:=λhn b hb=>⟨hn b hb,(f2 b hb).2⟩;refine codeAny_forLoop_any (λn s'=>∃i σ' H' Z',n+i=xs.length/\Uh X ab σ' H' s'/\tn i s'.heap/\(∀b∈fp,H' b=none)/\aI X.K (bK H2 Z2) H' σ' Z'/\ck g t (xs.drop i) Z' k4) ?_ xs.length ⟨0,σ,H2,Z2,xL,I2,st2,λb hb=>(f2 b hb).1,E2.wide,by simpa using w0⟩;rintro n s3 ⟨i,σ3,H3,Z3,hn,I3,st3,fr3,E3,w3⟩;obtain⟨go,stop⟩:=G H3 (xg E2 E3.sub);by_cases hlt:i<xs.length
 .
  obtain⟨hgo,hy⟩:=go i xs[i] (gV hlt);rw[Zw hlt]at w3;refine aaP hp (Ul (T.item X rfl rfl rfl hc i ab s3 σ3 H3 X.xe I3 (stat fr3) st3 hgo) λr s4 ⟨u,hr,h4⟩=>?_);subst hr;refine aaP hp (Ul h4 λ_ s5 ⟨x,H5,I5,r5,y5,st5,fr5⟩=>?_);obtain⟨gr,rx⟩:=hy x H5 y5;have I5':=I5.pinned (stat fr5) (T.obj _ _ st5);have E5:=E3.grown gr;refine aaP hp (Ul (hg _ s5 σ3 H5 x u _ I5' r5 (hgg x σ3 H5 _ Z3 xs[i] _ I5.len E5 rx w3)) λ_ s6 ⟨σ6,H6,I6,e6,hl6,Z6,E6,q6⟩=>?_);subst e6;refine aaP hp (Ul (hb _ s6 σ6 _ _ Z6 _ I6 E6 q6) λf s7 q7=>?_)
  have again:∀{σ7:St}{H7:Hp}{Z7:Ev},Uh X (ab++y4 fp s5.heap) σ7 H7 s7->aI X.K (bK H2 Z2) H7 σ7 Z7->ck g t (xs.drop (i+1)) Z7 k4 ->
    ∃m,m<n/\∃i σ' H' Z',m+i=xs.length/\Uh X ab σ' H' s7/\tn i s7.heap/\(∀b∈fp,H' b=none)/\aI X.K (bK H2 Z2) H' σ' Z'/\ck g t (xs.drop i) Z' k4:=λ{σ7 H7 Z7} I7 E7 n7=>by
   refine⟨n-1,xL,i+1,σ7,H7,Z7,xL,I7.unpinned,T.keep _ _ _ st5 λb hb o e=>(I7.pin (b,o) (YW _ (YW _ (lP hb e)))).1,λb hb=>?_,E7,n7⟩;obtain⟨o,e,d⟩:=T.obj _ _ st5 b hb;exact(I7.pin (b,o) (YW _ (YW _ (lP hb e)))).2.1
  cases f with
  |next=>obtain⟨σ7,H7,Z7,I7,E7,n7⟩:=q7;exact again I7 E7 n7
  |cont=>obtain⟨σ7,H7,Z7,I7,E7,n7⟩:=q7;exact again I7 E7 n7
  |brk=>obtain⟨σ7,H7,Z7,I7,E7,q7⟩:=q7;exact⟨σ7,H7,Z7,I7.unpinned,E2.narrow E7,q7⟩
  |ret v=>obtain⟨x7,σ7,H7,r,Z7,τ,I7,r7,E7,q7⟩:=q7;exact⟨x7,σ7,H7,r,Z7,τ,I7.unpinned,r7,E2.narrow E7,q7⟩
 .
  have e:i=xs.length:=by omega
  subst e;refine aaP hp (Ul (T.done X rfl rfl rfl hc xs.length ab s3 σ3 H3 X.xe I3 (stat fr3) st3 stop) λr s4 ⟨hr,I4⟩=>?_);subst hr;rw[List.drop_length]at w3;exact wpAny_execs_nil ⟨σ3,H3,Z3,I4,E2.narrow E3,w3⟩
end
section
variable{X:Cx}{e a b c:Expr}{pos:Pos}{ta tb:W L}
def bB(i:Int):Prop:=i.natAbs<2^1000000
def de:U3:=λx y k=>match x,y with
 |.int i,.int j=>k (.d (.int (i+j)))
 |.str i,.str j=>i.length+j.length<=sizeLine/\k (.d (.str (i++j)))
 |.lst xs,.lst ys=>xs.length+ys.length<=sizeLine/\∀a,k (.own a (xs++ys))
 |_,_=>False
def iu:U3:=λx y k=>match x,y with
 |.int i,.int j=>k (.d (.int (i-j)))
 |_,_=>False
def p5:U3:=λx y k=>match x,y with
 |.int i,.int j=>j≠0/\j.natAbs<2^9000/\k (.d (.int (i.fdiv j)))
 |_,_=>False
def fU:U3:=λx y k=>match x,y with
 |.int i,.int j=>j≠0/\k (.d (.int (i.fmod j)))
 |_,_=>False
def Eh:U3:=λx y k=>match x,y with
 |.int i,.int j=>0<=j/\j<=1000000/\i.natAbs<2^64/\k (.d (.int (i^j.toNat)))
 |_,_=>False
def wq:U3:=λx y k=>match x,y with
 |.int i,.int j=>k (.d (.bl (decide (i<j))))
 |_,_=>False
def MZ:U3:=λx y k=>match x,y with
 |.int i,.int j=>k (.d (.bl (decide (i<=j))))
 |_,_=>False
def PH:U3:=λx y k=>match x,y with
 |.int i,.int j=>k (.d (.bl (decide (j<i))))
 |_,_=>False
def PJ:U3:=λx y k=>match x,y with
 |.int i,.int j=>k (.d (.bl (decide (j<=i))))
 |_,_=>False
theorem F7{i j:Int}(h1:bB i)(h2:bB j):IntMulOk i j:=IntMulOk.of_le (PySem.intBits_le_iff.mpr h1) (PySem.intBits_le_iff.mpr h2) xp
theorem M0:Ux X (binaryOp .Mult) (rI (λi j=>bB i/\bB j) λi j=>.int (i*j)):=UB λ_ _ _ _ _ _ _ hc q=>mul_int q (F7 hc.1 hc.2)
theorem M1:Ux X (binaryOp .FloorDiv) (rI (λi j=>j≠0/\j.natAbs<2^9000) λi j=>.int (i.fdiv j)):=UB λi j _ _ _ _ _ hc q=>floordiv_int hc.1 q (.inl (PyProof.noPylong_of_log2 ((Nat.log2_lt (by have:=hc.1;omega)).mpr hc.2)))
theorem M3:Ux X (binaryOp .Add) (λx y H Q=>∃l b xs zs,x=.ref l/\y=.ref b/\Up X.K H l xs/\Up X.K H b zs/\xs.length+zs.length<=sizeLine/\∀p,H p=none->Q (.ref p) (TY H p (.lst (xs++zs)))):=by
 intro ab s σ H x y v u Q I rx ry h;obtain⟨l,b,xs,zs,rfl,rfl,hH,hB,hz,q⟩:=h;cases rx;cases ry;obtain⟨its,r,⟨o,n,e,c,d,f⟩,z⟩:=I.list hH;obtain⟨its2,r2,⟨o2,n2,e2,c2,d2,f2⟩,z2⟩:=I.list hB;obtain⟨cl,dd,dt,sl⟩:=o;obtain⟨cl2,dd2,dt2,sl2⟩:=o2;simp only at c f c2 f2;subst c f c2 f2;have hl:=r.length;have hl2:=r2.length;refine concat_meets ⟨_,e,rfl⟩ ⟨_,e2,rfl⟩ noFill_list_add seq_list_add PySem.F.slot_list_add PySem.F.entry_list_add (PySem.F.args_list_add_2 _ _) (list_addW l b its.toArray its2.toArray n n2 dd dd2 sl sl2 (by rw[YT,YT];omega)) ⟨e,e2,?_⟩;have ea:its.toArray++its2.toArray=(its++its2).toArray:=by simp
 rw[ea];exact⟨.ref _,_,I.lnew (t':=s.toks) (r.append r2) (by rw[Y4];omega),rfl,q _ I.fresh⟩
theorem JJ{x y:D}{k:L->Prop}(h:de x y k):(∃i j,x=.int i/\y=.int j/\k (.d (.int (i+j))))∨(∃i j,x=.str i/\y=.str j/\i.length+j.length<=sizeLine/\k (.d (.str (i++j))))∨∃xs ys,x=.lst xs/\y=.lst ys/\xs.length+ys.length<=sizeLine/\∀a,k (.own a (xs++ys)):=by
 unfold de at h;split at h
 . exact .inl ⟨_,_,rfl,rfl,h⟩
 . exact .inr (.inl ⟨_,_,rfl,rfl,h⟩)
 . exact .inr (.inr ⟨_,_,rfl,rfl,h⟩)
 . exact h.elim
theorem M4:U4 X (binaryOp .Add) (λx y k=>∃i j,x=.int i/\y=.int j/\k (.d (.int (i+j)))):=U4.of Pa λσ H Pr Z x y dx dy k4 E px py ⟨i,j,e1,e2,h⟩=>by subst e1 e2;obtain rfl:=UW.inv_int px;obtain rfl:=UW.inv_int py;exact⟨i,j,rfl,rfl,_,E.cons_d (.int _),h⟩
theorem M5:U4 X (binaryOp .Add) (λx y k=>∃i j,x=.str i/\y=.str j/\i.length+j.length<=sizeLine/\k (.d (.str (i++j)))):=U4.of D3 λσ H Pr Z x y dx dy k4 E px py ⟨i,j,e1,e2,z,h⟩=>by subst e1 e2;obtain rfl:=UW.inv_str px;obtain rfl:=UW.inv_str py;exact⟨i,j,rfl,rfl,z,_,E.cons_d (.str _),h⟩
theorem M6:U4 X (binaryOp .Add) (λx y k=>∃xs ys,x=.lst xs/\y=.lst ys/\xs.length+ys.length<=sizeLine/\∀a,k (.own a (xs++ys))):=U4.of M3 λσ H Pr Z x y dx dy k4 E px py ⟨xs,ys,e1,e2,z,h⟩=>by
 subst e1 e2;obtain⟨_,_,rfl,h1,r1⟩:=UW.inv_lst px
 cases py with
 |lst h2 r2=>exact⟨_,_,_,_,rfl,rfl,h1.l,h2.l,by rw[r1.length,r2.length];exact z,λp hp=>⟨_,E.cons_own hp (r1.append r2),h p⟩⟩
theorem bY:U4 X (binaryOp .Add) de:=by
 intro ab s σ H Pr Z x y v u dx dy k4 I rx ry E px py ho;rcases JJ ho with h|h|h
 . exact M4 ab s σ H Pr Z x y v u dx dy k4 I rx ry E px py h
 . exact M5 ab s σ H Pr Z x y v u dx dy k4 I rx ry E px py h
 . exact M6 ab s σ H Pr Z x y v u dx dy k4 I rx ry E px py h
theorem CP{f:Value->Value->Sem Value}{C:Int->Int->Prop}{g:Int->Int->V}{gd:Int->Int->D}(h:Ux X f (rI C g))(hg:∀K H i j,UW K H (g i j) (gd i j)) :
  U4 X f (λx y k=>∃i j,x=.int i/\y=.int j/\C i j/\k (.d (gd i j))) :=
 U4.of h λσ H Pr Z x y dx dy k4 E px py ⟨i,j,e1,e2,z,h⟩=>by subst e1 e2;obtain rfl:=UW.inv_int px;obtain rfl:=UW.inv_int py;exact⟨i,j,rfl,rfl,z,_,E.cons_d (hg _ _ _ _),h⟩
theorem tH{f:Value->Value->Sem Value}{g:Int->Int->V}{gd:Int->Int->D}(h:Ux X f (UA g))(hg:∀K H i j,UW K H (g i j) (gd i j)) :
  U4 X f (λx y k=>∃i j,x=.int i/\y=.int j/\k (.d (gd i j))) :=
 U4.of h λσ H Pr Z x y dx dy k4 E px py ⟨i,j,e1,e2,h⟩=>by subst e1 e2;obtain rfl:=UW.inv_int px;obtain rfl:=UW.inv_int py;exact⟨i,j,rfl,rfl,_,E.cons_d (hg _ _ _ _),h⟩
theorem eQ:U4 X (binaryOp .Sub) iu:=(tH Pb (gd:=λi j=>.int (i-j)) λ_ _ _ _=>.int _).imp λx y k h=>by
 unfold iu at h;split at h
 . exact⟨_,_,rfl,rfl,h⟩
 . exact h.elim
theorem PN:U4 X (binaryOp .Mult) (λx y k=>∃i j,x=.int i/\y=.int j/\(bB i/\bB j)/\k (.d (.int (i*j)))):=CP M0 (gd:=λi j=>.int (i*j)) λ_ _ _ _=>.int _
def bf:U3:=λx y k=>match x,y with
 |.int i,.int j=>bB i/\bB j/\k (.d (.int (i*j)))
 |_,_=>False
theorem aU:U4 X (binaryOp .Mult) bf:=PN.imp λx y k h=>by
 unfold bf at h;split at h
 . exact⟨_,_,rfl,rfl,⟨h.1,h.2.1⟩,h.2.2⟩
 . exact h.elim
theorem mr:U4 X (binaryOp .FloorDiv) p5:=(CP M1 (gd:=λi j=>.int (i.fdiv j)) λ_ _ _ _=>.int _).imp λx y k h=>by
 unfold p5 at h;split at h
 . exact⟨_,_,rfl,rfl,⟨h.1,h.2.1⟩,h.2.2⟩
 . exact h.elim
theorem cY:U4 X (binaryOp .Mod) fU:=(CP MC (gd:=λi j=>.int (i.fmod j)) λ_ _ _ _=>.int _).imp λx y k h=>by
 unfold fU at h;split at h
 . exact⟨_,_,rfl,rfl,h.1,h.2⟩
 . exact h.elim
theorem F8:U4 X (binaryOp .Pow) Eh:=(CP Pc (gd:=λi j=>.int (i^j.toNat)) λ_ _ _ _=>.int _).imp λx y k h=>by
 unfold Eh at h;split at h
 . exact⟨_,_,rfl,rfl,⟨h.1,h.2.1,h.2.2.1⟩,h.2.2.2⟩
 . exact h.elim
theorem oG:U4 X (compareOp .Lt) wq:=(tH Pe (gd:=λi j=>.bl (decide (i<j))) λ_ _ _ _=>.bl _).imp λx y k h=>by
 unfold wq at h;split at h
 . exact⟨_,_,rfl,rfl,h⟩
 . exact h.elim
theorem Rw:U4 X (compareOp .LtE) MZ:=(tH Pf (gd:=λi j=>.bl (decide (i<=j))) λ_ _ _ _=>.bl _).imp λx y k h=>by
 unfold MZ at h;split at h
 . exact⟨_,_,rfl,rfl,h⟩
 . exact h.elim
theorem PP:U4 X (compareOp .Gt) PH:=(tH Rm (gd:=λi j=>.bl (decide (j<i))) λ_ _ _ _=>.bl _).imp λx y k h=>by
 unfold PH at h;split at h
 . exact⟨_,_,rfl,rfl,h⟩
 . exact h.elim
theorem PQ:U4 X (compareOp .GtE) PJ:=(tH Rn (gd:=λi j=>.bl (decide (j<=i))) λ_ _ _ _=>.bl _).imp λx y k h=>by
 unfold PJ at h;split at h
 . exact⟨_,_,rfl,rfl,h⟩
 . exact h.elim
mutual
noncomputable def Ve:D->PyData
 |.non=>.none
 |.bl b=>.bool b
 |.int i=>.int i
 |.str x=>.str x
 |.tup xs=>.tuple (gy xs)
 |.lst xs=>.list (gy xs)
 |.dct _=>.dict []
 |.exc _ _ _=>.dict []
 |.fn _ _=>.dict []
 |.dk _ _=>.dict []
 |.gf _=>.dict []
noncomputable def gy:List D->List PyData
 |[]=>[]
 |x::xs=>Ve x::gy xs
end
noncomputable def Vf(x y:D):Bool:=PyData.eqv (Ve x) (Ve y)
def gE(x:D):Prop:=SeqAt.shaped (Ve x)=true
def rT:U3:=λx y k=>gE x/\gE y/\k (.d (.bl (Vf x y)))
def Jl:U3:=λx y k=>gE x/\gE y/\k (.d (.bl (!Vf x y)))
mutual
theorem oH{ab:List (Addr×Obj)}{σ:St}{H:Hp}{s:Shared}(I:Uh X ab σ H s):∀(d:D)(x:V)(u:Value),cJ x u->UW X.K H x d->(Ve d).canLay0=true->∃as,Reads s.heap u (Ve d) as
 |.non,_,_,rv,r,_=>by obtain rfl:=UW.inv_non r;cases rv;exact⟨_,.none⟩
 |.bl b,_,_,rv,r,_=>by obtain rfl:=UW.inv_bl r;cases rv;exact⟨_,.bool b⟩
 |.int i,_,_,rv,r,_=>by obtain rfl:=UW.inv_int r;obtain⟨t,rfl⟩:=rv;exact⟨_,.int i t⟩
 |.str z,_,_,rv,r,_=>by obtain rfl:=UW.inv_str r;obtain⟨t,rfl⟩:=rv;exact⟨_,.str z t⟩
 | .tup xs,_,_,rv,r,hc=>by
  obtain⟨_,_,rfl,h,rs⟩:=UW.inv_tup r
  cases rv
  obtain⟨its,vs,⟨o,e,c,n,d⟩,_⟩:=I.tuple h
  obtain⟨as,ra⟩:=m8 I xs _ _ vs rs hc
  exact⟨_,.tuple (xs:=gy xs) e c d (by simpa using ra)⟩
 | .lst xs,_,_,rv,r,hc=>by
  obtain⟨_,_,rfl,h,rs⟩:=UW.inv_lst r
  cases rv
  obtain⟨its,vs,⟨o,n,e,c,_,d⟩,_⟩:=I.list h.l
  obtain⟨as,ra⟩:=m8 I xs _ _ vs rs hc
  exact⟨_,.list (xs:=gy xs) e c d (by simpa using ra)⟩
 |.dct _,_,_,_,_,hc=>nomatch hc
 |.exc _ _ _,_,_,_,_,hc=>nomatch hc
 |.fn _ _,_,_,_,_,hc=>nomatch hc
 |.dk _ _,_,_,_,_,hc=>nomatch hc
 |.gf _,_,_,_,_,hc=>nomatch hc
theorem m8{ab:List (Addr×Obj)}{σ:St}{H:Hp}{s:Shared}(I:Uh X ab σ H s):∀(ds:List D)(vs:List V)(us:List Value),cC vs us->bX X.K H vs ds->PyData.canLayAll0 (gy ds)=true->∃as,ReadsAll s.heap us (gy ds) as
 |[],_,_,rv,r,_=>by cases r;cases rv;exact⟨_,.nil⟩
 | d::ds,_,_,rv,r,hc=>by
  have hc':(Ve d).canLay0=true/\PyData.canLayAll0 (gy ds)=true:=by simpa[gy,PyData.canLayAll0]using hc
  cases r with
  | cons r0 rs =>
   cases rv with
   | cons v0 vs =>
    obtain⟨as,ra⟩:=oH I d _ _ v0 r0 hc'.1
    obtain⟨bs,rb⟩:=m8 I ds _ _ vs rs hc'.2
    exact⟨_,.cons ra rb⟩
end
theorem gF(hu:X.A.units+64<cLine):U4 X (compareOp .Eq) rT:=by intro ab s σ H Pr Z x y v u dx dy k4 I rx ry E px py ⟨h1,h2,ho⟩;obtain⟨as,ra⟩:=oH I dx x v rx px (SeqAt.canLay_of_shaped h1);obtain⟨bs,rb⟩:=oH I dy y u ry py (SeqAt.canLay_of_shaped h2);exact eq_dataH ra rb h1 h2 hu ⟨.bl _,H,_,I,rfl,E.cons_d (.bl _),ho⟩
theorem Bg(hu:X.A.units+64<cLine):U4 X (compareOp .NotEq) Jl:=by intro ab s σ H Pr Z x y v u dx dy k4 I rx ry E px py ⟨h1,h2,ho⟩;obtain⟨as,ra⟩:=oH I dx x v rx px (SeqAt.canLay_of_shaped h1);obtain⟨bs,rb⟩:=oH I dy y u ry py (SeqAt.canLay_of_shaped h2);exact ne_dataH ra rb h1 h2 hu ⟨.bl _,H,_,I,rfl,E.cons_d (.bl _),ho⟩
theorem PR:U4 X (compareOp .Is) (λx y k=>y=.non/\k (.d (.bl (match x with | .non=>true|_=>false)))):=U4.of Pg λσ H Pr Z x y dx dy k4 E px py ⟨e,h⟩=>by subst e;obtain rfl:=UW.inv_non py;refine⟨rfl,_,E.cons_d (.bl _),?_⟩;cases px<;>exact h
theorem M7:U4 X (compareOp .IsNot) (λx y k=>y=.non/\k (.d (.bl (match x with | .non=>false|_=>true)))):=U4.of MD λσ H Pr Z x y dx dy k4 E px py ⟨e,h⟩=>by subst e;obtain rfl:=UW.inv_non py;refine⟨rfl,_,E.cons_d (.bl _),?_⟩;cases px<;>exact h
def aJ:U3:=λx y k=>match x,y with
 |.lst xs,.int i=>∃v,UJ xs i=some v/\k (.d v)
 |.tup xs,.int i=>∃v,UJ xs i=some v/\k (.d v)
 |.str z,.int i=>z.length<=sizeLine/\∃c,UJ z.cps.toList i=some c/\k (.d (.str ⟨#[c]⟩))
 |_,_=>False
theorem Bh{K:W.Frag}{H:Hp}{vs:List V}{xs:List D}(r:bX K H vs xs){i:Int}{x:D}(h:UJ xs i=some x):∃v,UJ vs i=some v/\UW K H v x:=by
 unfold UJ at h ⊢;rw[r.length]
 cases q:UI xs.length i with
 |none=>rw[q]at h;cases h
 | some j =>
  rw[q]at h;exact r.get h
theorem M8{x y:D}{k:L->Prop}(h:aJ x y k):∃i,y=.int i/\((∃xs,x=.lst xs/\∃v,UJ xs i=some v/\k (.d v))∨(∃xs,x=.tup xs/\∃v,UJ xs i=some v/\k (.d v))∨∃z,x=.str z/\z.length<=sizeLine/\∃c,UJ z.cps.toList i=some c/\k (.d (.str ⟨#[c]⟩))):=by
 unfold aJ at h;split at h
 . exact⟨_,rfl,.inl ⟨_,rfl,h⟩⟩
 . exact⟨_,rfl,.inr (.inl ⟨_,rfl,h⟩)⟩
 . exact⟨_,rfl,.inr (.inr ⟨_,rfl,h⟩)⟩
 . exact h.elim
theorem av(ha:PL X a ta)(hb:PL X b tb)(hs:A7 b):PL X (.Subscript a b pos) (ax aJ ta tb):=by
 intro ab s σ H Pr Z k4 I E h;refine Subscript_ (two (R:=λdx dy Z2=>aJ dx dy λr=>k4 r Z2) ha hb I E h λv u s2 x y H2 dx dy Z2 I2 r1 r2 E2 p1 p2 q=>?_);have Uo:∀(Q:VK),(∀z H',Q z H'->∃r,aI X.K Pr H' (some z::σ) (r::Z2)/\k4 r Z2)->∀w s',EP X ab σ Q w s'->EL X ab σ Pr k4 w s':=λQ hQ w s' h_=>h_.on λz H' I' rz q=>by obtain⟨r,E',p⟩:=hQ z H' q;exact⟨z,H',r,Z2,I',rz,E',p⟩
 have Eσ:=E2.tail.tail;obtain⟨i,rfl,⟨xs,rfl,z,hz',q⟩|⟨xs,rfl,z,hz',q⟩|⟨z,rfl,hz,c,hc,q⟩⟩:=M8 q
 . obtain rfl:=UW.inv_int p2;obtain⟨_,_,rfl,hz,rs⟩:=UW.inv_lst p1;obtain⟨w,hw,rw⟩:=Bh rs hz';exact Ul (FL a b ab s2 σ H2 _ _ v u (λz H'=>z=w/\H'=H2) I2 r1 r2 ⟨_,_,i,w,rfl,rfl,hz.l,hw,rfl,rfl⟩ (hs _ _)) (Uo _ λz H' ⟨e1,e2⟩=>by subst e1 e2;exact⟨_,Eσ.cons_d rw,q⟩)
 . obtain rfl:=UW.inv_int p2;obtain⟨_,_,rfl,hz,rs⟩:=UW.inv_tup p1;obtain⟨w,hw,rw⟩:=Bh rs hz';exact Ul (Pk a b ab s2 σ H2 _ _ v u (λz H'=>z=w/\H'=H2) I2 r1 r2 ⟨_,_,i,w,rfl,rfl,hz,hw,rfl,rfl⟩ (hs _ _)) (Uo _ λz H' ⟨e1,e2⟩=>by subst e1 e2;exact⟨_,Eσ.cons_d rw,q⟩)
 . obtain rfl:=UW.inv_int p2;obtain rfl:=UW.inv_str p1;exact Ul (Pl a b ab s2 σ H2 _ _ v u (λz H'=>z=.str ⟨#[c]⟩/\H'=H2) I2 r1 r2 ⟨z,i,c,rfl,rfl,hz,hc,rfl,rfl⟩ (hs _ _)) (Uo _ λz H' ⟨e1,e2⟩=>by subst e1 e2;exact⟨_,Eσ.cons_d (.str _),q⟩)
end
section
variable{X:Cx}{e a b c:Expr}{es:List Expr}{pos p:Pos}{ta:W L}{x:Str}{bs:List (Option Nat)}{t:W (List L)}{id T:String}
abbrev Vg:=List D->(L->Prop)->Prop
def g8(X:Cx)(f:Value)(op:Vg):Prop :=
 ∀(ab:List (Addr×Obj))(s:Shared)(σ:St)(H Pr:Hp)(Z:Ev)(vs:List V)(us:List Value)(ds:List D)(k4:L->Prop),Uh X ab σ H s->cC vs us->aI X.K Pr H σ Z->bX X.K H vs ds->op ds k4 ->
  wpAny (model X.prog X.w) X.A (call f us) (λw s'=>∃z H' r,Uh X ab σ H' s'/\cJ z w/\aI X.K Pr H' (some z::σ) (r::Z)/\k4 r) X.xe s
theorem g8.of{f:Value}{r:List V->Hp->VK->Prop}{op:Vg}(h:kj X f r)(q:∀σ H Pr Z vs ds k4,aI X.K Pr H σ Z->bX X.K H vs ds->op ds k4->r vs H λz H'=>∃r,aI X.K Pr H' (some z::σ) (r::Z)/\k4 r):g8 X f op :=
 λab s σ H Pr Z vs us ds k4 I rv E ps ho=>Ul (h ab s σ H vs us _ I rv (q σ H Pr Z vs ds k4 E ps ho)) λw s' ⟨z,H',I',rz,r,E',p⟩=>⟨z,H',r,I',rz,E',p⟩
def br(op:Vg)(t:W (List L)):W L:=λZ k4=>t Z λls Z1=>OW ls λds=>op ds λr=>k4 r Z1
theorem aY(hc:g8 X (.builtin id) op)(hg:Gl X x)(hm:X.mg x=none)(hv:bootBuiltins x=some (.builtin id))(ha:UY X (e::es) bs t) (hn:x≠"__name__":=by decide) (hdb:adf x:=by decide)
  (he:starEach (e::es) X.env=(false,eval e X.env)::starEach es X.env:=by rfl) (hpl:(backTo pos (starEach es X.env)).any (·.1)=false:=by rfl):PL X (.Call (.Name x p) (e::es) [] pos) (br op t):=by
 intro ab s σ H Pr Z k4 I E h;refine aaI (oB I hg hm hv ?_ hn hdb);refine PyProof.Rows.callWith_builtin1 (Ul (ha pos ab s σ H Pr Z _ I E h) λus s1 h_=>h_.on λvs H1 ls Z1 I1 r1 hl hb E1 _ q1=>?_) he hpl;obtain⟨ds,rfl,q2⟩:=tD q1;have b0:vs.length=ds.length:=by simpa using hl
 exact Ul (hc ab s1 σ H1 Pr Z1 vs us ds _ I1 r1 (E1.drop (by simp[b0])) (tE b0 E1) q2) λw s2 ⟨z,H2,r,I2,rz,E2,q⟩=>⟨z,H2,r,Z1,I2,rz,E2,q⟩
theorem iU(hc:g8 X (.type T) op)(hg:Gl X x)(hm:X.mg x=none)(hv:bootBuiltins x=some (.type T))(ha:UY X (e::es) bs t) (hn:x≠"__name__":=by decide) (hdb:adf x:=by decide)
  (he:starEach (e::es) X.env=(false,eval e X.env)::starEach es X.env:=by rfl) (hpl:(backTo pos (starEach es X.env)).any (·.1)=false:=by rfl):PL X (.Call (.Name x p) (e::es) [] pos) (br op t):=by
 intro ab s σ H Pr Z k4 I E h;refine aaI (oB I hg hm hv ?_ hn hdb);refine aan (Ul (ha pos ab s σ H Pr Z _ I E h) λus s1 h_=>h_.on λvs H1 ls Z1 I1 r1 hl hb E1 _ q1=>?_) he hpl;obtain⟨ds,rfl,q2⟩:=tD q1;have b0:vs.length=ds.length:=by simpa using hl
 exact Ul (hc ab s1 σ H1 Pr Z1 vs us ds _ I1 r1 (E1.drop (by simp[b0])) (tE b0 E1) q2) λw s2 ⟨z,H2,r,I2,rz,E2,q⟩=>⟨z,H2,r,Z1,I2,rz,E2,q⟩
def dY:Vg:=λds k=>match ds with
 |[.lst xs]=>k (.d (.int xs.length))
 |[.tup xs]=>k (.d (.int xs.length))
 |[.str x]=>x.length<=sizeLine/\k (.d (.int x.length))
 |_=>False
theorem tI{K:W.Frag}{H:Hp}{vs:List V}{d:D}(r:bX K H vs [d]):∃v,vs=[v]/\UW K H v d:=by
 cases r with
 |cons h t=>cases t;exact⟨_,rfl,h⟩
theorem PU{K:W.Frag}{H:Hp}{vs:List V}{d d':D}(r:bX K H vs [d,d']):∃v w,vs=[v,w]/\UW K H v d/\UW K H w d':=by
 cases r with
 | cons h t=>cases t with
  |cons h' t=>cases t;exact⟨_,_,rfl,h,h'⟩
theorem dU:g8 X (.builtin "len") dY:=g8.of (rh.or zd) λσ H Pr Z vs ds k4 E ps h=>by
 unfold dY at h;split at h
 . obtain⟨v,rfl,r⟩:=tI ps;obtain⟨_,_,rfl,hz,rs⟩:=UW.inv_lst r;exact .inl ⟨_,_,rfl,.inl hz.l,_,E.cons_d (.int _),by rw[rs.length];exact h⟩
 . obtain⟨v,rfl,r⟩:=tI ps;obtain⟨_,_,rfl,hz,rs⟩:=UW.inv_tup r;exact .inl ⟨_,_,rfl,.inr hz,_,E.cons_d (.int _),by rw[rs.length];exact h⟩
 .
  obtain⟨v,rfl,r⟩:=tI ps
  cases r with
  |str z=>exact .inr ⟨_,rfl,h.1,_,E.cons_d (.int _),h.2⟩
 . exact h.elim
def Ei:Vg:=λds k=>match ds with
 |[.int i]=>k (.d (.int (if i<0 then -i else i)))
 |_=>False
theorem Ga:g8 X (.builtin "abs") Ei:=g8.of Jt λσ H Pr Z vs ds k4 E ps h=>by
 unfold Ei at h;split at h
 .
  obtain⟨v,rfl,r⟩:=tI ps
  cases r with
  |int i=>exact⟨_,rfl,_,E.cons_d (.int _),h⟩
 . exact h.elim
def Gb:Vg:=λds k=>match ds with
 |[.int i,.int j]=>k (.d (.int (if j > i then j else i)))
 |_=>False
def Bi:Vg:=λds k=>match ds with
 |[.int i,.int j]=>k (.d (.int (if j<i then j else i)))
 |_=>False
theorem LM(hc:X.calm=true):g8 X (.builtin "max") Gb:=g8.of (FF hc) λσ H Pr Z vs ds k4 E ps h=>by
 unfold Gb at h;split at h
 .
  obtain⟨v,w,rfl,r,r'⟩:=PU ps
  cases r with
  | int i=>cases r' with
   |int j=>exact⟨_,_,rfl,_,E.cons_d (.int _),h⟩
 . exact h.elim
theorem CQ(hc:X.calm=true):g8 X (.builtin "min") Bi:=g8.of (FG hc) λσ H Pr Z vs ds k4 E ps h=>by
 unfold Bi at h;split at h
 .
  obtain⟨v,w,rfl,r,r'⟩:=PU ps
  cases r with
  | int i=>cases r' with
   |int j=>exact⟨_,_,rfl,_,E.cons_d (.int _),h⟩
 . exact h.elim
def Gc:Vg:=λds k=>match ds with
 |[.int i]=>k (.d (.int i))
 |[.bl b]=>k (.d (.int (if b then 1 else 0)))
 |_=>False
theorem LN:g8 X (.type "int") Gc:=g8.of FH λσ H Pr Z vs ds k4 E ps h=>by
 unfold Gc at h;split at h
 .
  obtain⟨v,rfl,r⟩:=tI ps
  cases r with
  |int i=>exact .inl ⟨_,rfl,_,E.cons_d (.int _),h⟩
 .
  obtain⟨v,rfl,r⟩:=tI ps
  cases r with
  |bl i=>exact .inr ⟨_,rfl,_,E.cons_d (.int _),h⟩
 . exact h.elim
def tJ:Vg:=λds k=>match ds with
 |[.lst xs]=>∀a,k (.own a xs)
 |[.tup xs]=>∀a,k (.own a xs)
 |_=>False
theorem xj:g8 X (.type "list") tJ:=g8.of ze λσ H Pr Z vs ds k4 E ps h=>by
 unfold tJ at h;split at h
 . obtain⟨v,rfl,r⟩:=tI ps;obtain⟨_,_,rfl,hz,rs⟩:=UW.inv_lst r;exact⟨_,_,rfl,.inl hz.l,λl hl=>⟨_,E.cons_own hl rs,h l⟩⟩
 . obtain⟨v,rfl,r⟩:=tI ps;obtain⟨_,_,rfl,hz,rs⟩:=UW.inv_tup r;exact⟨_,_,rfl,.inr hz,λl hl=>⟨_,E.cons_own hl rs,h l⟩⟩
 . exact h.elim
noncomputable def Vh:D->Value
 |.non=>.type "NoneType"
 |.bl _=>.type "bool"
 |.int _=>.type "int"
 |.str _=>.type "str"
 |.tup _=>.type "tuple"
 |.lst _=>.type "list"
 |.dct _=>.type "dict"
 |.exc _ _ _=>.none
 |.fn _ _=>.type "function"
 |.dk _ _=>.type "dict"
 |.gf _=>.type "function"
def Vi(K:W.Frag)(d:D)(t:Value):Prop:=match d with
 |.exc c _ _=>∃C,t=.ref C/\we K c C=true
 |d=>t=Vh d
theorem JK{ab:List (Addr×Obj)}{σ:St}{H:Hp}{s:Shared}{a:Addr}{o:Obj}{u:HO}{C:Addr}{ns:List Str}{vs:List V}(I:Uh X ab σ H s)(h:H a=some (.frz o u))(hc:o.cls=.ref C)(hn:W.notCls o=true)(hf:XF H o.dict ns vs):∃od,W.InstAt s.heap a o C od/\∀d,o.dict=some d->∃q,od=some q/\s.heap.get? d=some q:=by
 have e:=(show s.heap.get? a=some o/\_ from I.hok a _ h).1;rcases hf with⟨_,_,z⟩|⟨d,od,z,h2,_⟩
 . exact⟨none,⟨e,hc,hn,by rw[z];trivial⟩,λd q=>by rw[z]at q;cases q⟩
 . have e2:=(show s.heap.get? d=some od/\_ from I.hok d _ h2).1;exact⟨some od,⟨e,hc,hn,by rw[z];exact e2⟩,λd' q=>by rw[z]at q;cases q;exact⟨od,rfl,e2⟩⟩
theorem JL{ab:List (Addr×Obj)}{σ:St}{H:Hp}{s:Shared}{x:V}{u c:Value}{d:D}{b:Bool}{Q:Value->Shared->Prop}{A:Around}{E:Value->Shared->Prop}(I:Uh X ab σ H s)(rx:cJ x u)(r:UW X.K H x d)(e:∀t,Vi X.K d t->W.kitOne X.K t c=some b)(h:∀tk,Q (.bool b) {s with toks:=tk}) :
  wpAny (model X.prog X.w) A (call (.builtin "isinstance") [u,c]) Q E s:=by
 cases r with
 |non=>cases rx;exact ZZ W.kitx_none I.kIn True.intro (e _ rfl) (λz=>nomatch z) h
 |bl y=>cases rx;exact ZZ W.kitx_bool I.kIn True.intro (e _ rfl) (λz=>nomatch z) h
 |int i=>obtain⟨t,rfl⟩:=rx;exact ZZ W.kitx_int I.kIn True.intro (e _ rfl) (λz=>nomatch z) h
 |str y=>obtain⟨t,rfl⟩:=rx;exact ZZ W.kitx_str I.kIn True.intro (e _ rfl) (λz=>nomatch z) h
 | lst hz rs =>
  cases rx;obtain⟨its,_,⟨o,n,e1,c1,_,_⟩,_⟩:=I.list hz.l;exact ZZ W.kitx_list I.kIn ⟨o,e1,c1⟩ (e _ rfl) (λz=>nomatch z) h
 | tup hz rs =>
  cases rx;obtain⟨its,_,⟨o,e1,c1,_⟩,_⟩:=I.tuple hz;exact ZZ W.kitx_tuple I.kIn ⟨o,e1,c1⟩ (e _ rfl) (λz=>nomatch z) h
 | @dct a o kvs hz =>
  cases rx;obtain⟨_,_,_,vs,_,o',es,ep,h1,h2,_⟩:=(show ip X.prog X.w H s.heap a (.frz o (.dK kvs))from I.hok a _ hz);exact ZZ W.kitx_dict I.kIn ⟨o',h1,h2.1⟩ (e _ rfl) (λz=>nomatch z) h
 | @exc a o u cc C ns vs ds h1 hv hc hn hs hq hf rs =>
  cases rx;obtain⟨od,Ia,_⟩:=JK I h1 hc hn hf;obtain⟨LL,cd,S⟩:=zk hs;exact ZZ (JA S) I.kIn ⟨_,_,Ia⟩ (e _ ⟨C,rfl,hs⟩) (λz=>nomatch z) h
 | fn hl hf hq hc hz hd hv hm r =>
  cases rx;exact ZZ FR I.kIn ⟨_,(I.hok _ _ hf).1,rfl⟩ (e _ rfl) (λz=>nomatch z) h
 | @dk a' o kvs ds hz rs =>
  cases rx;obtain⟨_,_,_,vs,_,o',es,ep,h1,h2,_⟩:=(show ip X.prog X.w H s.heap a' (.frz o (.dK kvs))from I.hok a' _ hz);exact ZZ W.kitx_dict I.kIn ⟨o',h1,h2.1⟩ (e _ rfl) (λz=>nomatch z) h
 | gf hx hl hk =>
  cases rx;exact ZZ FR I.kIn ⟨_,I.kIn _ _ hl,rfl⟩ (e _ rfl) (λz=>nomatch z) h
noncomputable def p6(T:String):D->Bool
 |.non=>T == "NoneType"
 |.bl _=>T == "bool" ||T == "int"
 |.int _=>T == "int"
 |.str _=>T == "str"
 |.tup _=>T == "tuple"
 |.lst _=>T == "list"
 |.dct _=>T == "dict"
 |.exc _ _ _=>(["ValueError","Exception","BaseException","object"]:List String).contains T
 |.fn _ _=>T == "function"
 |.dk _ _=>T == "dict"
 |.gf _=>T == "function"
def xk(T:String):D->(L->Prop)->Prop:=λd k=>k (.d (.bl (p6 T d)))
theorem wu{T:String}{y:Str}{py:Pos}(hT:∀ K d t,Vi K d t->W.kitOne K t (.type T)=some (p6 T d)) (hg:Gl X "isinstance") (hm:X.mg "isinstance"=none) (hy:Gl X y) (hmy:X.mg y=none) (hby:bootBuiltins y=some (.type T)) (ha:PL X a ta)
  (hny:y≠"__name__":=by decide) (hdy:adf y:=by decide)
  (h1:starEach [a,.Name y py] X.env=(false,eval a X.env)::starEach [.Name y py] X.env:=by rfl) (h2:starEach [.Name y py] X.env=[(false,eval (.Name y py) X.env)]:=by rfl) (hpl:(backTo pos (starEach [.Name y py] X.env)).any (·.1)=false:=by rfl) :
  PL X (.Call (.Name "isinstance" p) [a,.Name y py] [] pos) (U8 (xk T) ta):=by
 have cr:kj X (.builtin "isinstance") (λxs H Q=>∃ x d,xs=[x,.ty T]/\UW X.K H x d/\Q (.bl (p6 T d)) H):=by intro ab s σ H xs us Q I rv h;obtain⟨x,d,rfl,r,q⟩:=h;obtain⟨u,w,rfl,r1,r2⟩:=ME rv;cases r2;exact JL I r1 r (hT _ d) λtk=>⟨.bl _,H,I.tok _,rfl,q⟩
 refine PL.of (CM cr hg hm y_ (gA (ay ha).pe (gA (Mz hy hmy hby (v:=.ty T) rfl hny hdy) rg h2) h1) (he:=h1) (hpl:=hpl)) λσ H Pr Z k4 E h=>?_
 refine⟨Pr,Z,λr Z1=>match r with
  |.d x=>xk T x λr=>k4 r Z1
  |_=>False,E,h,λv H' r Z' E' p=>?_⟩
 cases r with
 | d x =>
  obtain⟨_,e1,p1⟩:=E'.head_d;cases e1;exact⟨_,x,rfl,p1,_,Z',E'.tail.cons_d (.bl _),p⟩
 |_=>exact p.elim
end
section
variable{X:Cx}{e a b:Expr}{pos p apos cpos:Pos}{tb te:W L}{x:Str}
theorem aI.updOwn{K:W.Frag}{Pr H:Hp}{σ:St}{Z:Ev}{i:Nat}{l:Addr}{xs ys:List D}{vs:List V}(E:aI K Pr H σ Z)(q:Z[i]?=some (.own l xs))(r:bX K H vs ys):aI K Pr (TY H l (.lst vs)) σ (Z.set i (.own l ys)):=by obtain⟨sv,hs,rfl,_⟩:=E.slot q;have hi:i<Z.length:=(YA.mp q).1;have E1:=(E.out q).write r;have E2:=E1.back (i:=i) (by simp[hi]) hs;rw[aaC]at E2;exact E2
theorem aI.ownAt{K:W.Frag}{Pr H:Hp}{σ:St}{Z:Ev}{i:Nat}{l:Addr}{xs:List D}(E:aI K Pr H σ Z)(q:Z[i]?=some (.own l xs)):σ[i]?=some (some (.ref l))/\∃vs,H l=some (.lst vs)/\bX K H vs xs:=by obtain⟨sv,hs,rfl,r⟩:=E.slot q;exact⟨hs,r⟩
def AX(i:Nat)(Z:Ev)(k:Addr->List D->Prop):Prop:=match Z[i]? with
 |some (.own a xs)=>k a xs
 |_=>False
theorem jf{i:Nat}{Z:Ev}{k:Addr->List D->Prop}(h:AX i Z k):∃a xs,Z[i]?=some (.own a xs)/\k a xs:=by
 unfold AX at h
 cases q:Z[i]? with
 |none=>rw[q]at h;exact h.elim
 | some l =>
  rw[q]at h
  cases l with
  |own a xs=>exact⟨a,xs,rfl,h⟩
  |un=>exact h.elim
  |d x=>exact h.elim
  |bx _ _=>exact h.elim
  |dic _ _=>exact h.elim
def JM(i:Nat)(te:W L):W L:=λZ k4=>AX i Z λ_ _=>te Z λr Z1=>U2 r λy=>AX i Z1 λa xs=>xs.length<sizeLine/\k4 (.d .non) (Z1.set i (.own a (xs++[y])))
theorem gG(i:Nat)(he:PL X e te)(hN:X.N[i]?=some x:=by rfl)(hv:Ue X.env.scope x:=by first | exact Or.inl rfl | exact Or.inr (Or.inl rfl) | exact Or.inr (Or.inr rfl)) (hd:adf x:=by decide)
  (hcd:adg x:=by decide) (hs1:starEach [e] X.env=[(false,eval e X.env)]:=by rfl) (hbase:attributeBase (.Name x p) "append" X.env (eval (.Name x p) X.env)=eval (.Name x p) X.env:=by rfl)
  (hfew:((backTo cpos (starEach [e] X.env)).all (λx=>!x.1) && (backToKw cpos (keywordEach [] X.env)).all (λx=>x.1.isSome)
   && decide (([e]).length+([]:List Keyword).length+(if([]:List Keyword).isEmpty then 0 else 1)<30))=true:=by rfl)
  (hline:(apos.endLine == cpos.line)=true:=by rfl) (hplain:(backTo cpos (starEach ([]:List Expr) X.env)).any (·.1)=false:=by rfl) :
  PL X (.Call (.Attribute (.Name x p) "append" apos) [e] [] cpos) (JM i te):=by
 refine PL.of (MJ PySem.F.plainAttrs_list PySem.F.slot_list_append PySem.F.type_list_append zh (jY hN hv hd hcd) (gA (ay he).pe rg hs1) (hbase:=hbase) (hfew:=hfew) (hline:=hline) (hs:=hs1) (hplain:=hplain)) λσ H Pr Z k4 E h=>?_;obtain⟨l,xs0,q0,h⟩:=jf h;obtain⟨hσ,vs0,hl0,_⟩:=E.ownAt q0
 refine⟨.ref l,hσ,.inl ⟨rfl,vs0,Up.of hl0⟩,Pr,Z,λr Z1=>match r with
  |.d y=>AX i Z1 λa xs=>xs.length<sizeLine/\k4 (.d .non) (Z1.set i (.own a (xs++[y])))
  |_=>False,E,h,λv H' r Z' E' pp=>?_⟩
 cases r with
 | d y =>
  obtain⟨l',xs,q,b0,pp⟩:=jf pp;obtain⟨hσ',vs,hl,r⟩:=E'.tail.ownAt q;rw[hσ]at hσ';cases hσ';obtain⟨_,e1,p1⟩:=E'.head_d;cases e1;exact⟨l,vs,v,rfl,rfl,hl,by rw[r.length];exact b0,_,_,(E'.tail.updOwn q (r.append (.cons p1 .nil))).cons_d .non,pp⟩
 |_=>exact pp.elim
def AY(i:Nat)(tb:W L):W L:=λZ k4=>AX i Z λ_ _=>tb Z λr Z1=>pZ r λj=>AX i Z1 λ_ xs=>∃y,UJ xs j=some y/\k4 (.d y) Z1
theorem hG(i:Nat)(hb:PL X b tb)(hs:A7 b)(hN:X.N[i]?=some x:=by rfl)(hv:Ue X.env.scope x:=by first | exact Or.inl rfl | exact Or.inr (Or.inl rfl) | exact Or.inr (Or.inr rfl)) (hd:adf x:=by decide)
  (hcd:adg x:=by decide):PL X (.Subscript (.Name x p) b pos) (AY i tb):=by
 refine PL.of (Rq FL (jY hN hv hd hcd) hb.pe hs) λσ H Pr Z k4 E h=>?_;obtain⟨l,xs0,q0,h⟩:=jf h;obtain⟨hσ,vs0,hl0,_⟩:=E.ownAt q0;refine⟨.ref l,hσ,Pr,Z,_,E,h,λv H' r Z' E' pp=>?_⟩;obtain⟨j,rfl,pp⟩:=fz pp;obtain⟨l',xs,q,y,hy,pp⟩:=jf pp;obtain⟨hσ',vs,hl,r⟩:=E'.tail.ownAt q;rw[hσ]at hσ';cases hσ';obtain⟨_,e1,p1⟩:=E'.head_d;cases e1;obtain rfl:=UW.inv_int p1;obtain⟨w,hw,rw⟩:=Bh r hy;exact⟨l,vs,j,w,rfl,rfl,Up.of hl,hw,_,Z',E'.tail.cons_d rw,pp⟩
def M9(i:Nat):W L:=λZ k4=>AX i Z λ_ xs=>k4 (.d (.int xs.length)) Z
theorem Na(i:Nat) (hg:Gl X "len") (hm:X.mg "len"=none) (hN:X.N[i]?=some x:=by rfl) (hv:Ue X.env.scope x:=by first | exact Or.inl rfl | exact Or.inr (Or.inl rfl) | exact Or.inr (Or.inr rfl)) (hd:adf x:=by decide)
  (hcd:adg x:=by decide) (h1:starEach [.Name x p] X.env=[(false,eval (.Name x p) X.env)]:=by rfl) (hpl:(backTo pos (starEach ([]:List Expr) X.env)).any (·.1)=false:=by rfl) :
  PL X (.Call (.Name "len" apos) [.Name x p] [] pos) (M9 i):=by
 refine PL.of (CM rh hg hm PySem.boot_len (gA (jY hN hv hd hcd) rg h1) (he:=h1) (hpl:=hpl)) λσ H Pr Z k4 E h=>?_;obtain⟨l,xs0,q0,h⟩:=jf h;obtain⟨hσ,vs0,hl0,r⟩:=E.ownAt q0;exact⟨.ref l,hσ,l,vs0,rfl,.inl (Up.of hl0),_,Z,E.cons_d (.int _),by rw[r.length];exact h⟩
def tK(i:Nat)(tb te:W L):W Fl:=λZ k4=>te Z λr Z1=>U2 r λy=>AX i Z1 λ_ _=>tb Z1 λr Z2=>pZ r λj=>AX i Z2 λa xs=>∃k,UI xs.length j=some k/\k4 .nx (Z2.set i (.own a (xs.set k y)))
theorem jg(i:Nat){b:Expr}{ps:Pos}(hb:PL X b tb)(he:PL X e te)(hN:X.N[i]?=some x:=by rfl)(hv:Ue X.env.scope x:=by first | exact Or.inl rfl | exact Or.inr (Or.inl rfl) | exact Or.inr (Or.inr rfl)) (hd:adf x:=by decide)
  (hcd:adg x:=by decide)
  (ha:∀v,assign (.Subscript (.Name x p) b ps) X.env v=(do
   let ov <- holding [v] (eval (.Name x p) X.env)
   let iv <- holding [v,ov] (eval b X.env)
   standAt ps
   holding [v,ov,iv] (setItem ov iv v)
   release [v,ov,iv] []):=by intro _;rfl)
  (hs:swapsWithSole [.Subscript (.Name x p) b ps] e pos.line X.env=pure false:=by rfl) (hw:swappedStores [.Subscript (.Name x p) b ps] e X.env=pure none:=by rfl)
  (h1:(assignEach [.Subscript (.Name x p) b ps] X.env).map (·.2)=[assign (.Subscript (.Name x p) b ps) X.env]:=by rfl):PM X (.Assign [.Subscript (.Name x p) b ps] e pos) (tK i tb te):=by
 refine PM.of (O7 (ay he).pe (O6 (jY hN hv hd hcd) hb.pe Jx ha) hs hw h1) λσ H Pr Z k4 b0 E h=>?_
 refine⟨Pr,Z,λr Z1=>match r with
  |.d y=>AX i Z1 λ_ _=>tb Z1 λr Z2=>pZ r λj=>AX i Z2 λa xs=>∃k,UI xs.length j=some k/\k4 .nx (Z2.set i (.own a (xs.set k y)))
  |_=>False,E,h,λv H' r Z' E' pp=>?_⟩
 cases r with
 | d y =>
  obtain⟨l,xs0,q0,pp⟩:=jf pp;obtain⟨hσ,vs0,hl0,_⟩:=E'.tail.ownAt q0;refine⟨.ref l,hσ,bK H' Z',Z',_,E'.tail.wide,pp,λw H2 r2 Z2 E2 pp=>?_⟩;obtain⟨j,rfl,pp⟩:=fz pp;obtain⟨l',xs,q,k,hk,pp⟩:=jf pp;obtain⟨_,e1,p1⟩:=E2.head_d;cases e1;obtain rfl:=UW.inv_int p1;have E3:aI X.K Pr H2 (some (.int j)::some v::σ) (.d (.int j)::.d y::Z2):=aI.step (τ:=[some v]) (lam:=[.d y]) (w:=[some (.int j)]) (μ:=[.d (.int j)]) E' rfl E2 rfl;obtain⟨_,e1,p1⟩:=E3.tail.head_d;cases e1;obtain⟨hσ',vs,hl,r⟩:=E3.tail.tail.ownAt q;rw[hσ]at hσ';cases hσ';refine⟨l,vs,j,k,rfl,rfl,hl,by rw[r.length];exact hk,_,E3.tail.tail.updOwn q (r.set p1 k),pp⟩
 |_=>exact pp.elim
def Ej:Option (W L)->Ev->(Option Int->Ev->Prop)->Prop
 |none=>λZ k=>k none Z
 |some t=>λZ k=>t Z λr Z1=>pZ r λi=>k (some i) Z1
noncomputable def Gd{α:Type}(xs:List α)(lo hi:Option Int):List α:=(xs.drop (HT.sIx xs.length 0 lo)).take (HT.sIx xs.length xs.length hi-HT.sIx xs.length 0 lo)
end
noncomputable def bO:List Nat->Ev->Ev
 |[],Z=>Z
 |j::r,Z=>(bO r Z).set j .un
noncomputable def cZ(fi:List Nat)(Z:Ev):Ev:=fi.map λj=>(Z[j]?).getD .un
noncomputable def cy(fi:List Nat)(σ:St):St:=fi.map λj=>(σ[j]?).getD none
noncomputable def iV:List Nat->Ev->Ev->Ev
 |j::r,c::cs,Z=>iV r cs (Z.set j c)
 |_,_,Z=>Z
theorem gH:∀(fi:List Nat)(Z:Ev),(bO fi Z).length=Z.length
 |[],_=>rfl
 |j::r,Z=>by unfold bO;rw[aah,gH r Z]
theorem zp:∀(fi:List Nat)(Z:Ev)(j:Nat),j∉fi->(bO fi Z)[j]?=Z[j]?
 |[],_,_,_=>rfl
 | i::r,Z,j,h=>by unfold bO;rw[Zr (λe=>h (by simp[e])),zp r Z j λe=>h (fI _ e)]
theorem CS:∀(fi:List Nat)(Z:Ev)(j:Nat),j∈fi->j<Z.length->(bO fi Z)[j]?=some .un
 | i::r,Z,j,h,hl=>by
  unfold bO;by_cases e:i=j
  . subst e;rw[Zq (by rw[gH];exact hl)]
  . rw[Zr e];exact CS r Z j ((YK.mp h).resolve_left λz=>e z.symm) hl
section
variable{K:W.Frag}{Pr H:Hp}{σ:St}{Z:Ev}
theorem aI.takeAt(E:aI K Pr H σ Z){i:Nat}{l:L}{s:Option V}(h:Z[i]?=some l)(hs:σ[i]?=some s):aI K Pr H (s::σ) (l::Z.set i .un):=E.outL h hs
theorem aI.takes(E:aI K Pr H σ Z):∀(fi:List Nat),fi.Nodup->(∀j∈fi,j<Z.length)->aI K Pr H (cy fi σ++σ) (cZ fi Z++bO fi Z)
 |[],_,_=>E
 | j::r,nd,hl=>by
  have ih:=E.takes r (Zc.mp nd).2 λi hi=>hl i (fI _ hi);have hj:j<Z.length:=hl j k5;have hjs:j<σ.length:=by rw[E.len];exact hj
  have e1:(cZ r Z++bO r Z)[r.length+j]?=some Z[j]:=by rw[Y6 (by simp[cZ])];simp only[cZ,YD,Zf];rw[zp r Z j (Zc.mp nd).1];exact gV hj
  have e2:(cy r σ++σ)[r.length+j]?=some σ[j]:=by rw[Y6 (by simp[cy])];simp only[cy,YD,Zf];exact gV hjs
  have z:=ih.takeAt e1 e2;rw[aaO _ _ (by simp[cZ])]at z;simp only[cZ,YD,Zf]at z;have c1:cy (j::r) σ=σ[j]::cy r σ:=by simp[cy,hjs]
  have c2:cZ (j::r) Z=Z[j]::cZ r Z:=by simp[cZ,hj]
  rw[c1,c2];exact z
theorem aI.backs:∀(fi:List Nat){cs Z:Ev},fi.Nodup->cs.length=fi.length->(∀j∈fi,Z[j]?=some .un)->(∀j∈fi,j<σ.length)->aI K Pr H (cy fi σ++σ) (cs++Z)->aI K Pr H σ (iV fi cs Z)
 |[],[],Z,_,_,_,_,E=>E
 | j::r,c::cs,Z,nd,hl,hu,hs,E=>by
  have hjs:j<σ.length:=hs j k5;have hj:=hu j k5;have c1:cy (j::r) σ=σ[j]::cy r σ:=by simp[cy,hjs]
  rw[c1]at E;have hlr:cs.length=r.length:=by simpa using hl
  have z:=aI.back (σ:=cy r σ++σ) (Z:=cs++Z) (l:=c) E (i:=r.length+j) (by
   rw[Y6 xL,hlr,Zf];exact hj) (by
   rw[Y6 (by simp[cy])];simp only[cy,YD,Zf]
   exact gV hjs)
  rw[aaO _ _ xL,hlr,Zf]at z
  exact aI.backs r (Zc.mp nd).2 hlr (λi hi=>by
   rw[Zr (λe=>(Zc.mp nd).1 (by rw[e];exact hi))];exact hu i (fI _ hi)) (λi hi=>hs i (fI _ hi)) z
 |[],_::_,_,_,hl,_,_,_=>by simp at hl
 |_::_,[],_,_,hl,_,_,_=>by simp at hl
end
noncomputable def zr(cells:List (Str×Addr)):List (Str×NameKind)->List (Str×Addr)->List (Str×Addr)
 |[],acc=>acc
 |(n,k)::r,acc=>zr cells r (if k == .free then(match cells.lookup n with|some c=>(n,c)::acc|none=>acc)else acc)
theorem p7{env:Env}:∀(names:List (Str×NameKind))(acc:List (Str×Addr)),(∀x∈names,x.2=.free->∃c,env.cells.lookup x.1=some c) ->
  (forIn names acc λ(x:Str×NameKind) (cs:List (Str×Addr))=>(if x.2 == .free then do let c <- cellOf env x.1;pure (ForInStep.yield ((x.1,c)::cs))else pure (ForInStep.yield cs):Sem (ForInStep (List (Str×Addr)))))=pure (zr env.cells names acc)
 |[],acc,_=>rfl
 | (n,k)::r,acc,h=>by
  rw[List.forIn_cons];by_cases hk:(k == NameKind.free)=true
  .
   obtain⟨c,hc⟩:=h (n,k) k5 (by simpa using hk);have e:cellOf env n=pure c:=by unfold cellOf;rw[show env.cells.lookup n=some c from hc]
   simp only[hk,aad,e,pure_bind,zr,hc];exact p7 r _ λx hx=>h x (fI _ hx)
  . simp only[hk,zr,aaa,pure_bind];exact p7 r _ λx hx=>h x (fI _ hx)
theorem oI{scope:Scope}{env:Env}(h:∀x∈scope.names,x.2=.free->∃c,env.cells.lookup x.1=some c):closureFor scope env=pure (zr env.cells scope.names []):=by have:=p7 (env:=env) scope.names [] h;unfold closureFor;simp only[bind_pure_comp]at this ⊢;rw[this];rfl
theorem CT{cells:List (Str×Addr)}:∀(names:List (Str×NameKind))(acc:List (Str×Addr)),(∀x c,acc.lookup x=some c->cells.lookup x=some c)->∀x c,(zr cells names acc).lookup x=some c->cells.lookup x=some c
 |[],acc,h,x,c,e=>h x c e
 | (n,k)::r,acc,h,x,c,e=>by
  unfold zr at e;refine CT r _ (λy d ey=>?_) x c e;split at ey
  .
   split at ey
   .
    rename_i q;rw[Zt]at ey;split at ey
    .
     rename_i e2;have:y=n:=by simpa using e2
     cases ey;rw[this];exact q
    . exact h y d ey
   . exact h y d ey
  . exact h y d ey
theorem rV{n:Str}{c:Addr}{acc:List (Str×Addr)}{x:Str}(h:∃d,acc.lookup x=some d):∃d,((n,c)::acc).lookup x=some d:=by
 rw[Zt];split
 . exact⟨_,rfl⟩
 . exact h
theorem xl{cells:List (Str×Addr)}:∀(names:List (Str×NameKind))(acc:List (Str×Addr))(x:Str),((∃d,acc.lookup x=some d)∨((x,NameKind.free)∈names/\∃c,cells.lookup x=some c))->∃d,(zr cells names acc).lookup x=some d
 | [],acc,x,h=>by
  rcases h with h|⟨h,_⟩
  . exact h
  . simp at h
 | (n,k)::r,acc,x,h=>by
  unfold zr;refine xl r _ x ?_;rcases h with h|⟨hm,c,hc⟩
  .
   left;split
   .
    split
    . exact rV h
    . exact h
   . exact h
  .
   rcases YK.mp hm with e|hm
   . cases e;left;simp only[hc,beq_self_eq_true,aad];exact⟨c,by simp[Zt]⟩
   . exact .inr ⟨hm,c,hc⟩
noncomputable def jZ(X:Cx)(scope:Scope)(cl:List (Str×Addr))(Nb:List Str)(s₀:Shared)(H₀:Hp)(fp:List Addr):Cx :=
 {X with N:=Nb,s₀:=s₀,H₀:=H₀,env:=compEnvC scope cl s₀.heap.objs.size X.env,outer:=X.stack,stack:=X.stack,ex:=fp,fn:=λ_=>false,pn:=[],xe:=λ_ _=>False}
theorem lS{α β:Type}{F:α->β->Prop}:∀{a:List α}{b:List β},Paired F a b↔a.length=b.length/\∀p∈a.zip b,F p.1 p.2
 |[],[]=>⟨λ_=>⟨rfl,λ_ h=>by simp at h⟩,λ_=>.nil⟩
 |[],_::_=>⟨(λh=>nomatch h),λh=>by simp at h⟩
 |_::_,[]=>⟨(λh=>nomatch h),λh=>by simp at h⟩
 | x::a,y::b=>by
  constructor
  .
   intro h
   cases h with
   | cons r t =>
    obtain⟨h1,h2⟩:=lS.mp t
    exact⟨by simp[h1],λp hp=>by
     rw[ZR]at hp;rcases YK.mp hp with rfl|hp
     . exact r
     .
      exact h2 p hp⟩
  . rintro⟨hl,h⟩;exact .cons (h (x,y) x_) (lS.mpr ⟨by simpa using hl,λp hp=>h p (by rw[ZR];exact fI _ hp)⟩)
theorem xm:∀{σ:St}{Z:Ev},σ.length=Z.length->(σ.zip Z).map (·.2)=Z
 |[],[],_=>rfl
 | _::σ,l::Z,h=>by have ih:=xm (σ:=σ) (Z:=Z) (by simpa using h);rw[ZR,YQ,ih]
 |[],_::_,h=>by simp at h
 |_::_,[],h=>by simp at h
theorem aI.rearr{K:W.Frag}{Pr H:Hp}{σ σ2:St}{Z Z2:Ev}(E:aI K Pr H σ Z)(hl:σ2.length=Z2.length)(extra:List (Option V×L))(h:(σ.zip Z).Perm (σ2.zip Z2++extra)):aI K Pr H σ2 Z2:=by
 have pm:(owns Z).Perm (owns Z2++owns (extra.map (·.2))):=by have q:=oE (h.map (·.2));rw[Y9,xm E.len,xm hl,aK]at q;exact q
 refine⟨E.sub,(Zj.mp (pm.nodup_iff.mp E.nd)).1,λa ha=>E.off a (pm.mem_iff.mpr (Y1 _ ha)),lS.mpr ⟨hl,λp hp=>?_⟩⟩;exact(lS.mp E.sl).2 p (h.mem_iff.mpr (Y1 _ hp))
theorem zt{fi:List Nat}{σ τ:St}(h:∀j∈fi,j<σ.length):cy fi (σ++τ)=cy fi σ:=by unfold cy;refine ZD λj hj=>?_;rw[ZG (h j hj)]
theorem Ek{fi:List Nat}{σ τ:Ev}(h:∀j∈fi,j<σ.length):cZ fi (σ++τ)=cZ fi σ:=by unfold cZ;refine ZD λj hj=>?_;rw[ZG (h j hj)]
theorem zu{τ:Ev}:∀{fi:List Nat}{Z:Ev},(∀j∈fi,j<Z.length)->bO fi (Z++τ)=bO fi Z++τ
 |[],_,_=>rfl
 | j::r,Z,h=>by unfold bO;rw[zu λi hi=>h i (fI _ hi),List.set_append_left _ _ (by rw[gH];exact h j k5)]
theorem wx{τ:Ev}:∀{fi:List Nat}{cs Z:Ev},(∀j∈fi,j<Z.length)->iV fi cs (Z++τ)=iV fi cs Z++τ
 |[],[],_,_=>rfl
 |[],_::_,_,_=>rfl
 |_::_,[],_,_=>rfl
 | j::r,c::cs,Z,h=>by unfold iV;rw[List.set_append_left _ _ (h j k5)];exact wx λi hi=>by rw[aah];exact h i (fI _ hi)
theorem gI{env:Env}:∀{names:List (Str×NameKind)}{x:Str},names.lookup x=some .free ->
  (names.map λ(n,k)=>if(k == NameKind.free && env.scope.kind == .function && env.kindOf n == some .cell)then(n,NameKind.cell)else(n,k)).lookup x=some .cell ∨
  (names.map λ(n,k)=>if(k == NameKind.free && env.scope.kind == .function && env.kindOf n == some .cell)then(n,NameKind.cell)else(n,k)).lookup x=some .free
 |[],_,h=>by simp at h
 | (n,k)::r,x,h=>by
  have ih:=@gI env r x;rw[YQ]
  cases hx:x == n with
  | true =>
   simp only[Zt,hx]at h;cases h;dsimp only;by_cases hc:(NameKind.free == NameKind.free && env.scope.kind == .function && env.kindOf n == some .cell)=true
   . left;rw[if_pos hc];simp[Zt,hx]
   . right;rw[if_neg hc];simp[Zt,hx]
  | false =>
   simp only[Zt,hx]at h;dsimp only;by_cases hc:(k == NameKind.free && env.scope.kind == .function && env.kindOf n == some .cell)=true
   . rw[if_pos hc];simp only[Zt,hx];exact ih h
   . rw[if_neg hc];simp only[Zt,hx];exact ih h
theorem jh{env:Env}:∀{names:List (Str×NameKind)}{x:Str}{k:NameKind},(∀y∈names,y.2≠.cell)->(k=.cell∨k=.free) ->
  (names.map λ(n,k)=>if(k == NameKind.free && env.scope.kind == .function && env.kindOf n == some .cell)then(n,NameKind.cell)else(n,k)).lookup x=some k->(x,NameKind.free)∈names
 |[],_,_,_,_,h=>by simp at h
 | (n,k0)::r,x,k,hc,hk,h=>by
  rw[YQ]at h
  (try dsimp only at h)
  by_cases q:(k0 == NameKind.free && env.scope.kind == .function && env.kindOf n == some .cell)=true
  .
   rw[if_pos q,Zt]at h;have e0:k0=.free:=by have:=(aaT.mp (aaT.mp q).1).1;simpa using this
   split at h
   .
    rename_i e;have:x=n:=by simpa using e
    subst this e0;exact k5
   . exact fI _ (jh (λy hy=>hc y (fI _ hy)) hk h)
  .
   rw[if_neg q,Zt]at h;split at h
   .
    rename_i e;have:x=n:=by simpa using e
    subst this;have e1:k0=k:=by simpa using h
    subst e1;rcases hk with z|z
    . exact absurd z (hc (x,k0) k5)
    . subst z;exact k5
   . exact fI _ (jh (λy hy=>hc y (fI _ hy)) hk h)
section
variable{prog:Program}{w:World}{A:Around}{R:Result->Shared->Prop}
theorem Ge{elt target iter:Expr}{ifs:List Expr}{scope:Scope}{pos:Pos}{it acc:Value}{env:Env}(I:Nat->Shared->Prop)
  (turn:∀n s,I n s->wpAny (model prog w) A (pyNext it) (λr s₁=>match r with
   |none=>R (.ok .next) s₁
   | some v=>wpAny (model prog w) A (letOwnedTupleGo target it v) (λ_ s₀=>wpAny (model prog w) A (assign target env v) (λ_ s₂ =>
     wpAny (model prog w) A (forIn ifs true λc r=>if r=true then do let ok <- isTrue c env (eval c env);pure (ForInStep.yield ok)else pure (ForInStep.yield r)) (λok s₃ =>
      if ok=true then wpAny (model prog w) A (eval elt env) (λx s₄ =>
       wpAny (model prog w) A (call (.builtin "list.append") [acc,x]) (λ_ s₅=>∃ m,m < n/\I m s₅) (λ_ _=>False) s₄) (λ_ _=>False) s₃
      else ∃m,m<n/\I m s₃) (λ_ _=>False) s₂) (λ_ _=>False) s₀) (λ_ _=>False) s₁) (λ_ _=>False) s)
  (n:Nat) {s:Shared} (h:I n s) :
  codeAny (model prog w) A (.compLoop (.ListComp elt [⟨target,iter,ifs,0⟩] scope pos) 0 it acc env) R s:=by
 refine codeAny_loop rfl I (λn s hI=>?_) n h
 show wpAny _ A ((compTurn (.ListComp elt [⟨target,iter,ifs,0⟩] scope pos) 0 it acc env).onRaise (λx=>do noteFrame x env;theTreesLotGoes x)) _ _ s
 refine wpAny_noted ?_;rw[compTurn_list];have fe:∀{α:Type}{t:Sem α}{Q:α->Shared->Prop}{E:Value->Shared->Prop}{s:Shared},wpAny (model prog w) A t Q (λ_ _=>False) s->wpAny (model prog w) A t Q E s:=λh=>aaz h (λ_ _ q=>q) λ_ _ z=>z.elim;refine YE (aaY (YE (aaz (turn n s hI) (λr s₁ h₁=>?_) λ_ _ h'=>h'.elim)))
 cases r with
 |none=>exact YX h₁
 | some v =>
  refine YE (aaz h₁ (λ_ s₀ h₀=>?_) λ_ _ z=>z.elim);refine YE (aaz h₀ (λ_ s₂ h₂=>YE (aaz h₂ (λok s₃ h₃=>?_) λ_ _ h'=>h'.elim)) λ_ _ h'=>h'.elim)
  cases ok with
  |false=>exact YX ⟨rfl,h₃⟩
  | true =>
   exact YE (YE (aaz h₃ (λx s₄ h₄=>YE (aaz h₄ (λ_ s₅ h₅=>YX (YX ⟨rfl,h₅⟩)) λ_ _ h'=>h'.elim)) λ_ _ h'=>h'.elim))
end
def Vj(X:Cx)(tg:Expr)(n:Nat)(g:Tg):Prop:=∃gg:TG,PG X tg gg/\∀v σ H Pr Z x k,σ.length=X.N.length->aI X.K Pr H σ Z->UW X.K H v x->g x Z k->gg v σ H λσ' H'=>H'=H/\σ'.drop n=σ.drop n/\∃Z',aI X.K Pr H σ' Z'/\k Z'
theorem d4{X:Cx}{i n:Nat}{x:Str}{pos:Pos}(hn:i<n)(hN:X.N.Nodup)(hi:X.N[i]?=some x)(hx:Ug X.env.scope x)(hf:X.fn x=true∨X.env.scope.names.lookup x=some .local:=by first|exact .inl rfl|exact .inr rfl|assumption):Vj X (.Name x pos) n (a9 i) :=
 ⟨_,w5 hN hi hx hf,λv σ H Pr Z x k hl E r h=>⟨rfl,by rw[List.drop_set_of_lt hn],_,(E.cons_d r).store (by rw[hl];exact(YA.mp hi).1),h⟩⟩
def Vk(X:Cx)(ifs:List Expr)(t:W Bool):Prop :=
 ∀(ab:List (Addr×Obj))(s:Shared)(σ:St)(H Pr:Hp)(Z:Ev)(k4:Bool->Ev->Prop),Uh X ab σ H s->aI X.K Pr H σ Z->t Z k4 ->
  wpAny (model X.prog X.w) X.A (forIn ifs true λc r=>if r=true then do let ok <- isTrue c X.env (eval c X.env);pure (ForInStep.yield ok)else pure (ForInStep.yield r)) (EB X ab σ Pr k4) X.xe s
def iw:W Bool:=λZ k4=>k4 true Z
theorem dJ{X:Cx}:Vk X [] iw:=λab s σ H Pr Z k4 I E h=>wpAny_tests_nil ⟨H,Z,I,E,h⟩
theorem tM{X:Cx}{c:Expr}{t:W Bool}(h:PB X c t):Vk X [c] t:=λab s σ H Pr Z k4 I E ht=>wpAny_tests_one (h ab s σ H Pr Z k4 I E ht)
def eV(g:Tg)(ti:W Bool)(te:W L):List D->Ev->List D->(List D->Ev->Prop)->Prop
 |[],Z,acc,k=>k acc Z
 |x::xs,Z,acc,k=>g x Z λZ1=>ti Z1 λb Z2=>if b=true then te Z2 λr Z3=>U2 r λy=>eV g ti te xs Z3 (acc++[y]) k else eV g ti te xs Z2 acc k
def gm(n:Nat)(fi:List Nat)(src:W (List D))(g:Tg)(ti:W Bool)(te:W L):W L:=λZ k4=>src Z λxs Z1=>xs.length<=sizeLine /\
 eV g ti te xs (List.replicate n .un++cZ fi Z1) [] λys ρb=>∀a,k4 (.own a ys) (iV fi (ρb.drop n) (bO fi Z1))
section
variable{X:Cx}
theorem zv{elt tg iter:Expr}{ifs:List Expr}{scope sc:Scope}{pos:Pos}{N Nt Nf:List Str}{fi:List Nat}{src:W (List D)}{g:Tg}{ti:W Bool}{te:W L}
  (hsc:X.env.scope=sc) (hXN:X.N=N) (hc:X.calm=true) (hi:Vd X tg iter src)
  (hkind:scope.kind=.function) (hnames:∀x∈scope.names,x.2=.local->scope.names.lookup x.1=some .local) (hcell:∀y∈scope.names,y.2≠.cell)
  (hfr:∀x∈scope.names,x.2=.free->sc.names.lookup x.1=some .cell∨sc.names.lookup x.1=some .free)
  (hnd:fi.Nodup) (hNf:Nf.map some=fi.map (λj=>N[j]?)) (hNk:∀x∈Nf,scope.names.lookup x=some .free) (hfl:∀j∈fi,j<N.length)
  (hg:∀cl s₀ H₀ fp,Vj (jZ X scope cl (Nt++Nf) s₀ H₀ fp) tg Nt.length g) (hti:∀cl s₀ H₀ fp,Vk (jZ X scope cl (Nt++Nf) s₀ H₀ fp) ifs ti) (hte:∀cl s₀ H₀ fp,PL (jZ X scope cl (Nt++Nf) s₀ H₀ fp) elt te)
  {ab:List (Addr×Obj)} {s:Shared} {σ:St} {H Pr:Hp} {Z:Ev} {k4:L->Ev->Prop} {use:Option (Value->Sem Unit)} {Q:Value->Shared->Prop} (I:Uh X ab σ H s) (E:aI X.K Pr H σ Z) (h:gm Nt.length fi src g ti te Z k4)
  (hRR:∀D C s7 H6 acc Z'' m,Uh X ab σ H6 s7->s7.heap.Ns C m->H6 C=none->C≠X.env.locals->X.s₀.heap.objs.size<=C->(∀x c,X.env.cells.lookup x=some c->c≠C)->(∀p∈X.pn++ab,p.1≠C)->aI X.K Pr H6 (some (.ref D)::σ) (.own D acc::Z'')->k4 (.own D acc) Z'' ->
   compPost (model X.prog X.w) X.A X.xe use Q (.ref D) C (.ok .next) s7)
  (hs:∀x,foldedSetIterable iter X.env x=pure x):wpAny (model X.prog X.w) X.A (comprehension (.ListComp elt [⟨tg,iter,ifs,0⟩] scope pos) scope X.env (firstIterPos [⟨tg,iter,ifs,0⟩] pos) (newList []) false (eval iter X.env) use) Q X.xe s:=by
 have hcells:∀x∈scope.names,x.2=.free->∃c,X.env.cells.lookup x.1=some c:=λx hx hk=>I.ok.has x.1 (by
  show X.env.scope.names.lookup x.1=_∨X.env.scope.names.lookup x.1=_
  rw[hsc];exact hfr x hx hk)
 have hsub:=CT (cells:=X.env.cells) scope.names [] (λx c e=>by simp at e);refine wpAny_comprehension_free (use:=use) rfl hs (oI hcells) hkind hnames (Ul (hi ab s σ H Pr Z _ I E h) λv s1 h1=>Ul h1 λitv s2 h2=>?_);obtain⟨it,fp,tn,J,H2,xs,Z2,e,I2,T,st2,f2,E2,G,b0,w0⟩:=h2;subst e;refine aaV (T:="list") ?_;generalize hD:s2.heap.objs.size=D;have fD:H2 D=none:=by rw[<- hD];exact I2.fresh
 have I3:Uh X ab σ (TY H2 D (.lst [])) {s2 with heap:=s2.heap.push {cls:=.type "list",dict:=none,data:=.seq ([]:List Value).toArray} }:=by have:=Uh.lnew (ys:=[]) (its:=[]) (t':=s2.toks) I2 .nil (aae _);rw[hD]at this;exact this
 have E3:=E2.cons_own (p:=D) (vs:=[]) (xs:=[]) fD .nil;have sz3:(s2.heap.push {cls:=.type "list",dict:=none,data:=.seq ([]:List Value).toArray}).objs.size=D+1:=by rw[Heap.size_push,hD]
 generalize hs3:({s2 with heap:=s2.heap.push {cls:=.type "list",dict:=none,data:=.seq ([]:List Value).toArray} }:Shared)=s3 at I3;have hs3h:s3.heap=s2.heap.push {cls:=.type "list",dict:=none,data:=.seq ([]:List Value).toArray}:=by rw[<- hs3]
 have fpD:∀b∈fp,b≠D:=λb hb=>by obtain⟨o,e,_⟩:=T.obj 0 _ st2 b hb;rw[<- hD];exact Zb (YM e)
 have old3:∀b o,s2.heap.get? b=some o->s3.heap.get? b=some o:=λb o e=>by rw[hs3h];exact YG _ e
 refine wpAny_newFunctionEnv (around:=some X.env) hcell (by intro y hy;simp at hy) (λh4 hns4 hsb4=>?_) hkind
 have hns4':h4.Ns s3.heap.objs.size (λ_=>none):=by
  have:(λx=>(([]:List (Str×Value)).reverse.lookup x))=λ_=>(none:Option Value):=by funext x;rfl
  rw[this]at hns4;exact hns4
 have old4:∀b o,s3.heap.get? b=some o->h4.get? b=some o:=λb o e=>by rw[hsb4.2 b (Zb (YM e))];exact YG _ e
 have hσl:σ.length=N.length:=by rw[<- hXN];exact I.len
 have hρ2:σ.length=Z2.length:=E2.len;have hjσ:∀j∈fi,j<σ.length:=λj hj=>by rw[hσl];exact hfl j hj
 have hjρ:∀j∈fi,j<Z2.length:=λj hj=>by rw[<- hρ2];exact hjσ j hj
 have hfpl:∀b∈fp,b<s3.heap.objs.size:=λb hb=>by obtain⟨o,e,_⟩:=T.obj 0 _ st2 b hb;exact YM (old3 b o e)
 have hlNf:Nf.length=fi.length:=by have:=congrArg List.length hNf;simpa using this
 have Bok:(jZ X scope (zr X.env.cells scope.names []) (Nt++Nf) s3 (TY H2 D (.lst [])) fp).Ok:=by
  refine⟨I3.ok.mod,hkind,I.ok.glob,I.ok.blt,YN _,λx y c e1 e2=>I.ok.inj x y c (hsub x c e1) (hsub y c e2),λx hx=>?_,λx c hf _=>(ZC hf).elim,I.ok.hd,I.ok.frames,.inl rfl,λb hb=>⟨Zb (hfpl b hb),λx c e=>(f2 b hb).2.2.2.2.1 x c (hsub x c e)⟩,I3.bs,YH I.ok.bsz I3.sz,λb o e hb=>?_,λb hb hm=>?_,I3.stack,I3.stkFree,I3.tbs⟩
  .
   have hm:(x,NameKind.free)∈scope.names:=by
    rcases hx with hx|hx
    . exact jh (env:=X.env) hcell (.inl rfl) hx
    . exact jh (env:=X.env) hcell (.inr rfl) hx
   exact xl scope.names [] x (.inr ⟨hm,hcells _ hm rfl⟩)
  .
   rcases(f2 b hb).2.2.2.1 with z|z
   . exact I.ok.noex b o e z
   . exact absurd (so (YM (I.ok.bs b o e).1) z) (aaG _)
  .
   rcases YK.mp (I3.stkSub b hm)with z|z
   . exact(f2 b hb).2.1 z
   . exact(f2 b hb).2.2.1 z
 have I4:Uh (jZ X scope (zr X.env.cells scope.names []) (Nt++Nf) s3 (TY H2 D (.lst [])) fp) [] (List.replicate Nt.length none++cy fi σ) (TY H2 D (.lst [])) {s3 with heap:=h4,toks:=s3.toks+([]:List (Str×Value)).length}:=by
  refine⟨Bok,rfl,I3.bare,Un.kept old4,⟨_,hns4',λi x v e1 e2 e3=>?_⟩,λx c e=>?_,I3.fresh,λx c e=>(I3.freeC x c (hsub x c e)).imp id λz=>⟨rfl,z.2⟩,λp hp=>absurd (show p∈([]:List (Addr×Obj))from hp) x_,I3.hok.kept old4,?_⟩
  .
   have e1:(Nt++Nf)[i]?=some x:=e1
   have hi':Nt.length<=i:=by
    by_cases q:i<Nt.length
    . rw[ZG (by simpa using q),List.getElem?_replicate]at e2;split at e2<;>cases e2
    . omega
   rw[Y6 hi']at e1;rw[Y6 (by simpa using hi')]at e2;simp only[List.length_replicate]at e2;generalize i-Nt.length=k at e1 e2;have hk:k<fi.length:=by have:=(YA.mp e1).1;omega
   have e4:(Nf.map some)[k]?=(fi.map λj=>N[j]?)[k]?:=by rw[hNf]
   rw[YS,YS,e1,gV hk]at e4;have e5:N[fi[k]]?=some x:=by simpa using e4.symm
   have e6:σ[fi[k]]?=some (some v):=by unfold cy at e2;rw[YS,gV hk]at e2;have hjl:=hjσ fi[k] (YB hk);rw[gV hjl];simpa[gV hjl]using e2
   have hxm:x∈Nf:=List.mem_of_getElem? e1;have hfree:=hNk x hxm;have hmem:(x,NameKind.free)∈scope.names:=aac hfree;have hkx:=hfr _ hmem rfl;obtain⟨m,_,hl⟩:=I3.loc;obtain⟨u,ru,lk⟩:=hl fi[k] x v (by rw[hXN];exact e5) e6 (by rw[hsc];exact .inr hkx);refine⟨u,ru,.inr ⟨gI (env:=X.env) hfree,?_⟩⟩;rcases lk with⟨z,_⟩|⟨_,c,hc1,hc2⟩
   .
    have z:X.env.scope.names.lookup x=some .local:=z;rw[hsc]at z;rcases hkx with q|q
    . rw[z]at q;cases q
    . rw[z]at q;cases q
   .
    obtain⟨d,hd⟩:=xl (cells:=X.env.cells) scope.names [] x (.inr ⟨hmem,c,hc1⟩);have:d=c:=by have:=hsub x d hd;rw[hc1]at this;exact(Y5 this).symm
    subst this;obtain⟨o,ho,hdd⟩:=hc2;exact⟨d,hd,o,old4 _ o ho,hdd⟩
  . obtain⟨v,o,ho,hd⟩:=I3.cell x c (hsub x c e);exact⟨v,o,old4 c o ho,hd⟩
  . show(List.replicate Nt.length none++cy fi σ).length=(Nt++Nf).length;simp[cy,hlNf]
 have E4:aI X.K Pr (TY H2 D (.lst [])) (some (.ref D)::(σ++(List.replicate Nt.length none++cy fi σ))) (.own D []::(bO fi Z2++(List.replicate Nt.length .un++cZ fi Z2))):=by
  have a1:aI X.K Pr (TY H2 D (.lst [])) (σ++[some (.ref D)]) (Z2++[.own D []]):=E3.rearr (by simp[hρ2]) [] (by
   rw[aai,ZA hρ2]
   exact(ZL (l₁:=[(some (V.ref D),L.own D [])]) (l₂:=σ.zip Z2)))
  have a2:=a1.takes fi hnd λj hj=>by have:=hjρ j hj;simp;omega
  rw[zt hjσ,Ek hjρ,zu hjρ]at a2;have a3:=a2.uns Nt.length;have hcl:(cy fi σ).length=(cZ fi Z2).length:=by simp[cy,cZ]
  have hul:σ.length=(bO fi Z2).length:=by rw[gH];exact hρ2
  refine a3.rearr (by simp[hul,hcl]) [] ?_;have l1:(cy fi σ++(σ++[some (V.ref D)])++List.replicate Nt.length none).zip (cZ fi Z2++(bO fi Z2++[L.own D []])++List.replicate Nt.length L.un)=((cy fi σ).zip (cZ fi Z2)++(σ.zip (bO fi Z2)++[(some (V.ref D),L.own D [])]))++(List.replicate Nt.length none).zip (List.replicate Nt.length L.un):=by rw[ZA (by simp only[Y4,hcl,hul];rfl),ZA hcl,ZA hul];rfl
  have l2:(some (V.ref D)::(σ++(List.replicate Nt.length none++cy fi σ))).zip (L.own D []::(bO fi Z2++(List.replicate Nt.length L.un++cZ fi Z2)))=(some (V.ref D),L.own D [])::(σ.zip (bO fi Z2)++((List.replicate Nt.length none).zip (List.replicate Nt.length L.un)++(cy fi σ).zip (cZ fi Z2))):=by rw[ZR,ZA hul,ZA x_]
  rw[aai,l1,l2];generalize (cy fi σ).zip (cZ fi Z2)=z1;generalize σ.zip (bO fi Z2)=z2;generalize (List.replicate Nt.length none).zip (List.replicate Nt.length L.un)=z3;show(z1++(z2++[(some (V.ref D),L.own D [])])++z3).Perm ((some (V.ref D),L.own D [])::(z2++(z3++z1)));have p1:(z1++(z2++[(some (V.ref D),L.own D [])])++z3).Perm ((z2++[(some (V.ref D),L.own D [])])++z3++z1):=by rw[Zo];exact ZL
  refine p1.trans ?_;rw[Zo,Zo];exact List.perm_middle
 clear E3
 let B:Cx:=jZ X scope (zr X.env.cells scope.names []) (Nt++Nf) s3 (TY H2 D (.lst [])) fp
 have hul:σ.length=(bO fi Z2).length:=by rw[gH];exact hρ2
 have stat:∀{H':Hp},(∀b∈fp,H' b=none)->∀b∈fp,Fy B [] H' b:=λhn b hb=>by
  refine⟨hn b hb,Zb (hfpl b hb),λhm=>?_,.inl hb,λx c e=>(f2 b hb).2.2.2.2.1 x c (hsub x c e),λp hp=>absurd (show p∈([]:List (Addr×Obj))from hp) x_⟩;rcases YK.mp (I3.stkSub b hm)with z|z
  . exact(f2 b hb).2.1 z
  . exact(f2 b hb).2.2.1 z
 have loop:∀s5:Shared,s5={s3 with heap:=h4,toks:=s3.toks+([]:List (Str×Value)).length}->codeAny (model X.prog X.w) X.A (.compLoop (.ListComp elt [⟨tg,iter,ifs,0⟩] scope pos) 0 (.ref it) (.ref D) B.env)
   (compPost (model X.prog X.w) X.A X.xe use Q (.ref D) s3.heap.objs.size) s5:=by
  rintro s5 rfl
  refine Ge (λn s'=>∃i σ' H' Z' acc,n+i=xs.length/\Uh B [] σ' H' s'/\tn i s'.heap/\(∀b∈fp,H' b=none)/\σ'.drop Nt.length=cy fi σ/\aI X.K Pr H' (some (.ref D)::(σ++σ')) (.own D acc::(bO fi Z2++Z'))/\acc.length<=i /\
   eV g ti te (xs.drop i) Z' acc λys ρb=>∀a,k4 (.own a ys) (iV fi (ρb.drop Nt.length) (bO fi Z2))) ?_ xs.length
   ⟨0,_,_,_,[],xL,I4,T.keep 0 _ _ st2 λb hb o e=>old4 b o (old3 b o e),λb hb=>by rw[aH (fpD b hb)];exact(f2 b hb).1,x_,E4,YN _,by simpa using w0⟩
  rintro n s6 ⟨i,σ6,H6,Z6,acc,hn,I6,st6,fr6,dr6,E6,hal,w6⟩
  have pr:wg H2 H6:=λb o p e=>by
   have ne:b≠D:=λz=>by rw[z,fD]at e;cases e
   have e':B.H₀ b=some o:=by show TY H2 D (.lst []) b=some o;rw[aH ne];exact e
   cases o with
   |tup ys=>exact I6.base.tups b ys e'
   |frz ob u=>exact I6.base.frzs b ob u e'
   |tbl t=>exact I6.base.tbls b t e'
   |_=>exact p.elim
  obtain⟨go,stop⟩:=G H6 pr;have hτ:(some (V.ref D)::σ).length=(L.own D acc::bO fi Z2).length:=by simp[hul]
  by_cases hlt:i<xs.length
  .
   obtain⟨hgo,hy⟩:=go i xs[i] (gV hlt);rw[Zw hlt]at w6;refine Ul (T.item B rfl rfl rfl hc i [] s6 σ6 H6 (λ_ _=>False) I6 (stat fr6) st6 hgo) λr s7 ⟨u,hr,h7⟩=>?_;subst hr;refine Ul h7 λ_ s8 ⟨x,H8,I8,r8,y8,st8,fr8⟩=>?_;obtain⟨gr,rx⟩:=hy x H8 y8;have I8':=I8.pinned (stat fr8) (T.obj _ _ st8);have E8:=E6.grown gr;have E8a:aI X.K (bK H8 Z6) H8 σ6 Z6:=(aI.drop (τ:=some (V.ref D)::σ) (lam:=L.own D acc::bO fi Z2) E8 hτ).wide;obtain⟨gg,hgg,hgs⟩:=hg (zr X.env.cells scope.names []) s3 (TY H2 D (.lst [])) fp;refine Ul (hgg _ s8 σ6 H8 x u _ I8' r8 (hgs x σ6 H8 _ Z6 xs[i] _ I8.len E8a rx w6)) λ_ s9 ⟨σ9,H9,I9,e9,dr9,Z9,E9,q9⟩=>?_;subst e9;have F9:aI X.K Pr H9 (some (V.ref D)::(σ++σ9)) (L.own D acc::(bO fi Z2++Z9)):=aI.step (τ:=some (V.ref D)::σ) (lam:=L.own D acc::bO fi Z2) (w:=[]) (μ:=[]) E8 hτ E9 rfl;have F9a:aI X.K (bK H9 Z9) H9 σ9 Z9:=(aI.drop (τ:=some (V.ref D)::σ) (lam:=L.own D acc::bO fi Z2) F9 hτ).wide;refine Ul (hti _ _ _ _ _ s9 σ9 H9 _ Z9 _ I9 F9a q9) λok sA ⟨HA,ρA,IA,EA,qA⟩=>?_;have FA:aI X.K Pr HA (some (V.ref D)::(σ++σ9)) (L.own D acc::(bO fi Z2++ρA)):=aI.step (τ:=some (V.ref D)::σ) (lam:=L.own D acc::bO fi Z2) (w:=[]) (μ:=[]) F9 hτ EA rfl
   have again:∀{sZ:Shared}{HZ:Hp}{ρZ:Ev}{acc':List L2.D},Uh B ([]++y4 fp s8.heap) σ9 HZ sZ->aI X.K Pr HZ (some (.ref D)::(σ++σ9)) (.own D acc'::(bO fi Z2++ρZ))->acc'.length<=i+1 ->
     (eV g ti te (xs.drop (i+1)) ρZ acc' λys ρb=>∀a,k4 (.own a ys) (iV fi (ρb.drop Nt.length) (bO fi Z2)))->∃m,m<n/\∃i σ' H' Z' acc,m+i=xs.length/\Uh B [] σ' H' sZ/\tn i sZ.heap/\(∀b∈fp,H' b=none)/\σ'.drop Nt.length=cy fi σ /\
     aI X.K Pr H' (some (.ref D)::(σ++σ')) (.own D acc::(bO fi Z2++Z'))/\acc.length<=i/\eV g ti te (xs.drop i) Z' acc λys ρb=>∀a,k4 (.own a ys) (iV fi (ρb.drop Nt.length) (bO fi Z2)):=λ{sZ HZ ρZ acc'} IZ EZ hz qZ=>by
    refine⟨n-1,xL,i+1,σ9,HZ,ρZ,acc',xL,IZ.unpinned,T.keep _ _ _ st8 λb hb o e=>(IZ.pin (b,o) (YW _ (YW _ (lP hb e)))).1,λb hb=>?_,dr9.trans dr6,EZ,hz,qZ⟩;obtain⟨o,e,d⟩:=T.obj _ _ st8 b hb;exact(IZ.pin (b,o) (YW _ (YW _ (lP hb e)))).2.1
   cases ok with
   | false =>
    rw[if_neg ZC]at qA ⊢;exact again IA FA xL qA
   | true =>
    rw[if_pos rfl]at qA ⊢;have FAa:aI X.K (bK HA ρA) HA σ9 ρA:=(aI.drop (τ:=some (V.ref D)::σ) (lam:=L.own D acc::bO fi Z2) FA hτ).wide;refine Ul (hte _ _ _ _ _ sA σ9 HA _ ρA _ IA FAa qA) λux sB qB=>?_;obtain⟨vy,HB,y,ρB,IB,rB,EB,qB⟩:=EL.frz (X:=B) (k4:=λy Z3=>eV g ti te (xs.drop (i+1)) Z3 (acc++[y]) λys ρb=>∀a,k4 (.own a ys) (iV fi (ρb.drop Nt.length) (bO fi Z2))) qB;have FB:aI X.K Pr HB (some vy::(some (V.ref D)::(σ++σ9))) (.d y::(L.own D acc::(bO fi Z2++ρB))):=aI.step (τ:=some (V.ref D)::σ) (lam:=L.own D acc::bO fi Z2) (w:=[some vy]) (μ:=[.d y]) FA hτ EB rfl;obtain⟨_,e1,p1⟩:=FB.head_d;cases e1;have Vl:=FB.tail.sl
    cases Vl with
    | cons q0 _ =>
     obtain⟨_,vs,hDB,rvs⟩:=q0;refine Ul (zh (X:=B) _ sB σ9 HB (.ref D) [vy] (.ref D) [ux] (λz H'=>H'=TY HB D (.lst (vs++[vy]))) IB rfl (.cons rB .nil) ⟨D,vs,vy,rfl,rfl,hDB,by rw[rvs.length];omega,rfl⟩) λ_ sC ⟨z,HC,IC,_,eC⟩=>?_;subst eC;exact again IC (FB.tail.write (rvs.append (.cons p1 .nil))) (by simp;omega) qB
  .
   have e:i=xs.length:=by omega
   subst e;refine Ul (T.done B rfl rfl rfl hc xs.length [] s6 σ6 H6 (λ_ _=>False) I6 (stat fr6) st6 stop) λr s7 ⟨hr,I7⟩=>?_;subst hr;rw[List.drop_length]at w6;obtain⟨m,hm,_⟩:=id I7.loc;have I8:Uh X ab σ H6 s7:=I3.call' (ch:=fp) I7.os I7.base I7.hok I7.bare λb hb=>⟨(f2 b hb).2.2.2.1,(f2 b hb).2.1,(f2 b hb).2.2.2.2.1,(f2 b hb).2.2.2.2.2⟩;have f4:=I3.fpOk (H':=H6) (b:=s3.heap.objs.size) (YN _) I7.free
   .
    have hlen6:σ6.length=Z6.length:=(aI.drop (τ:=some (V.ref D)::σ) (lam:=L.own D acc::bO fi Z2) E6 hτ).len
    have a1:aI X.K Pr H6 (cy fi σ++(σ++[some (V.ref D)])) (Z6.drop Nt.length++(bO fi Z2++[L.own D acc])):=by
     have hcd:(cy fi σ).length=(Z6.drop Nt.length).length:=by rw[<- dr6,Z5,Z5,hlen6]
     refine E6.rearr (by simp[hcd,hul,hlen6]) ((σ6.take Nt.length).zip (Z6.take Nt.length)) ?_;have l0:σ6.zip Z6=(σ6.take Nt.length).zip (Z6.take Nt.length)++(cy fi σ).zip (Z6.drop Nt.length):=by rw[<- dr6,<- ZA (by simp[hlen6]),List.take_append_drop,List.take_append_drop]
     have l1:(some (V.ref D)::(σ++σ6)).zip (L.own D acc::(bO fi Z2++Z6))=(some (V.ref D),L.own D acc)::(σ.zip (bO fi Z2)++σ6.zip Z6):=by rw[ZR,ZA hul]
     have l2:(cy fi σ++(σ++[some (V.ref D)])).zip (Z6.drop Nt.length++(bO fi Z2++[L.own D acc]))=(cy fi σ).zip (Z6.drop Nt.length)++(σ.zip (bO fi Z2)++[(some (V.ref D),L.own D acc)]):=by rw[ZA hcd,ZA hul];rfl
     rw[l1,l2,l0];generalize (cy fi σ).zip (Z6.drop Nt.length)=z1;generalize σ.zip (bO fi Z2)=z2;generalize (σ6.take Nt.length).zip (Z6.take Nt.length)=z3;have p1:((some (V.ref D),L.own D acc)::(z2++(z3++z1))).Perm ((z2++[(some (V.ref D),L.own D acc)])++(z3++z1)):=by rw[Zo];exact List.perm_middle.symm
     refine p1.trans ?_;have p2:((z2++[(some (V.ref D),L.own D acc)])++(z3++z1)).Perm ((z3++z1)++(z2++[(some (V.ref D),L.own D acc)])):=ZL;refine p2.trans ?_;rw[Zo];exact ZL
    have a2:=aI.backs (σ:=σ++[some (V.ref D)]) (cs:=Z6.drop Nt.length) (Z:=bO fi Z2++[L.own D acc]) fi hnd (by rw[Z5,<- hlen6,<- Z5,dr6];simp[cy]) (λj hj=>by
     rw[ZG (by rw[gH];exact hjρ j hj)];exact CS fi Z2 j hj (hjρ j hj)) (λj hj=>by have:=hjσ j hj;simp;omega) (by rw[zt hjσ];exact a1)
    rw[wx λj hj=>by rw[gH];exact hjρ j hj]at a2;have hpl:σ.length=(iV fi (Z6.drop Nt.length) (bO fi Z2)).length:=by have:=a2.len;simpa using this
    refine hRR D s3.heap.objs.size s7 H6 acc (iV fi (Z6.drop Nt.length) (bO fi Z2)) m I8 hm f4.1 f4.2.1 I3.sz f4.2.2.2.2.1 f4.2.2.2.2.2 (a2.rearr (by simp[hpl]) [] ?_) (w6 D);rw[aai,ZA hpl,ZR];exact ZL (l₂:=[(some (V.ref D),L.own D acc)])
 exact codeAny_compStart_list (loop _ rfl) (T.self _ 0 _ _ _ (T.keep 0 _ _ st2 λb hb o e=>old4 b o (old3 b o e)) (loop _ rfl))
theorem dg{elt tg iter:Expr}{ifs:List Expr}{scope sc:Scope}{pos:Pos}{N Nt Nf:List Str}{fi:List Nat}{src:W (List D)}{g:Tg}{ti:W Bool}{te:W L}
  (hsc:X.env.scope=sc) (hXN:X.N=N) (hc:X.calm=true) (hi:Vd X tg iter src)
  (hkind:scope.kind=.function) (hnames:∀x∈scope.names,x.2=.local->scope.names.lookup x.1=some .local) (hcell:∀y∈scope.names,y.2≠.cell)
  (hfr:∀x∈scope.names,x.2=.free->sc.names.lookup x.1=some .cell∨sc.names.lookup x.1=some .free)
  (hnd:fi.Nodup) (hNf:Nf.map some=fi.map (λj=>N[j]?)) (hNk:∀x∈Nf,scope.names.lookup x=some .free) (hfl:∀j∈fi,j<N.length)
  (hg:∀cl s₀ H₀ fp,Vj (jZ X scope cl (Nt++Nf) s₀ H₀ fp) tg Nt.length g) (hti:∀cl s₀ H₀ fp,Vk (jZ X scope cl (Nt++Nf) s₀ H₀ fp) ifs ti) (hte:∀cl s₀ H₀ fp,PL (jZ X scope cl (Nt++Nf) s₀ H₀ fp) elt te)
  (hs:∀x,foldedSetIterable iter X.env x=pure x:=by intro _;rfl):PL X (.ListComp elt [⟨tg,iter,ifs,0⟩] scope pos) (gm Nt.length fi src g ti te):=by
 intro ab s σ H Pr Z k4 I E h;rw[eval_ListComp];refine zv (use:=none) hsc hXN hc hi hkind hnames hcell hfr hnd hNf hNk hfl hg hti hte I E h (λD C s7 H6 acc Z'' m I7 hm h1 h2 h3 h4 h5 E7 p=>?_) hs;exact⟨m,hm,λh' hsb=>⟨.ref D,H6,_,Z'',I7.turned (t':=s7.toks) (λb o hb e=>(hsb.2 b hb).trans e) h1 (Z4 (Z4 h2)) (.inr h3) h4 h5,rfl,E7,p⟩⟩
theorem xn{elt tg iter:Expr}{ifs:List Expr}{scope sc:Scope}{pos spos py:Pos}{y:Str}{j:Nat}{N Nt Nf:List Str}{fi:List Nat}{src:W (List D)}{g:Tg}{ti:W Bool}{te:W L}
  (hN:X.N.Nodup) (hj:X.N[j]?=some y) (hy:Ug X.env.scope y)
  (hsc:X.env.scope=sc) (hXN:X.N=N) (hc:X.calm=true) (hi:Vd X tg iter src)
  (hkind:scope.kind=.function) (hnames:∀x∈scope.names,x.2=.local->scope.names.lookup x.1=some .local) (hcell:∀y∈scope.names,y.2≠.cell)
  (hfr:∀x∈scope.names,x.2=.free->sc.names.lookup x.1=some .cell∨sc.names.lookup x.1=some .free)
  (hnd:fi.Nodup) (hNf:Nf.map some=fi.map (λj=>N[j]?)) (hNk:∀x∈Nf,scope.names.lookup x=some .free) (hfl:∀j∈fi,j<N.length)
  (hg:∀cl s₀ H₀ fp,Vj (jZ X scope cl (Nt++Nf) s₀ H₀ fp) tg Nt.length g) (hti:∀cl s₀ H₀ fp,Vk (jZ X scope cl (Nt++Nf) s₀ H₀ fp) ifs ti) (hte:∀cl s₀ H₀ fp,PL (jZ X scope cl (Nt++Nf) s₀ H₀ fp) elt te)
  (hsw:swapsWith (.ListComp elt [⟨tg,iter,ifs,0⟩] scope pos) (some (.Name y py)) spos.line X.env=pure true:=by rfl) (hf:X.fn y=true∨X.env.scope.names.lookup y=some .local:=by first|exact .inl rfl|exact .inr rfl|assumption)
  (hs:∀x,foldedSetIterable iter X.env x=pure x:=by intro _;rfl):PM X (.Assign [.Name y py] (.ListComp elt [⟨tg,iter,ifs,0⟩] scope pos) spos) (bq j (gm Nt.length fi src g ti te)):=by
 intro ab s σ H Pr Z k4 I E h;rw[exec_Assign_Name_used _ _ _ _ hsw];refine YE (aaY (YE ?_))
 show wpAny _ X.A (do let _ <- comprehension (.ListComp elt [⟨tg,iter,ifs,0⟩] scope pos) scope X.env (firstIterPos [⟨tg,iter,ifs,0⟩] pos) (newList []) false (eval iter X.env) (some (assign (.Name y py) X.env))) _ _ s
 refine YE (Ul (zv (use:=some (assign (.Name y py) X.env)) (Q:=λ_ s'=>SM X ab Pr k4 .next s') (k4:=λr Z1=>k4 .nx (Z1.set j r)) hsc hXN hc hi hkind hnames hcell hfr hnd hNf hNk hfl hg hti hte I E h (λD C s7 H6 acc Z'' m I7 hm h1 h2 h3 h4 h5 E7 p=>?_) hs) λ_ s' hq=>YX (YX hq))
 show wpAny _ X.A (assign (.Name y py) X.env (.ref D)) _ _ _;refine wpAny_assign_Name (y3 (v:=.ref D) I7 hN hj hy rfl (λs8 I8 ⟨a,sb,ha⟩=>?_) hf)
 have hCa:C≠a:=by
  rcases ha with z|z
  . rw[z];exact h2
  . exact λq=>h4 y a z q.symm
 refine⟨m,hm.sameBut sb hCa,λh' hsb=>⟨_,H6,_,I8.turned (t':=s8.toks) (λb o hb e=>(hsb.2 b hb).trans e) h1 h2 (.inr h3) h4 h5,E7.store (by rw[I7.len];exact(YA.mp hj).1),p⟩⟩
end
section
variable{X:Cx}{e a b:Expr}{pos:Pos}{ta tb te:W L}{x y:Str}
def Ra(i j:Nat)(ta tb:W L):W Fl:=λZ k4=>ta Z λr Z1=>U2 r λv=>tb Z1 λr2 Z2=>U2 r2 λw=>k4 .nx ((Z2.set i (.d v)).set j (.d w))
theorem LP{i j:Nat}{px py pt:Pos} {kt k2 pt2} (hc:X.calm=true) (hN:X.N.Nodup) (hi:X.N[i]?=some x) (hj:X.N[j]?=some y) (hij:i≠j)
  (hx:X.env.scope.names.lookup x=some .local) (hy:X.env.scope.names.lookup y=some .local) (ha:PL X a ta) (hb:PL X b tb)
  (hw:swappedStores [.Tuple [.Name x px,.Name y py] kt pt] (.Tuple [a,b] k2 pt2) X.env=pure (some [x,y]))
  (hs:swapsWithSole [.Tuple [.Name x px,.Name y py] kt pt] (.Tuple [a,b] k2 pt2) pos.line X.env=pure false:=by rfl)
  (h1:starEach [a,b] X.env=(false,eval a X.env)::starEach [b] X.env:=by rfl) (h2:starEach [b] X.env=[(false,eval b X.env)]:=by rfl) :
  PM X (.Assign [.Tuple [.Name x px,.Name y py] kt pt] (.Tuple [a,b] k2 pt2) pos) (Ra i j ta tb):=by
 refine PM.of (O8 hc hN hi hj hij hx hy (gA (ay ha).pe (gA (ay hb).pe rg h2) h1) hw hs) λσ H Pr Z k4 b0 E h=>?_
 refine⟨Pr,Z,λr Z1=>match r with
  |.d v=>tb Z1 λr2 Z2=>U2 r2 λw=>k4 .nx ((Z2.set i (.d v)).set j (.d w))
  |_=>False,E,h,λv H1 r Z1 E1 pp=>?_⟩
 cases r with
 | d dv =>
  refine⟨bK H1 Z1,Z1,λr Z2=>match r with
   |.d w=>k4 .nx ((Z2.set i (.d dv)).set j (.d w))
   |_=>False,E1.tail.wide,pp,λw H2 r2 Z2 E2 pp=>?_⟩
  cases r2 with
  | d dw =>
   have E3:aI X.K Pr H2 (some w::some v::σ) (.d dw::.d dv::Z2):=aI.step (τ:=[some v]) (lam:=[.d dv]) (w:=[some w]) (μ:=[.d dw]) E1 rfl E2 rfl;have il:i<σ.length:=by rw[b0];exact(YA.mp hi).1
   have jl:j<σ.length:=by rw[b0];exact(YA.mp hj).1
   obtain⟨_,e1,r1⟩:=E3.head_d;cases e1;have E4:aI X.K Pr H2 (σ.set i (some v)) (Z2.set i (.d dv)):=E3.tail.store il;exact⟨v,w,rfl,_,(E4.cons_d r1).store (by simpa using jl),pp⟩
  |_=>exact pp.elim
 |_=>exact pp.elim
def El(is:List Nat)(te:W L):W Fl:=λZ k4=>te Z λr Z1=>U2 r λv=>dH is v Z1 λZ2=>k4 .nx Z2
theorem xo{tg:Expr}{is:List Nat}(hg:Vb X tg (dH is))(he:PL X e te)(hs:swapsWithSole [tg] e pos.line X.env=pure false:=by rfl)(hw:swappedStores [tg] e X.env=pure none:=by rfl)
  (h1:(assignEach [tg] X.env).map (·.2)=[assign tg X.env]:=by rfl):PM X (.Assign [tg] e pos) (El is te):=by
 intro ab s σ H Pr Z k4 I E h;obtain⟨gg,hg,hgg⟩:=hg;refine wpAny_Assign_stores (Ul (he ab s σ H Pr Z _ I E h) λv s1 q=>?_) hs hw;obtain⟨w,H1,d,Z1,I1,r1,E1,q1⟩:=EL.frz (k4:=λd Z1=>dH is d Z1 λZ2=>k4 .nx Z2) q;rw[h1];obtain⟨_,e1,p1⟩:=E1.head_d;cases e1;exact Ul (hg ab s1 σ H1 w v _ I1 r1 (hgg w σ H1 Pr Z1 d _ I1.len E1.tail p1 q1)) λ_ s2 ⟨σ',H',I',e',_,Z',E',q⟩=>by subst e';exact⟨σ',_,Z',I',E',q⟩
noncomputable def tN:D->Bool
 |.non=>true | .bl _=>true | .int _=>true | .str _=>true
 |_=>false
noncomputable def Vm:D->D->Bool
 |.non,.non=>true
 |.bl a,.bl b=>a == b
 |.bl a,.int b=>(if a then 1 else 0) == b
 |.int a,.bl b=>a == (if b then 1 else 0)
 |.int a,.int b=>a == b
 |.str a,.str b=>a == b
 |_,_=>false
theorem xq{K:W.Frag}{H:Hp}{v:V}{d:D}(r:UW K H v d)(h:tN d=true):vx v=true:=by cases r<;>first|rfl|(exact absurd h (by simp[tN]))
theorem PV{K:W.Frag}{H:Hp}{v w:V}{d f:D}(r:UW K H v d)(q:UW K H w f)(h:tN d=true)(h':tN f=true):UM v w=Vm d f:=by cases r<;>cases q<;>first|rfl|(exact absurd h (by simp[tN]))|(exact absurd h' (by simp[tN]))
noncomputable def UT(x:D)(ys:List D):Bool:=ys.any λy=>Vm y x
theorem Gf{K:W.Frag}{H:Hp}{v:V}{x:D}(r:UW K H v x)(h:tN x=true):∀{vs:List V}{ys:List D},bX K H vs ys->ys.all tN=true->UO v vs=UT x ys/\vs.all vx=true
 |_,_,.nil,_=>⟨rfl,rfl⟩
 | _,_,.cons r0 t,ha=>by rw[List.all_cons,YV]at ha;obtain⟨i1,i2⟩:=Gf r h t ha.2;unfold UO UT at i1 ⊢;rw[aaF,aaF,List.all_cons,i1,PV r0 r ha.1 h,xq r0 ha.1,i2];exact⟨rfl,rfl⟩
def JN(neg:Bool):U3:=λx y k=>tN x=true/\ky y λys=>ys.all tN=true/\k (.d (.bl (if neg then !UT x ys else UT x ys)))
theorem PX:U4 X (compareOp .In) (JN false):=U4.of FM λσ H Pr Z x y dx dy k4 E px py ⟨hx,h⟩=>by
 cases py with
 | lst hz rs =>
  obtain⟨ha,h⟩:=h;obtain⟨i1,i2⟩:=Gf px hx rs ha;exact⟨_,_,rfl,.inl hz.l,xq px hx,i2,_,E.cons_d (.bl _),by rw[i1];exact h⟩
 | tup hz rs =>
  obtain⟨ha,h⟩:=h;obtain⟨i1,i2⟩:=Gf px hx rs ha;exact⟨_,_,rfl,.inr hz,xq px hx,i2,_,E.cons_d (.bl _),by rw[i1];exact h⟩
 |_=>exact h.elim
def Vn(X:Cx)(lo:Option Expr)(t:Option (W L)):Prop:=match lo,t with
 |none,none=>True
 |some e,some t=>PL X e t
 |_,_=>False
theorem zw{K:W.Frag}{H:Hp}{vs:List V}{xs:List D}(r:bX K H vs xs)(l u:Option Int):bX K H (LG vs l u) (Gd xs l u):=by unfold LG Gd;rw[r.length];exact(r.drop _).take _
noncomputable def Vo(K:W.Frag)(t:Option (W L)):TO:=λσ H Q=>∃Pr Z k4,aI K Pr H σ Z/\Ej t Z k4/\∀i H' Z',aI K Pr H' σ Z'->k4 i Z'->Q i H'
theorem PY{lo:Option Expr}{t:Option (W L)}(h:Vn X lo t):PO X lo (Vo X.K t):=by
 cases lo with
 | none =>
  cases t with
  | none =>
   intro ab s σ H Q I ⟨Pr,Z,k4,E,hw,q⟩;exact MG ab s σ H Q I (q none H Z E hw)
  |some t=>exact h.elim
 | some e =>
  cases t with
  |none=>exact h.elim
  | some t =>
   intro ab s σ H Q I ⟨Pr,Z,k4,E,hw,q⟩;refine MH (PL.pe (show PL X e t from h)) ab s σ H Q I ⟨Pr,Z,_,E,hw,λv H' r Z' E' pp=>?_⟩;obtain⟨i,rfl,pp⟩:=fz pp;obtain⟨_,e1,p1⟩:=E'.head_d;cases e1;obtain rfl:=UW.inv_int p1;exact⟨i,rfl,q (some i) H' Z' E'.tail pp⟩
end
def PZ{α:Type}(o:Option L)(t u:W α)(Z:Ev)(k4:α->Ev->Prop):Prop:=match o with
 |some (.own _ _)=>t Z k4
 |_=>u Z k4
noncomputable def eR{α:Type}(i:Nat)(t u:W α):W α:=λZ k4=>PZ Z[i]? t u Z k4
theorem JO{α:Type}(a:Addr)(xs:List D)(t u:W α)(Z:Ev)(k4:α->Ev->Prop):PZ (some (.own a xs)) t u Z k4=t Z k4:=rfl
theorem P0{α:Type}(x:D)(t u:W α)(Z:Ev)(k4:α->Ev->Prop):PZ (some (.d x)) t u Z k4=u Z k4:=rfl
theorem Nc{α:Type}(a:Option Addr)(ls:List L)(t u:W α)(Z:Ev)(k4:α->Ev->Prop):PZ (some (.bx a ls)) t u Z k4=u Z k4:=rfl
theorem gJ{X:Cx}{e:Expr}{i:Nat}{t u:W L}(h:PL X e t)(h':PL X e u):PL X e (eR i t u):=λab s σ H Pr Z k4 I E q=>by
 unfold eR PZ at q;split at q
 . exact h ab s σ H Pr Z k4 I E q
 . exact h' ab s σ H Pr Z k4 I E q
theorem Nd{K:W.Frag}{c:Str}{C:Addr}{T:String}(h:we K c C=true)(hm:W.kitMeta T=true):W.kitOne K (.ref C) (.type T)=some ((["ValueError","Exception","BaseException","object"]:List String).contains T):=by obtain⟨L,cd,S⟩:=zk h;unfold W.kitOne W.kitCls;rw[if_neg (show ¬((Value.ref C == Value.type T)=true)from λz=>by cases z)];dsimp only;rw[if_pos hm];show W.mroIn K C (.type T)=_;rw[S.mroIn,tj]
theorem zx{T:String}(h0:∀K d,(∀c ns xs,d≠.exc c ns xs)->W.kitOne K (Vh d) (.type T)=some (p6 T d))(hm:W.kitMeta T=true):∀K d t,Vi K d t->W.kitOne K t (.type T)=some (p6 T d):=by
 intro K d t h
 cases d with
 | exc c ns xs =>
  obtain⟨C,e,h⟩:=h;rw[e];exact Nd h hm
 |_=>cases h;exact h0 K _ (λ_ _ _ z=>nomatch z)
theorem Ng:∀ K d t,Vi K d t->W.kitOne K t (.type "int")=some (p6 "int" d):=zx (λK d hd=>by cases d <;> first | rfl | exact absurd rfl (hd _ _ _)) y_
theorem JP:∀ K d t,Vi K d t->W.kitOne K t (.type "bool")=some (p6 "bool" d):=zx (λK d hd=>by cases d <;> first | rfl | exact absurd rfl (hd _ _ _)) y_
theorem Nh:∀ K d t,Vi K d t->W.kitOne K t (.type "str")=some (p6 "str" d):=zx (λK d hd=>by cases d <;> first | rfl | exact absurd rfl (hd _ _ _)) y_
theorem JQ:∀ K d t,Vi K d t->W.kitOne K t (.type "list")=some (p6 "list" d):=zx (λK d hd=>by cases d <;> first | rfl | exact absurd rfl (hd _ _ _)) y_
theorem zy:∀ K d t,Vi K d t->W.kitOne K t (.type "tuple")=some (p6 "tuple" d):=zx (λK d hd=>by cases d <;> first | rfl | exact absurd rfl (hd _ _ _)) y_
def Bj(K:W.Frag)(mg:Str->Option Value)(x:Str)(d:D):Prop:=∃v u,mg x=some u/\cJ v u/\∀H,UW K H v d
theorem lT{X:Cx}{x:Str}{d:D}{pos:Pos}(g:Bj X.K X.mg x d)(hg:Gl X x) (hdb:adf x:=by decide):PL X (.Name x pos) (wC d):=by obtain⟨v,u,h1,h2,h3⟩:=g;exact MW hg h1 h2 h3 hdb
def Rx(o:Obj)(d:D):Prop:=∃ its n vs ds,d=.tup ds/\o.cls=.type "tuple"/\o.data=.seq its n/\its.size<=sizeLine/\cC vs its.toList/\∀ K H,bX K H vs ds
theorem CU{K:W.Frag}{mg:Str->Option Value}{x:Str}{d:D}{l:Addr}{o:Obj}(h1:mg x=some (.ref l))(h2:K.lookup l=some o)(h3:Rx o d):Bj K mg x d:=by obtain⟨its,n,vs,ds,rfl,hc,hd,hz,hv,hr⟩:=h3;exact⟨.ref l,_,h1,rfl,λH=>.tup (.inr ⟨o,its,n,h2,hc,hd,hz,hv⟩) (hr K H)⟩
theorem CV{K:W.Frag}{mg:Str->Option Value}{x:Str}{s:Str}{t:Tok}(h1:mg x=some (.str s t)):Bj K mg x (.str s):=⟨.str s,_,h1,⟨t,rfl⟩,λH=>.str s⟩
theorem oJ{K:W.Frag}{H:Hp}:∀ns:List Int,bX K H (ns.map V.int) (ns.map D.int)
 |[]=>.nil
 |n::ns=>.cons (.int n) (oJ ns)
theorem Gg{K:W.Frag}{H:Hp}{a:Addr}{ns:List Int}{fs:FS}{n:Nat}(hl:ns.length<=n)(hO:Q8 H)(hS:Up K H a (ns.map V.int))(h:fs [.d (.lst (ns.map .int))] (λr _=>r=.d (.bl true))):spF K 1 fs [.ref a] H (λv _=>v=.bl true) λ_ _ _=>False:=by
 have hz:UV K H a (ns.map V.int):=by
  rcases hS with(h|⟨o,h⟩)|h
  .
   rcases hO a with z|⟨o,xs,z⟩|⟨q,z⟩
   . rw[z]at h;cases h
   . rw[z]at h;cases h
   . rw[z]at h;cases h
  . exact .inl ⟨o,h⟩
  . exact .inr h
 refine⟨rfl,λ_=>none,[.d (.lst (ns.map .int))],_,⟨(λb o e=>nomatch e),(show([]:List Addr).Nodup from List.nodup_nil),(λa h=>absurd (show a∈([]:List Addr)from h) x_),.cons ⟨.ref a,rfl,.lst hz (oJ ns)⟩ .nil⟩,h,λv H' r ls' E p=>?_⟩;subst p;obtain⟨_,e,r⟩:=E.head_d;cases e;obtain rfl:=UW.inv_bl r;rfl
section
variable{X:Cx}
def Em:U3:=λx y k=>match y with
 |.non=>k (.d (.bl (match x with | .non=>true|_=>false)))
 |_=>False
def CW:U3:=λx y k=>match y with
 |.non=>k (.d (.bl (match x with | .non=>false|_=>true)))
 |_=>False
theorem Gh:U4 X (compareOp .Is) Em:=PR.imp λx y k h=>by
 unfold Em at h;split at h
 . exact⟨rfl,h⟩
 . exact h.elim
theorem JR:U4 X (compareOp .IsNot) CW:=M7.imp λx y k h=>by
 unfold CW at h;split at h
 . exact⟨rfl,h⟩
 . exact h.elim
end
end L2
namespace L2
open PySem
theorem CY(a b:Int):Int.gcd b (a.fmod b)=Int.gcd a b:=by rw[Int.fmod_def,Int.gcd_sub_mul_left_right,Int.gcd_comm]
theorem mv(a:Int){b:Int}(h:b≠0):(a.fmod b).natAbs<b.natAbs:=by
 rw[Int.fmod_eq_emod];have h1:=aaQ a h;have h2:a % b<(b.natAbs:Int):=Int.emod_lt a h;split
 . omega
 . rename_i q;have:a % b≠0:=λe=>q (.inr (Int.dvd_of_emod_eq_zero e));omega
noncomputable def Vp(q:Rat):D:=.tup [.int q.num,.int (q.den:Int)]
theorem Bk{t b:Int}(h:b≠0):0<Int.gcd t b:=Int.gcd_pos_of_ne_zero_right _ h
noncomputable def dh(t b:Int):Int:=if b<0 then -(Int.gcd t b:Int)else(Int.gcd t b:Int)
theorem CZ{t b:Int}(h:b≠0):dh t b≠0:=by have:=Bk (t:=t) h;unfold dh;split<;>omega
theorem Gi(t b:Int):(dh t b).natAbs=Int.gcd t b:=by unfold dh;split<;>omega
theorem C0{t b:Int}(h:b≠0):(dh t b).natAbs<=b.natAbs:=by rw[Gi];exact ZU xL (by have:=Int.gcd_dvd_right t b;exact Int.natAbs_dvd_natAbs.mpr this |> λq=>by simpa using q)
theorem tO{a g:Int}(hg:g≠0)(h:g∣a):a.fdiv (-g)=-(a / g):=by obtain⟨k,rfl⟩:=h;rw[Int.mul_ediv_cancel_left _ hg,show g*k=(-g)*(-k) by rw[Int.neg_mul_neg],Int.mul_fdiv_cancel_left _ xL]
theorem Gj{t b:Int}(h:b≠0):t.fdiv (dh t b)=(Rat.divInt t b).num:=by
 have hg:=Bk (t:=t) h;have hd:(Int.gcd t b:Int)∣t:=Int.gcd_dvd_left t b;rw[Rat.num_divInt,Int.gcd_comm b t];unfold dh;split
 . rename_i hb;rw[tO xL hd,Int.sign_eq_neg_one_of_neg hb,Int.neg_one_mul,Int.neg_ediv_of_dvd hd]
 . rename_i hb;rw[Int.sign_eq_one_of_pos xL,Int.one_mul,ZP _ xL]
theorem Ni{t b:Int}(h:b≠0):b.fdiv (dh t b)=((Rat.divInt t b).den:Int):=by
 have hg:=Bk (t:=t) h;have hd:(Int.gcd t b:Int)∣b:=Int.gcd_dvd_right t b;rw[Rat.den_divInt,if_neg h,Int.gcd_comm b t,Int.natCast_ediv];unfold dh;split
 .
  rename_i hb;rw[tO xL hd,<- Int.neg_ediv_of_dvd hd]
  congr 1
  omega
 .
  rename_i hb;rw[ZP _ xL]
  congr 1
  omega
theorem C1{t b:Int}(h:b≠0):(Rat.divInt t b).den<=b.natAbs:=by rw[Rat.den_divInt,if_neg h];exact Nat.div_le_self _ _
theorem LQ{t b:Int}(h:b≠0):(Rat.divInt t b).num.natAbs<=t.natAbs:=by rw[<- Gj h];exact PySem.natAbs_fdiv_le _ _
theorem den_pos(q:Rat):0<q.den:=Nat.pos_of_ne_zero q.den_nz
theorem zz(p q:Rat):Rat.divInt (p.num*(q.den:Int)+q.num*(p.den:Int)) ((p.den:Int)*(q.den:Int))=p+q:=by have hp:=den_pos p;have hq:=den_pos q;have:=Rat.divInt_add_divInt p.num q.num (d₁:=(p.den:Int)) (d₂:=(q.den:Int)) xL xL;rw[Zk,Zk]at this;exact this.symm
theorem LR(p q:Rat):Rat.divInt (p.num*(q.den:Int)-q.num*(p.den:Int)) ((p.den:Int)*(q.den:Int))=p-q:=by have:=zz p (-q);rw[ZY,<- this];simp only[Rat.neg_num,Rat.neg_den,Int.neg_mul,Int.sub_eq_add_neg]
def RB(n:Nat)(q:Rat):Prop:=q.num.natAbs<2^n/\q.den<2^n
theorem RB.mono{m n:Nat}{q:Rat}(h:RB m q)(hl:m<=n):RB n q:=⟨so h.1 (YF xp hl),so h.2 (YF xp hl)⟩
theorem RB.neg{n:Nat}{q:Rat}(h:RB n q):RB n (-q):=⟨by rw[Rat.neg_num,Int.natAbs_neg];exact h.1,by rw[Rat.neg_den];exact h.2⟩
theorem RB.bn{n:Nat}{q:Rat}(h:RB n q)(hl:n<=1000000):bB q.num:=so h.1 (YF xp hl)
theorem RB.bd{n:Nat}{q:Rat}(h:RB n q)(hl:n<=1000000):bB (q.den:Int):=by unfold bB;rw[YI];exact so h.2 (YF xp hl)
theorem aZ{a b m n:Nat}(h1:a<2^m)(h2:b<2^n):a*b<2^(m+n):=by rw[aaq];exact Nat.mul_lt_mul'' h1 h2
theorem RB.add{m n:Nat}{p q:Rat}(hp:RB m p)(hq:RB n q):RB (m+n+1) (p+q):=by
 have dp:=den_pos p;have dq:=den_pos q;have hne:((p.den:Int)*(q.den:Int))≠0:=ZN xL xL;rw[<- zz p q];have a1:=aZ hp.1 hq.2;have a2:=aZ hq.1 hp.2;have a3:=aZ hp.2 hq.2;have e:(2:Nat)^(m+n+1)=2^(m+n)+2^(m+n):=by rw[Nat.pow_succ];omega
 rw[Nat.add_comm n m]at a2;constructor
 . refine YL (LQ hne) ?_;refine YL (Int.natAbs_add_le _ _) ?_;rw[Zn,Zn,YI,YI,e];omega
 . refine YL (C1 hne) ?_;rw[Zn,YI,YI,e];omega
theorem En(p q:Rat):(p+q).den<=p.den*q.den:=by have dp:=den_pos p;have dq:=den_pos q;have hne:((p.den:Int)*(q.den:Int))≠0:=ZN xL xL;rw[<- zz p q];have:=C1 (t:=p.num*(q.den:Int)+q.num*(p.den:Int)) hne;rw[Zn,YI,YI]at this;exact this
@[simp] theorem tP(i j:Int):Vf (.int i) (.int j)=decide (i=j):=by simp[Vf,Ve,PyData.eqv];by_cases h:i=j<;>simp[h]
@[simp] theorem Gk(i j:Str):Vf (.str i) (.str j)=decide (i=j):=by simp[Vf,Ve,PyData.eqv];by_cases h:i=j<;>simp[h]
@[simp] theorem P1(i j:Bool):Vf (.bl i) (.bl j)=decide (i=j):=by simp[Vf,Ve,PyData.eqv];cases i<;>cases j<;>rfl
@[simp] theorem Eo(i:Int):gE (.int i):=rfl
@[simp] theorem Gm(i:Bool):gE (.bl i):=rfl
@[simp] theorem Ep:gE .non:=rfl
mutual
noncomputable def Vq:Nat->D->Bool
 |_,.non=>true
 |_,.bl _=>true
 |_,.int _=>true
 |_,.str x=>PyData.strOk x
 |0,.tup _=>false
 |0,.lst _=>false
 |n+1,.tup xs=>Gn n xs
 |n+1,.lst xs=>Gn n xs
 |_,.dct _=>false
 |_,.exc _ _ _=>false
 |_,.fn _ _=>false
 |_,.dk _ _=>false
 |_,.gf _=>false
noncomputable def Gn:Nat->List D->Bool
 |_,[]=>true
 |n,x::xs=>Vq n x && Gn n xs
end
mutual
theorem xr:∀(n:Nat)(d:D),Vq n d=true->(Ve d).canLay0=true/\(Ve d).depth<=n
 |_,.non,_=>⟨rfl,aae _⟩
 |_,.bl _,_=>⟨rfl,aae _⟩
 |_,.int _,_=>⟨rfl,aae _⟩
 |_,.str x,h=>⟨by simpa[Vq,Ve,PyData.canLay0]using h,aae _⟩
 |0,.tup _,h=>by simp[Vq]at h
 |0,.lst _,h=>by simp[Vq]at h
 | n+1,.tup xs,h=>by
  obtain⟨h1,h2⟩:=xt n xs (by simpa[Vq]using h)
  exact⟨h1,Nat.succ_le_succ h2⟩
 | n+1,.lst xs,h=>by
  obtain⟨h1,h2⟩:=xt n xs (by simpa[Vq]using h)
  exact⟨h1,Nat.succ_le_succ h2⟩
 |_,.dct _,h=>by simp[Vq]at h
 |_,.exc _ _ _,h=>by simp[Vq]at h
 |_,.fn _ _,h=>by simp[Vq]at h
 |_,.dk _ _,h=>by simp[Vq]at h
 |_,.gf _,h=>by simp[Vq]at h
theorem xt:∀(n:Nat)(ds:List D),Gn n ds=true->PyData.canLayAll0 (gy ds)=true/\PyData.depthAll (gy ds)<=n
 |_,[],_=>⟨rfl,aae _⟩
 | n,d::ds,h=>by
  have h':Vq n d=true/\Gn n ds=true:=by simpa[Gn]using h
  obtain⟨a1,a2⟩:=xr n d h'.1
  obtain⟨b1,b2⟩:=xt n ds h'.2
  exact⟨by simp[gy,PyData.canLayAll0,a1,b1],by simp only[gy,PyData.depthAll];omega⟩
end
theorem ji{n:Nat}{d:D}(h:Vq n d=true)(hn:n<=64):gE d:=by obtain⟨h1,h2⟩:=xr n d h;unfold gE SeqAt.shaped;rw[h1,Zg xL];rfl
theorem Gp(xs ys:List D):Vf (.tup xs) (.tup ys)=PyData.eqvAll (gy xs) (gy ys):=by simp[Vf,Ve,PyData.eqv]
theorem Nj(xs ys:List D):Vf (.lst xs) (.lst ys)=PyData.eqvAll (gy xs) (gy ys):=by simp[Vf,Ve,PyData.eqv]
theorem kB(x y:D)(xs ys:List D):PyData.eqvAll (gy (x::xs)) (gy (y::ys))=(Vf x y && PyData.eqvAll (gy xs) (gy ys)):=by simp[gy,PyData.eqvAll,Vf]
theorem xu:PyData.eqvAll (gy []) (gy [])=true:=by simp[gy,PyData.eqvAll]
theorem JS{n:Nat}{d:D}(h:Vq n d=true):Vf d d=true:=SeqAt.eqv_refl _ (xr n d h).1
theorem JT(q:Rat):gE (Vp q):=ji (n:=1) (by simp[Vp,Vq,Gn]) xp
theorem P2(p q:Rat):Vf (Vp p) (Vp q)=decide (p=q):=by
 unfold Vp;rw[Gp,kB,kB,xu,tP,tP,Bool.and_true];by_cases h:p=q
 . subst h;simp
 .
  rw[YZ h];by_cases h1:p.num=q.num
  . have:¬((p.den:Int)=(q.den:Int)):=λe=>h (Rat.ext h1 xL);simp[this]
  . simp[h1]
end L2
namespace L2
open PySem PySem.Spec PyProof.Rows
section
variable{X:Cx}{a b c:Expr}{pos p:Pos}{ta tb tc:W L}
def zA(o o':U3)(ta tb tc:W L):W L:=λZ k4=>ta Z λr Z1=>pZ r λi=>tb Z1 λr Z2=>pZ r λj=>o (.int i) (.int j) λz=>Ec z λk=>if k=true then tc Z2 λr Z3=>pZ r λl=>o' (.int j) (.int l) λz=>k4 z Z3 else k4 (.d (.bl false)) Z2
def Rb(X:Cx)(op:CmpOp)(o:U3):Prop:=∃f:Int->Int->Bool,Ux X (compareOp op) (UA λi j=>.bl (f i j))/\∀i j k,o (.int i) (.int j) k->k (.d (.bl (f i j)))
theorem P4:Rb X .Lt wq:=⟨_,Pe,λ_ _ _ h=>h⟩
theorem P5:Rb X .LtE MZ:=⟨_,Pf,λ_ _ _ h=>h⟩
theorem JU{op op':CmpOp}{o o':U3}{f f':Int->Int->Bool}(h1:∀i j k,o (.int i) (.int j) k->k (.d (.bl (f i j))))(h2:∀i j k,o' (.int i) (.int j) k->k (.d (.bl (f' i j))))
  (σ:St) (H Pr:Hp) (Z:Ev) (k4:L->Ev->Prop) (Q:VK) (hQ:∀v H' r Z',aI X.K Pr H' (some v::σ) (r::Z')->k4 r Z'->Q v H') (E:aI X.K Pr H σ Z) (h:zA o o' ta tb tc Z k4) :
  LC (UA λi j=>.bl (f i j)) (UA λi j=>.bl (f' i j)) (tL X.K ta) (tL X.K tb) (tL X.K tc) σ H Q:=by
 refine⟨Pr,Z,_,E,h,λv H1 r Z1 E1 p=>?_⟩;obtain⟨i,rfl,p⟩:=fz p;obtain⟨_,e1,r1⟩:=E1.head_d;cases e1;obtain rfl:=UW.inv_int r1;refine⟨Pr,Z1,_,E1.tail,p,λv H2 r Z2 E2 p=>?_⟩;obtain⟨j,rfl,p⟩:=fz p;obtain⟨_,e1,r1⟩:=E2.head_d;cases e1;obtain rfl:=UW.inv_int r1;refine⟨i,j,rfl,rfl,f i j,rfl,?_⟩;have q:=h1 i j _ p
 cases hk:f i j with
 | false =>
  rw[hk]at q;exact hQ _ _ _ Z2 (E2.tail.cons_d (.bl false)) q
 | true =>
  rw[hk]at q;refine⟨Pr,Z2,_,E2.tail,q,λv H3 r Z3 E3 p=>?_⟩;obtain⟨l,rfl,p⟩:=fz p;obtain⟨_,e1,r1⟩:=E3.head_d;cases e1;obtain rfl:=UW.inv_int r1;exact⟨j,l,rfl,rfl,hQ _ _ _ Z3 (E3.tail.cons_d (.bl _)) (h2 j l _ p)⟩
theorem C2{op op':CmpOp}{o o':U3}(ho:Rb X op o)(ho':Rb X op' o')(ha:PL X a ta)(hb:PL X b tb)(hc:PL X c tc)(hm:lastMarks [op,op'] [b,c]=false:=by with_unfolding_all rfl) :
  PL X (.Compare a [op,op'] [b,c] pos) (zA o o' ta tb tc):=by
 obtain⟨f,r1,h1⟩:=ho;obtain⟨f',r2,h2⟩:=ho';exact PL.of (Js r1 r2 ha.pe hb.pe hc.pe hm) λσ H Pr Z k4 E h=>JU (op:=op) (op':=op') h1 h2 σ H Pr Z k4 _ (λv H' r Z' E' p=>⟨r,Z',E',p⟩) E h
end
end L2
namespace L2
open PySem PySem.Spec PyProof.Rows PySem.Builtin.Str
section
variable{X:Cx}{a:Expr}{pos p2:Pos}{ta:W L}{x:Str}
theorem P6:UG X (λx lo hi H Q=>∃z,x=.str z/\z.length<=sizeLine/\Q (.str (Txt.slice z lo hi)) H):=by
 intro ab s σ H x v vl vu lo hi sl Q I rx hs pl pu h;obtain⟨z,rfl,hz,q⟩:=h;obtain⟨t,rfl⟩:=rx;refine⟨"str",_,F.slot_str_getitem.lookup,typeIs_str _ _ _,?_⟩
 obtain⟨l',rfl,rfl⟩:∃l':Option (Int×Tok),vl=partValue l'/\lo=l'.map (·.1):=by
  cases pl
  . exact⟨none,rfl,rfl⟩
  . exact⟨some (_,_),rfl,rfl⟩
 obtain⟨u',rfl,rfl⟩:∃l':Option (Int×Tok),vu=partValue l'/\hi=l'.map (·.1):=by
  cases pu
  . exact⟨none,rfl,rfl⟩
  . exact⟨some (_,_),rfl,rfl⟩
 exact wpAny_getItem_str_slice (l:=l') (u:=u') (st:=none) hs rfl (post_val_or_str ⟨YH (Txt.slice_le z _ _) hz,λt' k=>⟨.str _,H,I.tok k,⟨t',rfl⟩,q⟩⟩)
def P7(ta:W L)(lo hi:Option (W L)):W L:=λZ k4=>ta Z λr Z1=>U2 r λd=>Ej lo Z1 λl Z2=>Ej hi Z2 λu Z3=>match d with
 |.lst xs=>∀a,k4 (.own a (Gd xs l u)) Z3
 |.str z=>z.length<=sizeLine/\k4 (.d (.str (Txt.slice z l u))) Z3
 |.tup xs=>¬(HT.sIx xs.length 0 l=0/\HT.sIx xs.length xs.length u=xs.length)/\k4 (.d (.tup (Gd xs l u))) Z3
 |_=>False
theorem tQ{lo hi:Option Expr}{tl th:Option (W L)}(ha:PL X a ta)(hl:Vn X lo tl)(hh:Vn X hi th):PL X (.Subscript a (.Slice lo hi none p2) pos) (P7 ta tl th):=by
 refine PL.of (Jw (UG.or MI (UG.or P6 Pj)) (ay ha).pe (PY hl) (PY hh)) λσ H Pr Z k4 E h=>?_
 refine⟨Pr,Z,λr Z1=>match r with
  | .d d=>Ej tl Z1 λl Z2=>Ej th Z2 λu Z3=>match d with
   |.lst xs=>∀a,k4 (.own a (Gd xs l u)) Z3
   |.str z=>z.length<=sizeLine/\k4 (.d (.str (Txt.slice z l u))) Z3
   |.tup xs=>¬(HT.sIx xs.length 0 l=0/\HT.sIx xs.length xs.length u=xs.length)/\k4 (.d (.tup (Gd xs l u))) Z3
   |_=>False
  |_=>False,E,h,λv H1 r Z1 E1 pp=>?_⟩
 cases r with
 | d d =>
  obtain⟨_,e1,p1⟩:=E1.head_d;cases e1;refine⟨bK H1 Z1,Z1,_,E1.tail.wide,pp,λl H2 Z2 E2 pp=>?_⟩;have F2:aI X.K Pr H2 (some v::σ) (.d d::Z2):=aI.step (τ:=[some v]) (lam:=[.d d]) (w:=[]) (μ:=[]) E1 rfl E2 rfl;refine⟨bK H2 Z2,Z2,_,F2.tail.wide,pp,λu H3 Z3 E3 pp=>?_⟩;have F3:aI X.K Pr H3 (some v::σ) (.d d::Z3):=aI.step (τ:=[some v]) (lam:=[.d d]) (w:=[]) (μ:=[]) F2 rfl E3 rfl;obtain⟨_,e1,p1⟩:=F3.head_d;cases e1
  cases p1 with
  |lst hz rs=>exact .inl ⟨_,_,rfl,hz.l,λq hq=>⟨_,_,F3.tail.cons_own hq (zw rs l u),pp q⟩⟩
  |str z=>exact .inr (.inl ⟨z,rfl,pp.1,_,_,F3.tail.cons_d (.str _),pp.2⟩)
  |tup hz rs=>exact .inr (.inr ⟨_,_,rfl,hz,by rw[rs.length];exact pp.1,λq hq=>⟨_,_,F3.tail.cons_tup hq (zw rs l u),pp.2⟩⟩)
  |_=>exact pp.elim
 |_=>exact pp.elim
def Ry(K:W.Frag):V->List V->Hp->VK->Prop:=λx vs H Q=>∃z a ys zs,x=.str z/\vs=[.ref a]/\(Up K H a ys∨Uq K H a ys)/\ys=zs.map V.str/\(zs.map (·.length)).sum+zs.length*z.length<=16777216/\Q (.str (Txt.join z zs)) H
theorem tR:∀{zs:List Str}{us:List Value},cC (zs.map V.str) us->StrsAre us zs
 |[],_,.nil=>.nil
 | z::zs,_,.cons r t=>by obtain⟨t',rfl⟩:=r;exact .cons z t' (tR t)
theorem Nk:UL X "str.join" (Ry X.K):=by
 intro ab s σ H x vs v us Q I rx rv h;obtain⟨z,a,ys,zs,rfl,rfl,hq,rfl,hz,q⟩:=h;obtain⟨t,rfl⟩:=rx;obtain⟨u,rfl,ru⟩:=rv.one;cases ru;rcases hq with hq|hq
 . obtain⟨its,r,pl,_⟩:=I.list hq;exact join_list pl.isList (by simpa using tR r) hz λt' k=>⟨.str _,H,I.tok k,⟨t',rfl⟩,q⟩
 . obtain⟨its,r,pl,_⟩:=I.tuple hq;exact join_tuple pl (by simpa using tR r) hz λt' k=>⟨.str _,H,I.tok k,⟨t',rfl⟩,q⟩
end
section
variable{X:Cx}{e a b c:Expr}{es:List Expr}{pos p apos cpos:Pos}{te:W L}{x y:Str}
def Nl(z:Str)(te:W L):W L:=λZ k4=>te Z λr Z1=>U2 r λd=>ky d λxs=>∃zs,xs=zs.map D.str/\(zs.map (·.length)).sum+zs.length*z.length<=16777216/\k4 (.d (.str (Txt.join z zs))) Z1
theorem tS{K:W.Frag}{H:Hp}:∀{zs:List Str}{vs:List V},bX K H vs (zs.map D.str)->vs=zs.map V.str
 |[],_,.nil=>rfl
 | z::zs,_,.cons r t=>by obtain rfl:=UW.inv_str r;rw[tS t];rfl
theorem Nm{z:Str}{j:Nat}{pz:Pos}(he:PL X e te)(hs1:starEach [e] X.env=[(false,eval e X.env)]:=by rfl) (hbase:attributeBase (.Constant (.str z) j pz) "join" X.env (eval (.Constant (.str z) j pz) X.env)=eval (.Constant (.str z) j pz) X.env:=by rfl)
  (hfew:((backTo cpos (starEach [e] X.env)).all (λx=>!x.1) && (backToKw cpos (keywordEach [] X.env)).all (λx=>x.1.isSome)
   && decide (([e]).length+([]:List Keyword).length+(if([]:List Keyword).isEmpty then 0 else 1)<30))=true:=by rfl)
  (hline:(apos.endLine == cpos.line)=true:=by rfl) (hplain:(backTo cpos (starEach ([]:List Expr) X.env)).any (·.1)=false:=by rfl) :
  PL X (.Call (.Attribute (.Constant (.str z) j pz) "join" apos) [e] [] cpos) (Nl z te):=by
 refine PL.of (MJ PySem.F.plainAttrs_str PySem.F.slot_str_join PySem.F.type_str_join Nk Ly (gA (ay he).pe rg hs1) (hbase:=hbase) (hfew:=hfew) (hline:=hline) (hs:=hs1) (hplain:=hplain)) λσ H Pr Z k4 E h=>?_
 refine⟨rfl,Pr,Z,λr Z1=>match r with
  |.d d=>ky d λxs=>∃zs,xs=zs.map D.str/\(zs.map (·.length)).sum+zs.length*z.length<=16777216/\k4 (.d (.str (Txt.join z zs))) Z1
  |_=>False,E,h,λv H' r Z' E' pp=>?_⟩
 cases r with
 | d d =>
  obtain⟨_,e1,p1⟩:=E'.head_d;cases e1
  cases p1 with
  | lst hz rs =>
   obtain⟨zs,rfl,hl,pp⟩:=pp;exact⟨z,_,_,zs,rfl,rfl,.inl hz.l,tS rs,hl,_,_,E'.tail.cons_d (.str _),pp⟩
  | tup hz rs =>
   obtain⟨zs,rfl,hl,pp⟩:=pp;exact⟨z,_,_,zs,rfl,rfl,.inr hz,tS rs,hl,_,_,E'.tail.cons_d (.str _),pp⟩
  |_=>exact pp.elim
 |_=>exact pp.elim
theorem Uh.turnedL{ab:List (Addr×Obj)}{σ:St}{H:Hp}{s:Shared}{h':Heap}{t':Nat}{fp:List Addr}(I:Uh X ab σ H s)(k:∀b o,b∉fp->s.heap.get? b=some o->h'.get? b=some o)(hf:∀b∈fp,Fy X ab H b):Uh X ab σ H {s with heap:=h',toks:=t' }:=by
 have nit:∀b u,H b=some u->b∉fp:=λb u e z=>by rw[(hf b z).1]at e;cases e
 refine I.step (g':=s.gens) (d':=s.drawn) (ch:=fp) (λb hb=>?_) (λb o _ _ hc e _=>k b o hc e) (λb o _ _ hc e _=>⟨o.slots,k b o hc e⟩) (λ_ _ _ _ n=>n)
  (λb o hc e=>⟨o,k b o hc e⟩) (λ_ _ e=>e) (λ_ _ _ e=>e) (λ_ _ e=>e) (λm hm=>?_) (λb u e=>?_) I.bare
 . obtain⟨f0,f1,f2,f3,f4,f5⟩:=hf b hb;exact⟨f3,f1,f4,f5⟩
 . obtain⟨o,es,ep,ho,r⟩:=hm;exact⟨o,es,ep,k _ o (λz=>(hf _ z).2.1 rfl) ho,r⟩
 .
  refine(I.hok b u e).stay (λc v hc q=>k c v ?_ q) (λ_ q=>q) (λ_ _ q=>q) λ_ _ _ _ q=>q;rcases hc with z|z
  . rw[z];exact nit b u e
  . exact nit c _ z
noncomputable def Vr(K:W.Frag)(a:Addr):It :=
 ⟨λi H=>∃xs x,Up K H a xs/\xs[i]?=some x,λi H v H'=>∃p x,v=.ref p/\H p=none/\H'=TY H p (.tup [.int i,x])/\∀xs,Up K H a xs->xs[i]?=some x,λi H=>∃xs,Up K H a xs/\xs.length<=i⟩
theorem Gq{P:Program}{w:World}{K:W.Frag}{k:Nat}(q it a:Addr)(hne:q≠it):MA P w K (.Tuple es k pos) (Vr K a) [q,it] q (λi h=>(∃old,IsEnum h q it i old)/\h.IsListIter it a i) where
 mem:=by simp
 obj:=λi h st b hb=>by
  obtain⟨⟨old,he⟩,o,e,c,d⟩:=st;rcases YK.mp hb with rfl|hb
  .
   exact⟨_,he,λv z=>by
    have z':Data.fields _=Data.cell v:=z
    cases z'⟩
  .
   have e':b=it:=by simpa using hb
   subst e';exact⟨o,e,λv z=>by rw[d]at z;cases z⟩
 keep:=λi h h' st kk=>⟨let ⟨old,he⟩:=st.1;⟨old,kk q x_ _ he⟩,st.2.at λo e=>kk it x_ o e⟩
 item:=by
  intro X hP hw hK hc i ab s σ H E I hf st hg;subst hP hw hK;obtain⟨xs,x,hq,hx⟩:=hg;obtain⟨its,rv,p,hz⟩:=I.list hq;obtain⟨u,hu,ru⟩:=rv.get hx;obtain⟨⟨old,he⟩,hit⟩:=st;have hai:a≠it:=λz=>by subst z;obtain⟨o,e,c,d⟩:=hit;obtain⟨o',e',c',_⟩:=p.isList;rw[e]at e';cases e';rw[c]at c';exact absurd c' x_
  have hqa:q≠a:=λz=>by subst z;obtain⟨o',e',c',_⟩:=p.isList;rw[he]at e';cases e';exact absurd c' x_
  have D:=Draws.list (prog:=X.prog) (w:=X.w) (A:=X.A.in1) (I.ok.hd hc) it a hai its.toArray;have hlt:i<its.toArray.size:=by rw[YT];exact(YA.mp hu).1
  refine wpAny_pyNext_enum_itemD D he ⟨hit,p.isList⟩ hlt hne (by simp[hne,hqa]) λx' h' tk hPx hout hst' htup hsz hk=>?_
  have hx':x'=u:=by
   have:its.toArray[i]?=some u:=by simpa using hu
   rw[this]at hPx;exact(Y5 hPx).symm
  subst hx';refine⟨.ref s.heap.objs.size,rfl,wpAny_letOwnedTupleGo_enum (s:={s with heap:=h',toks:=tk+1}) hout λh'' he'' hs''=>?_⟩;have qlt:q<s.heap.objs.size:=YM he;have ilt:it<s.heap.objs.size:=by obtain⟨o,e,_⟩:=hit;exact YM e
  have I1:Uh X ab σ (TY H s.heap.objs.size (.tup [.int i,x])) {s with heap:=s.heap.push {cls:=.type "tuple",data:=.seq #[.int i tk,x'] },toks:=tk} :=
   I.laid (λb ob q=>YG _ q) (YN _) ⟨by show 2<=sizeLine;decide,[.int i tk,x'],.cons ⟨tk,rfl⟩ (.cons ru .nil),⟨_,Y2 _ rfl,rfl,_,rfl⟩⟩
  have hf1:∀b∈[q,it],Fy X ab (TY H s.heap.objs.size (.tup [.int i,x])) b:=λb hb=>by
   refine⟨?_,(hf b hb).2⟩;rw[aH ?_]
   . exact(hf b hb).1
   .
    rcases YK.mp hb with rfl|hb
    . exact Zb qlt
    . rw[Za.mp hb];exact Zb ilt
  have I2:=I1.turnedL (h':=h'') (t':=tk+1) (fp:=[q,it]) (λb o hb e=>by
   have hbq:b≠q:=λz=>hb (by simp[z]);have hbi:b≠it:=λz=>hb (by simp[z]);refine(hs''.2 b hbq).trans ?_;rcases Heap.get?_push_cases e with⟨rfl,rfl⟩|e
   . exact htup
   .
    exact hk b o hbq hbi e) hf1
  refine⟨.ref s.heap.objs.size,_,I2,rfl,⟨_,x,rfl,I.fresh,rfl,λys hy=>by rw[I.list_inj hy hq];exact hx⟩,⟨⟨_,by simpa using he''⟩,hst'.1.extBut hs''.extBut (Z4 hne)⟩,λb hb=>(hf1 b hb).1⟩
 done:=by
  intro X hP hw hK hc i ab s σ H E I hf st hg;subst hP hw hK;obtain⟨xs,hq,hx⟩:=hg;obtain⟨its,rv,p,hz⟩:=I.list hq;obtain⟨⟨old,he⟩,hit⟩:=st;have hai:a≠it:=λz=>by subst z;obtain⟨o,e,c,d⟩:=hit;obtain⟨o',e',c',_⟩:=p.isList;rw[e]at e';cases e';rw[c]at c';exact absurd c' x_
  have hl:=rv.length;have hT:s.TypeIs (.ref q) "enumerate":=⟨_,he,rfl⟩;unfold pyNext
  refine YE (wpAny_attempt (wpAny_callSpecial?_slot (name:=Str.ofString "__next__") hT F.slot_enumerate_next
   (wpAny_call_entry F.slot_enumerate_next hT F.entry_enumerate_next ?_ (F.args_enumerate_next_1 _))))
  show wpAny _ _ (field (.ref q) 2 >>= _) _ _ _;refine YE (wpAny_field he rfl (x:=.ref it) rfl ?_);refine YE (wpAny_nextOf_list_end (I.ok.hd hc) hit p.isList (by simp;omega) λh' x he' hx'=>?_);obtain⟨o,ho,hcc⟩:=hx';refine YE (wpAny_isInstance (T:="StopIteration") (b:=true) ⟨o,ho,hcc⟩ isSubtype_stop ?_);refine YX ⟨rfl,?_⟩;exact I.turnedL (t':=s.toks) (fp:=[q,it]) (λb o hb e=>he' b o (λz=>hb (by simp[z])) e) hf
 self:=λ_ _ _ _ _ st h=>let ⟨_,he⟩:=st.1;wpAny_pyIter_enum he h
noncomputable def dA(xs:List D):List D:=xs.zipIdx.map λp=>.tup [.int (p.2:Int),p.1]
theorem Er{K:W.Frag}{H:Hp}{a:Addr}{vs:List V}{xs:List D}(h:UV K H a vs)(r:bX K H vs xs):Ef K H (Vr K a) (dA xs):=λH' p=>by
 have h':=(h.pres p).l;have b0:(dA xs).length=vs.length:=by rw[r.length];simp[dA]
 refine⟨λi x e=>?_,⟨vs,h',by rw[b0];exact YN _⟩⟩;have hi:i<vs.length:=by rw[<- b0];exact(YA.mp e).1
 have hi2:i<xs.length:=by rw[<- r.length];exact hi
 have ex:x=.tup [.int (i:Int),xs[i]]:=by
  have:(dA xs)[i]?=some (.tup [.int (i:Int),xs[i]]):=by simp[dA,hi2]
  rw[this]at e;exact(Y5 e).symm
 obtain⟨v,ev,rv⟩:=r.get (i:=i) (gV hi2);refine⟨⟨vs,v,h',ev⟩,λw H2 ⟨q,y,e1,e2,e3,e4⟩=>?_⟩;have e5:=e4 vs h';rw[ev]at e5;cases e5;subst e1 e3 ex;refine⟨.inr ⟨_,_,e2,rfl⟩,.tup (.inl (.inl (bF ..))) (.cons (.int _) (.cons ((rv.pres p).new e2) .nil))⟩
def rW(t:W L):W (List D):=λZ k4=>t Z λr Z1=>U2 r λd=>match d with
 |.lst xs=>k4 (dA xs) Z1
 |_=>False
theorem fA{k:Nat}{t:W L} (hg:Gl X "enumerate") (hm:X.mg "enumerate"=none) (ha:PL X a t) (hs:starEach [a] X.env=[(false,eval a X.env)]:=by rfl):Vd X (.Tuple es k apos) (.Call (.Name "enumerate" p) [a] [] pos) (rW t):=by
 intro ab s σ H Pr Z k4 I E h
 refine Call_ (oB I hg hm boot_enumerate (aan (Ul (af (ay ha) ag hs pos ab s σ H Pr Z (λls Z1=>match ls with
  |[.d (.lst xs)]=>k4 (dA xs) Z1
  |_=>False) I E ?_) λus s1 h_=>h_.on λvs H1 ls Z1 I1 r1 hl hb E1 _ q1=>?_) hs rfl))
 .
  show t Z _
  have e:(λr Z1=>U2 r λd=>match d with | .lst xs=>k4 (dA xs) Z1|_=>False)=(λr Z1=>U2 r λx=>aG Z1 λxs Z2=>match L.d x::xs with | [.d (.lst xs)]=>k4 (dA xs) Z2|_=>False):=by
   funext r Z1
   cases r with
   |un=>rfl
   |d d=>cases d<;>rfl
   |own=>rfl
   | bx b ls =>
    show eU (bS (.bx b ls)) _=eU (bS (.bx b ls)) _
    cases bS (.bx b ls)with
    |none=>rfl
    |some d=>cases d<;>rfl
   |dic b ls=>rfl
  rw[<- e];exact h
 .
  (try dsimp only at q1)
  split at q1
  .
   rename_i xs
   cases vs with
   |nil=>exact absurd hl x_
   | cons v vs =>
    have:vs=[]:=by
     have:vs.length=0:=by simpa using hl
     exact aam.mp this
    subst this;obtain⟨_,e1,p1⟩:=aI.head_d (σ:=σ) (Z:=Z1) E1;cases e1;obtain⟨_,_,rfl,hz,rs⟩:=UW.inv_lst p1;obtain⟨u,rfl,ru⟩:=r1.one;cases ru;obtain⟨its,rv,pl,hz'⟩:=I1.list hz.l;refine call_enumerate_list pl.isList λh' hE hI hsz hk=>?_;refine wpAny_pyIter_enum (s:={s1 with heap:=h' }) hE ?_;have E2:aI X.K Pr H1 σ Z1:=aI.tail (σ:=σ) (Z:=Z1) E1;refine⟨s1.heap.objs.size+1,[s1.heap.objs.size+1,s1.heap.objs.size],_,_,H1,_,Z1,rfl,I1.kept (t':=s1.toks) hk,Gq _ _ _ (Nat.succ_ne_self _),⟨⟨_,hE⟩,hI⟩,λb hb=>?_,E2,Er hz rs,q1⟩
    have hb':s1.heap.objs.size<=b:=by
     rcases YK.mp hb with rfl|hb
     . exact Nat.le_succ _
     . rw[Za.mp hb];exact YN _
    exact I1.fpOk hb' (I1.hok.fresh hb')
  . exact q1.elim
end
section
variable{X:Cx}{e a b:Expr}{es:List Expr}{pos p p2 apos:Pos}{x y:Str}
noncomputable def Vs(K:W.Frag)(a b:Addr):It :=
 ⟨λi H=>∃xs ys x y,Up K H a xs/\Up K H b ys/\xs[i]?=some x/\ys[i]?=some y,λi H v H'=>∃p x y,v=.ref p/\H p=none/\H'=TY H p (.tup [x,y])/\(∀xs,Up K H a xs->xs[i]?=some x)/\∀ys,Up K H b ys->ys[i]?=some y,
  λi H=>∃xs ys,Up K H a xs/\Up K H b ys/\(xs.length<=i∨ys.length<=i)⟩
theorem di{h:Heap}{l a:Addr}{its:Array Value}{o:Obj}(hl:h.IsList l its)(ho:h.get? a=some o) (hc:o.cls≠.type "list"):l≠a:=λz=>by subst z;obtain⟨o',e',c',_⟩:=hl;rw[ho]at e';cases e';exact hc c'
theorem JV{P:Program}{w:World}{K:W.Frag}{k:Nat}(z TI TO i1 i2 l1 l2:Addr)(hnd:[z,TI,TO,i1,i2].Nodup):MA P w K (.Tuple es k pos) (Vs K l1 l2) [z,TI,TO,i1,i2] z
  (λi h=>IsZip h z TI TO .none/\IsPair h TI (.ref i1) (.ref i2)/\(∃a b,IsPair h TO a b)/\h.IsListIter i1 l1 i/\h.IsListIter i2 l2 i) where
 mem:=by simp
 obj:=λi h st b hb=>by
  obtain⟨hz,hTI,⟨p,q,hTO⟩,⟨o1,e1,c1,d1⟩,⟨o2,e2,c2,d2⟩⟩:=st;simp only[YK,aal,or_false]at hb;rcases hb with rfl|rfl|rfl|rfl|rfl
  .
   exact⟨_,hz,λv z=>by
    have z':Data.fields _=Data.cell v:=z
    cases z'⟩
  .
   exact⟨_,hTI,λv z=>by
    have z':Data.seq _ _=Data.cell v:=z
    cases z'⟩
  .
   exact⟨_,hTO,λv z=>by
    have z':Data.seq _ _=Data.cell v:=z
    cases z'⟩
  . exact⟨o1,e1,λv z=>by rw[d1]at z;cases z⟩
  . exact⟨o2,e2,λv z=>by rw[d2]at z;cases z⟩
 keep:=λi h h' st kk=>by obtain⟨hz,hTI,⟨p,q,hTO⟩,h1,h2⟩:=st;exact⟨kk z x_ _ hz,kk TI x_ _ hTI,⟨p,q,kk TO x_ _ hTO⟩,h1.at λo e=>kk i1 x_ o e,h2.at λo e=>kk i2 x_ o e⟩
 item:=by
  intro X hP hw hK hc i ab s σ H E I hf st hg;subst hP hw hK;obtain⟨xs,ys,x,y,hq1,hq2,hx,hy⟩:=hg;obtain⟨its,rv,pl,_⟩:=I.list hq1;obtain⟨its2,rv2,pl2,_⟩:=I.list hq2;obtain⟨u,hu,ru⟩:=rv.get hx;obtain⟨u2,hu2,ru2⟩:=rv2.get hy;obtain⟨hz,hTI,⟨p,q,hTO⟩,h1,h2⟩:=st;obtain⟨o1,e1,c1,d1⟩:=id h1;obtain⟨o2,e2,c2,d2⟩:=id h2;have n1:o1.cls≠.type "list":=by rw[c1]; simp
  have n2:o2.cls≠.type "list":=by rw[c2]; simp
  simp only[Zc,YK,aal,or_false,not_or,List.nodup_nil,and_true,not_false_eq_true]at hnd;obtain⟨⟨a1,a2,a3,a4⟩,⟨b1,b2,b3⟩,⟨c1',c2'⟩,d1'⟩:=hnd
  have D:ZipApart z TI TO i1 i2 l1 l2:=⟨Z4 a1,Z4 a2,Z4 a3,Z4 a4,b1,b2,b3,c1',c2',d1',di pl.isList hz x_,di pl.isList hTO x_,di pl.isList e1 n1,di pl.isList e2 n2,
   di pl2.isList hz x_,di pl2.isList hTO x_,di pl2.isList e1 n1,di pl2.isList e2 n2⟩
  refine wpAny_pyNext_zip_item D hz hTI hTO h1 h2 pl.isList pl2.isList (x:=u) (y:=u2) (by simpa using hu) (by simpa using hu2) λh' hz' hTO' h1' h2' hT' hsz hk=>?_;refine⟨.ref s.heap.objs.size,rfl,wpAny_letOwnedTupleGo_zip (s:={s with heap:=h' }) hz' λh'' hz'' hs''=>?_⟩
  have lt:∀b∈[z,TI,TO,i1,i2],b<s.heap.objs.size:=λb hb=>by
   simp only[YK,aal,or_false]at hb;rcases hb with rfl|rfl|rfl|rfl|rfl
   . exact YM hz
   . exact YM hTI
   . exact YM hTO
   . exact YM e1
   . exact YM e2
  have I1:Uh X ab σ (TY H s.heap.objs.size (.tup [x,y])) {s with heap:=s.heap.push {cls:=.type "tuple",data:=.seq #[u,u2] },toks:=s.toks} :=
   I.laid (λb ob q=>YG _ q) (YN _) ⟨by show 2<=sizeLine;decide,[u,u2],.cons ru (.cons ru2 .nil),⟨_,Y2 _ rfl,rfl,_,rfl⟩⟩
  have hf1:∀b∈[z,TI,TO,i1,i2],Fy X ab (TY H s.heap.objs.size (.tup [x,y])) b:=λb hb=>by refine⟨?_,(hf b hb).2⟩;rw[aH (Zb (lt b hb))];exact(hf b hb).1
  have I2:=I1.turnedL (h':=h'') (t':=s.toks) (fp:=[z,TI,TO,i1,i2]) (λb o hb e=>by
   simp only[YK,aal,or_false,not_or]at hb;obtain⟨hbz,hbTI,hbTO,hb1,hb2⟩:=hb;refine(hs''.2 b hbz).trans ?_;rcases Heap.get?_push_cases e with⟨rfl,rfl⟩|e
   . exact hT'
   .
    exact hk b o hbz hbTO hb1 hb2 e) hf1
  exact⟨.ref s.heap.objs.size,_,I2,rfl,⟨_,x,y,rfl,I.fresh,rfl,λzs hy'=>by rw[I.list_inj hy' hq1];exact hx,λzs hy'=>by rw[I.list_inj hy' hq2];exact hy⟩,
   ⟨hz'',hs''.extBut _ _ D.TIz (hk _ _ D.TIz D.TITO D.TIi1 D.TIi2 hTI),⟨_,_,hs''.extBut _ _ D.TOz hTO'⟩,h1'.extBut hs''.extBut D.i1z,h2'.extBut hs''.extBut D.i2z⟩,λb hb=>(hf1 b hb).1⟩
 done:=by
  intro X hP hw hK hc i ab s σ H E I hf st hg;subst hP hw hK;obtain⟨xs,ys,hq1,hq2,hend⟩:=hg;obtain⟨its,rv,pl,_⟩:=I.list hq1;obtain⟨its2,rv2,pl2,_⟩:=I.list hq2;obtain⟨hz,hTI,⟨p,q,hTO⟩,h1,h2⟩:=st;obtain⟨o1,e1,c1,d1⟩:=id h1;obtain⟨o2,e2,c2,d2⟩:=id h2;have n1:o1.cls≠.type "list":=by rw[c1]; simp
  have n2:o2.cls≠.type "list":=by rw[c2]; simp
  simp only[Zc,YK,aal,or_false,not_or,List.nodup_nil,and_true,not_false_eq_true]at hnd;obtain⟨⟨a1,a2,a3,a4⟩,⟨b1,b2,b3⟩,⟨c1',c2'⟩,d1'⟩:=hnd
  have D:ZipApart z TI TO i1 i2 l1 l2:=⟨Z4 a1,Z4 a2,Z4 a3,Z4 a4,b1,b2,b3,c1',c2',d1',di pl.isList hz x_,di pl.isList hTO x_,di pl.isList e1 n1,di pl.isList e2 n2,
   di pl2.isList hz x_,di pl2.isList hTO x_,di pl2.isList e1 n1,di pl2.isList e2 n2⟩
  have hl:=rv.length;have hl2:=rv2.length
  have hend':its.toArray[i]?=none∨its2.toArray[i]?=none:=by
   rcases hend with h|h
   . exact .inl (by simp;omega)
   . exact .inr (by simp;omega)
  refine wpAny_pyNext_zip_end (I.ok.hd hc) D hz hTI hTO h1 h2 pl.isList pl2.isList hend' λh' hk=>⟨rfl,?_⟩;exact I.turnedL (t':=s.toks) (fp:=[z,TI,TO,i1,i2]) (λb o hb e=>hk b o (λz=>hb (by simp[z])) (λz=>hb (by simp[z])) (λz=>hb (by simp[z])) (λz=>hb (by simp[z])) e) hf
 self:=λ_ _ _ _ _ st h=>wpAny_pyIter_zip st.1 h
noncomputable def Bl(xs ys:List D):List D:=(xs.zip ys).map λp=>.tup [p.1,p.2]
theorem Gr{K:W.Frag}{H:Hp}{a b:Addr}{vs ws:List V}{xs ys:List D}(h:UV K H a vs)(r:bX K H vs xs)(h2:UV K H b ws)(r2:bX K H ws ys):Ef K H (Vs K a b) (Bl xs ys):=λH' p=>by
 have h':=(h.pres p).l;have h2':=(h2.pres p).l;have b0:(Bl xs ys).length=min vs.length ws.length:=by rw[r.length,r2.length];simp[Bl]
 refine⟨λi x e=>?_,⟨vs,ws,h',h2',by rw[b0];omega⟩⟩;have hi:i<min vs.length ws.length:=by rw[<- b0];exact(YA.mp e).1
 have hi2:i<xs.length:=by rw[<- r.length];omega
 have hi3:i<ys.length:=by rw[<- r2.length];omega
 have ex:x=.tup [xs[i],ys[i]]:=by
  have:(Bl xs ys)[i]?=some (.tup [xs[i],ys[i]]):=by simp[Bl,hi2,hi3,List.getElem?_zip_eq_some]
  rw[this]at e;exact(Y5 e).symm
 obtain⟨v,ev,rv⟩:=r.get (i:=i) (gV hi2);obtain⟨v2,ev2,rv2⟩:=r2.get (i:=i) (gV hi3);refine⟨⟨vs,ws,v,v2,h',h2',ev,ev2⟩,λw H2 ⟨q,y,y2,e1,e2,e3,e4,e5⟩=>?_⟩;have e6:=e4 vs h';have e7:=e5 ws h2';rw[ev]at e6;rw[ev2]at e7;cases e6;cases e7;subst e1 e3 ex;refine⟨.inr ⟨_,_,e2,rfl⟩,.tup (.inl (.inl (bF ..))) (.cons ((rv.pres p).new e2) (.cons ((rv2.pres p).new e2) .nil))⟩
def OX(d d2:D)(k:List D->Prop):Prop:=match d,d2 with
 |.lst xs,.lst ys=>k (Bl xs ys)
 |_,_=>False
def P8(t u:W L):W (List D):=λZ k4=>t Z λr Z1=>U2 r λd=>u Z1 λr2 Z2=>U2 r2 λd2=>OX d d2 λzs=>k4 zs Z2
theorem Bm{k:Nat}{t u:W L} (hg:Gl X "zip") (hm:X.mg "zip"=none) (ha:PL X a t) (hb:PL X b u) (hs:starEach [a,b] X.env=[(false,eval a X.env),(false,eval b X.env)]:=by rfl) (hs2:starEach [b] X.env=[(false,eval b X.env)]:=by rfl) :
  Vd X (.Tuple es k apos) (.Call (.Name "zip" p) [a,b] [] pos) (P8 t u):=by
 intro ab s σ H Pr Z k4 I E h
 refine Call_ (oB I hg hm boot_zip (aan (Ul (af (ay ha) (af (ay hb) ag hs2) (by rw[hs,hs2]) pos ab s σ H Pr Z (λls Z1=>match ls with
  |[.d d,.d d2]=>OX d d2 λzs=>k4 zs Z1
  |_=>False) I E ?_) λus s1 h_=>h_.on λvs H1 ls Z1 I1 r1 hl hb E1 _ q1=>?_) (by rw[hs,hs2]) (by rw[hs2];rfl)))
 .
  show t Z _
  have e:(λr Z1=>U2 r λd=>u Z1 λr2 Z2=>U2 r2 λd2=>OX d d2 λzs=>k4 zs Z2)
    = (λr Z1=>U2 r λx=>au (bj u) aG Z1 λxs Z2=>match L.d x::xs with | [.d d,.d d2]=>OX d d2 λzs=>k4 zs Z2|_=>False):=by
   funext r Z1
   cases r with
   |un=>rfl
   |d d=>rfl
   |own a xs=>rfl
   | bx b ls =>
    show eU (bS (.bx b ls)) _=eU (bS (.bx b ls)) _;cases bS (.bx b ls)<;>rfl
   |dic b ls=>rfl
  rw[<- e];exact h
 .
  (try dsimp only at q1)
  split at q1
  .
   rename_i d d2;unfold OX at q1;split at q1
   rotate_left
   . exact q1.elim
   rename_i xs ys
   match vs,hl with
   | [v,v2],_ =>
    obtain⟨_,e1,p1⟩:=aI.head_d (σ:=some v2::σ) (Z:=.d (.lst ys)::Z1) E1;cases e1;obtain⟨_,e1,p2⟩:=aI.head_d (σ:=σ) (Z:=Z1) (aI.tail (σ:=some v2::σ) (Z:=.d (.lst ys)::Z1) E1);cases e1;obtain⟨_,_,rfl,hz,rs⟩:=UW.inv_lst p1
    cases p2 with
    | lst hz2 rs2 =>
     obtain⟨u1,u2,rfl,ru,ru2⟩:=r1.two;cases ru;cases ru2;obtain⟨its,rv,pl,_⟩:=I1.list hz.l;obtain⟨its2,rv2,pl2,_⟩:=I1.list hz2.l;refine call_zip_2 pl.isList pl2.isList λh' hZ hTI hTO hI1 hI2 hsz hk=>?_;refine wpAny_pyIter_zip (s:={s1 with heap:=h' }) hZ ?_;have E1':aI X.K Pr H1 (some _::some _::σ) (.d _::.d _::Z1):=E1;have E2:aI X.K Pr H1 σ Z1:=E1'.tail.tail;refine⟨s1.heap.objs.size+4,[s1.heap.objs.size+4,s1.heap.objs.size+2,s1.heap.objs.size+3,s1.heap.objs.size,s1.heap.objs.size+1],_,_,H1,_,Z1,rfl,I1.kept (t':=s1.toks) hk,JV _ _ _ _ _ _ _ x_,⟨hZ,hTI,⟨_,_,hTO⟩,hI1,hI2⟩,λb hb=>?_,E2,Gr hz rs hz2 rs2,q1⟩
     have hb':s1.heap.objs.size<=b:=by
      simp only[YK,aal,or_false]at hb;rcases hb with rfl|rfl|rfl|rfl|rfl
      . exact aar _ _
      . exact aar _ _
      . exact aar _ _
      . exact YN _
      . exact aar _ _
     exact I1.fpOk hb' (I1.hok.fresh hb')
  . exact q1.elim
end
section
variable{X:Cx}{e a:Expr}{es:List Expr}{pos p apos cpos:Pos}{te:W L}{x:Str}
def P9(X:Cx)(es:List Expr)(n:Nat)(is:List Nat):Prop:=∃gg:Ur,Us X es gg/\es.length=is.length/\∀vs σ H Pr Z xs k,σ.length=X.N.length->aI X.K Pr H σ Z->bX X.K H vs xs->ir is xs Z k->gg vs σ H λσ' H'=>H'=H/\σ'.drop n=σ.drop n/\∃Z',aI X.K Pr H σ' Z'/\k Z'
theorem p8{n:Nat}:P9 X [] n []:=⟨_,Fx,rfl,λvs σ H Pr Z xs k hl E r h=>by
 cases r with
 |nil=>exact⟨rfl,rfl,rfl,Z,E,h⟩
 |cons _ _=>exact h.elim⟩
theorem dD{i n:Nat}{is:List Nat}{x:Str}(hn:i<n)(hN:X.N.Nodup)(hi:X.N[i]?=some x)(hx:Ug X.env.scope x)(hr:P9 X es n is)(hf:X.fn x=true∨X.env.scope.names.lookup x=some .local:=by first|exact .inl rfl|exact .inr rfl|assumption)
  (hs:(assignEach (.Name x pos::es) X.env).map (·.2)=assign (.Name x pos) X.env::(assignEach es X.env).map (·.2):=by rfl):P9 X (.Name x pos::es) n (i::is):=by
 obtain⟨gg,hg,b0,q⟩:=hr;refine⟨_,CI (w5 hN hi hx hf) hg hs,by simp[b0],λvs σ H Pr Z xs k hl E r h=>?_⟩
 cases r with
 |nil=>exact h.elim
 | cons r0 t =>
  refine⟨_,_,rfl,?_⟩;have:=q _ (σ.set i (some _)) H Pr _ _ k (by simpa using hl) ((E.cons_d r0).store (by rw[hl];exact(YA.mp hi).1)) t h;rw[List.drop_set_of_lt hn]at this;exact this
theorem zB{is:List Nat}{k n:Nat}(hc:X.calm=true)(h:P9 X es n is)(hn:(assignEach es X.env).length=is.length:=by rfl)(hst:(assignEach es X.env).findIdx? (·.1)=none:=by rfl):Vj X (.Tuple es k pos) n (dH is):=by
 obtain⟨gg,hg,b0,q⟩:=h;refine⟨_,Lz hc hg hn hst,λv σ H Pr Z x k hl E r h=>?_⟩
 cases r with
 |tup hs rs=>exact⟨_,_,rfl,hs,by rw[rs.length];exact gC h,q _ σ H Pr Z _ k hl E rs h⟩
 |_=>exact h.elim
def Rz(i:Nat)(te:W L):W L:=λZ k4=>AX i Z λ_ _=>te Z λr Z1=>match r with
 |.own _ ys=>AX i Z1 λa xs=>xs.length+ys.length<=sizeLine/\k4 (.d .non) (Z1.set i (.own a (xs++ys)))
 |_=>False
theorem Gs(i:Nat)(he:PL X e te)(hN:X.N[i]?=some x:=by rfl)(hv:Ue X.env.scope x:=by first | exact Or.inl rfl | exact Or.inr (Or.inl rfl) | exact Or.inr (Or.inr rfl)) (hd:adf x:=by decide)
  (hcd:adg x:=by decide) (hs1:starEach [e] X.env=[(false,eval e X.env)]:=by rfl) (hbase:attributeBase (.Name x p) "extend" X.env (eval (.Name x p) X.env)=eval (.Name x p) X.env:=by rfl)
  (hfew:((backTo cpos (starEach [e] X.env)).all (λx=>!x.1) && (backToKw cpos (keywordEach [] X.env)).all (λx=>x.1.isSome)
   && decide (([e]).length+([]:List Keyword).length+(if([]:List Keyword).isEmpty then 0 else 1)<30))=true:=by rfl)
  (hline:(apos.endLine == cpos.line)=true:=by rfl) (hplain:(backTo cpos (starEach ([]:List Expr) X.env)).any (·.1)=false:=by rfl) :
  PL X (.Call (.Attribute (.Name x p) "extend" apos) [e] [] cpos) (Rz i te):=by
 refine PL.of (MJ PySem.F.plainAttrs_list PySem.F.slot_list_extend PySem.F.type_list_extend FN (jY hN hv hd hcd) (gA he.pe rg hs1) (hbase:=hbase) (hfew:=hfew) (hline:=hline) (hs:=hs1) (hplain:=hplain)) λσ H Pr Z k4 E h=>?_;obtain⟨l,xs0,q0,h⟩:=jf h;obtain⟨hσ,vs0,hl0,_⟩:=E.ownAt q0
 refine⟨.ref l,hσ,.inl ⟨rfl,vs0,Up.of hl0⟩,Pr,Z,λr Z1=>match r with
  |.own _ ys=>AX i Z1 λa xs=>xs.length+ys.length<=sizeLine/\k4 (.d .non) (Z1.set i (.own a (xs++ys)))
  |_=>False,E,h,λv H' r Z' E' pp=>?_⟩
 cases r with
 | own bb ys =>
  obtain⟨l',xs,q,b0,pp⟩:=jf pp;obtain⟨hσ',vs,hl,r⟩:=E'.tail.ownAt q;rw[hσ]at hσ';cases hσ';have sl:=E'.sl
  cases sl with
  | cons q0 t =>
   obtain⟨e1,ws,hb,rw'⟩:=q0;cases e1;exact⟨l,bb,vs,ws,rfl,rfl,hl,hb,by rw[r.length,rw'.length];exact b0,_,_,(E'.tail.updOwn q (r.append rw')).cons_d .non,pp⟩
 |_=>exact pp.elim
end
end L2
namespace L2
open PySem PySem.Spec PyProof.Rows
mutual
noncomputable def Vt:D->Bool
 |.lst _=>false
 |.dct _=>false
 |.exc _ _ _=>false
 |.fn _ _=>false
 |.dk _ _=>false
 |.gf _=>false
 |.tup xs=>xv xs
 |_=>true
noncomputable def xv:List D->Bool
 |[]=>true
 |x::xs=>Vt x && xv xs
end
mutual
noncomputable def mw:L->Bool
 |.un=>true
 |.d x=>Vt x
 |.own _ xs=>xv xs
 |.bx _ ls=>tT ls
 |.dic _ kvs=>kvs.all λp=>Vt p.2
noncomputable def tT:List L->Bool
 |[]=>true
 |l::ls=>mw l && tT ls
end
theorem Bn:mw .un=true:=by simp[mw]
theorem Qa(x:D):mw (.d x)=Vt x:=by simp[mw]
theorem JW(a:Addr)(xs:List D):mw (.own a xs)=xv xs:=by simp[mw]
theorem Nn(a:Option Addr)(ls:List L):mw (.bx a ls)=tT ls:=by simp[mw]
theorem JX(a:Addr)(kvs:List (TX×D)):mw (.dic a kvs)=kvs.all λp=>Vt p.2:=by simp[mw]
theorem Gu:tT []=true:=by simp[tT]
theorem Es(l:L)(ls:List L):tT (l::ls)=(mw l && tT ls):=by simp[tT]
section
variable{X:Cx}{ab:List (Addr×Obj)}{σ:St}{H:Hp}{s:Shared}
theorem Uh.thaw{a:Addr}{o:Obj}{xs:List V}(I:Uh X ab σ H s)(h:H a=some (.frz o (.lst xs)))(h0:∀o u,X.H₀ a≠some (.frz o u)):Uh X ab σ (TY H a (.lst xs)) s:=by
 have ne:∀b,H b=none->b≠a:=λb n e=>by subst e;rw[h]at n;cases n
 have nt:∀b xs,H b=some (.tup xs)->b≠a:=λb xs n e=>by subst e;rw[h]at n;cases n
 have no:∀b z,H b=some (.own z)->b≠a:=λb z n e=>by subst e;rw[h]at n;cases n
 have nf:∀b o,H b=some (.frz o (.own b))->b≠a:=λb o n e=>by subst e;rw[h]at n;cases n
 have nw:=(I.hok a _ h).2;refine⟨I.ok,I.os,I.bare,⟨I.base.keep,I.base.slot,λb ob e n hx=>?_,I.base.there,λb xs e=>?_,λb ob z e=>?_,λb ps e=>?_⟩,I.loc,I.cell,?_,λx c e=>?_,λp hp=>?_,λb z e=>?_,I.len⟩
 . have q:=I.base.free b ob e n hx;rw[aH (ne b q)];exact q
 . have q:=I.base.tups b xs e;rw[aH (nt b xs q)];exact q
 . have q:=I.base.frzs b ob z e;rw[aH (λy=>by subst y;exact h0 _ _ e)];exact q
 . have q:=I.base.tbls b ps e;rw[aH (λz=>by subst z;rw[h]at q;cases q)];exact q
 . rw[aH (ne _ I.free)];exact I.free
 .
  rcases I.freeC x c e with z|⟨hf,o,z⟩
  . exact .inl (by rw[aH (ne _ z)];exact z)
  . exact .inr ⟨hf,o,by rw[aH (nf _ _ z)];exact z⟩
 . obtain⟨e,n,r⟩:=I.pin p hp;exact⟨e,by rw[aH (ne _ n)];exact n,r⟩
 .
  by_cases hb:b=a
  . subst hb;rw[bF]at e;cases e;exact nw.stay (λc v _ q=>q) (λc q=>by rw[aH (no c _ q)];exact q) (λc xs q=>by rw[aH (nt c xs q)];exact q) λc ob _ _ q=>by rw[aH (nf c ob q)];exact q
  . rw[aH hb]at e;exact(I.hok b z e).stay (λc v _ q=>q) (λc q=>by rw[aH (no c _ q)];exact q) (λc xs q=>by rw[aH (nt c xs q)];exact q) λc ob _ _ q=>by rw[aH (nf c ob q)];exact q
end
def mx(H' H2:Hp)(S:List Addr):Prop:=(∀b,b∉S->H2 b=H' b)/\(∀a∈S,∃o vs,H' a=some (.frz o (.lst vs))/\H2 a=some (.lst vs))
theorem Gv{X:Cx}{ab:List (Addr×Obj)}{σ:St}{s:Shared}:∀(S:List Addr){H:Hp},S.Nodup->Uh X ab σ H s->(∀a∈S,∃o vs,H a=some (.frz o (.lst vs)))->(∀a∈S,∀o u,X.H₀ a≠some (.frz o u))->∃H2,Uh X ab σ H2 s/\mx H H2 S
 |[],H,_,I,_,_=>⟨H,I,λ_ _=>rfl,λ_ h=>by simp at h⟩
 | a::S,H,nd,I,h,h0=>by
  obtain⟨na,nd⟩:=Zc.mp nd;obtain⟨o,vs,ea⟩:=h a k5;have I1:=I.thaw ea (h0 a k5)
  obtain⟨H2,I2,T1,T2⟩:=Gv S nd I1 (λb hb=>by
   obtain⟨o,us,e⟩:=h b (fI _ hb)
   exact⟨o,us,by rw[aH (λz:b=a=>na (by rw[<- z];exact hb))];exact e⟩) λb hb=>h0 b (fI _ hb)
  refine⟨H2,I2,λb hb=>?_,λb hb=>?_⟩
  . rw[T1 b (λz=>hb (fI _ z)),aH (λz:b=a=>hb (by rw[z];exact k5))]
  .
   rcases YK.mp hb with rfl|hb
   . exact⟨o,vs,ea,by rw[T1 b na,bF]⟩
   . obtain⟨o',us,e1,e2⟩:=T2 b hb;rw[aH (λz:b=a=>na (by rw[<- z];exact hb))]at e1;exact⟨o',us,e1,e2⟩
section
variable{K:W.Frag}{H' H2:Hp}{S:List Addr}
mutual
theorem UW.lite{K:W.Frag}{H H':Hp}(k:∀b xs,H b=some (.tup xs)->H' b=some (.tup xs))(k2:∀b o xs,H b=some (.frz o (.tup xs))->H' b=some (.frz o (.tup xs))):∀{v:V}{d:D},Vt d=true->UW K H v d->UW K H' v d
 |_,_,_,.non=>.non
 |_,_,_,.bl b=>.bl b
 |_,_,_,.int i=>.int i
 |_,_,_,.str x=>.str x
 | _,_,h,.tup hs r=>.tup (by
   rcases hs with(e|⟨o,e⟩)|e
   .
    exact .inl (.inl (k _ _ e))
   .
    exact .inl (.inr ⟨o,k2 _ _ _ e⟩)
   .
    exact .inr e) (bX.lite k k2 (by simpa[Vt]using h) r)
 |_,_,h,.lst _ _=>nomatch h
 |_,_,h,.dct _=>nomatch h
 |_,_,h,.exc _ _ _ _ _ _ _ _=>nomatch h
 |_,_,h,.fn _ _ _ _ _ _ _ _ _=>nomatch h
 |_,_,h,.dk _ _=>nomatch h
 |_,_,h,.gf _ _ _=>nomatch h
theorem bX.lite{K:W.Frag}{H H':Hp}(k:∀b xs,H b=some (.tup xs)->H' b=some (.tup xs))(k2:∀b o xs,H b=some (.frz o (.tup xs))->H' b=some (.frz o (.tup xs))):∀{vs:List V}{ds:List D},xv ds=true->bX K H vs ds->bX K H' vs ds
 |_,_,_,.nil=>.nil
 | _,_,h,.cons r t=>by
  simp only[xv,YV]at h
  exact .cons (UW.lite k k2 h.1 r) (bX.lite k k2 h.2 t)
end
theorem UW.thaw(T:mx H' H2 S){v:V}{d:D}(h:Vt d=true)(r:UW K H' v d):UW K H2 v d :=
 r.lite (λb xs e=>by rw[T.1 _ λz=>by obtain⟨o,vs,e1,_⟩:=T.2 _ z;rw[e1]at e;cases e];exact e) (λb u xs e=>by rw[T.1 _ λz=>by obtain⟨o,vs,e1,_⟩:=T.2 _ z;rw[e1]at e;cases e];exact e) h
theorem bX.thaw(T:mx H' H2 S){vs:List V}{ds:List D}(h:xv ds=true)(r:bX K H' vs ds):bX K H2 vs ds :=
 r.lite (λb xs e=>by rw[T.1 _ λz=>by obtain⟨o,vs,e1,_⟩:=T.2 _ z;rw[e1]at e;cases e];exact e) (λb u xs e=>by rw[T.1 _ λz=>by obtain⟨o,vs,e1,_⟩:=T.2 _ z;rw[e1]at e;cases e];exact e) h
theorem mx.lst(T:mx H' H2 S){a:Addr}{vs:List V}(h:H' a=some (.lst vs)):a∉S/\H2 a=some (.lst vs):=by
 have n:a∉S:=λz=>by obtain⟨o,us,e,_⟩:=T.2 a z;rw[h]at e;cases e
 exact⟨n,(T.1 a n).trans h⟩
theorem mx.tup(T:mx H' H2 S){a:Addr}{vs:List V}(h:Uq K H' a vs):Uq K H2 a vs:=by
 rcases h with(e|⟨u,e⟩)|e
 . exact .inl (.inl (by rw[T.1 _ λz=>by obtain⟨o,vs,e1,_⟩:=T.2 _ z;rw[e1]at e;cases e];exact e))
 . exact .inl (.inr ⟨u,by rw[T.1 _ λz=>by obtain⟨o,vs,e1,_⟩:=T.2 _ z;rw[e1]at e;cases e];exact e⟩)
 . exact .inr e
mutual
theorem bo.thaw(T:mx H' H2 S):∀{s:Option V}(l:L),mw l=true->bo K H' s l->bo K H2 s l
 |_,.un,_,_=>by unfold bo;exact True.intro
 | _,.d x,h,q=>by
  unfold bo at q ⊢
  obtain⟨v,e,r⟩:=q
  exact⟨v,e,r.thaw T (by simpa[mw]using h)⟩
 | _,.own a xs,h,q=>by
  unfold bo at q ⊢
  obtain⟨e,vs,ha,r⟩:=q
  exact⟨e,vs,(T.lst ha).2,r.thaw T (by simpa[mw]using h)⟩
 | _,.bx none ls,h,q=>by
  unfold bo at q ⊢
  obtain⟨a,vs,e,ha,r⟩:=q
  exact⟨a,vs,e,T.tup ha,cw.thaw T ls (by simpa[mw]using h) r⟩
 | _,.bx (some a) ls,h,q=>by
  unfold bo at q ⊢
  obtain⟨e,vs,ha,r⟩:=q
  exact⟨e,vs,(T.lst ha).2,cw.thaw T ls (by simpa[mw]using h) r⟩
 | _,.dic a kvs,h,q=>by
  unfold bo at q ⊢
  obtain⟨e,vs,ha,r⟩:=q
  have h':∀p∈kvs,Vt p.2=true:=by simpa[mw]using h
  refine⟨e,vs,?_,Paired.impMem r λp hp q z=>⟨z.1,z.2.thaw T (h' p hp)⟩⟩
  rw[T.1 a λz=>by obtain⟨o,us,e1,_⟩:=T.2 _ z;rw[e1]at ha;cases ha]
  exact ha
theorem cw.thaw(T:mx H' H2 S):∀{vs:List V}(ls:List L),tT ls=true->cw K H' vs ls->cw K H2 vs ls
 |_,[],_,q=>by unfold cw at q ⊢;exact q
 | _,l::ls,h,q=>by
  unfold cw at q ⊢
  simp only[tT,YV]at h
  obtain⟨v,us,e,h1,h2⟩:=q
  exact⟨v,us,e,bo.thaw T l h.1 h1,cw.thaw T ls h.2 h2⟩
end
end
noncomputable def vB:L->Bool
 |.d _=>true
 |l=>mw l
theorem JY:vB .un=true:=by simp[vB,mw]
theorem Np(x:D):vB (.d x)=true:=rfl
theorem Gw(a:Addr)(xs:List D):vB (.own a xs)=xv xs:=by simp[vB,mw]
theorem Gx(a:Addr)(kvs:List (TX×D)):vB (.dic a kvs)=kvs.all λp=>Vt p.2:=by simp[vB,mw]
theorem JZ(a:Option Addr)(ls:List L):vB (.bx a ls)=tT ls:=by simp[vB,mw]
noncomputable def eW(i:Nat)(Z:Ev):Bool:=(Z.set i .un).all vB
theorem wy{K:W.Frag}{H0 H' H2:Hp}{S:List Addr}(T:mx H' H2 S)(p:wg H0 H2):∀{σ:St}{Z Z0:Ev},Z.length=Z0.length ->
  (∀(j:Nat)(l:L),Z[j]?=some l->mw l=true∨∃x,l=.d x/\Z0[j]?=some (.d x))->Paired (bo K H0) σ Z0->Paired (bo K H') σ Z->Paired (bo K H2) σ Z
 |[],[],_,_,_,_,_=>.nil
 | s::σ,l::Z,l0::Z0,hl,h,.cons q0 t0,.cons q t=>by
  refine .cons ?_ (wy T p (by simpa using hl) (λj l e=>h (j+1) l e) t0 t);rcases h 0 l rfl with hh|⟨x,rfl,e⟩
  . exact q.thaw T l hh
  .
   have e:l0=.d x:=by simpa using e
   subst e;exact q0.pres p (.d x) λa ha=>by simp[bz]at ha
 |[],_::_,_,_,_,_,t=>nomatch t
 |_::_,[],_,_,_,_,t=>nomatch t
mutual
theorem bo.lsts{K:W.Frag}{H:Hp}:∀{s:Option V}(l:L){x:D},bo K H s l->bS l=some x->∀a∈bz l,∃vs,H a=some (.lst vs)
 |_,.un,_,_,_,a,ha=>by simp[bz]at ha
 |_,.d x,_,_,_,a,ha=>by simp[bz]at ha
 |_,.dic _ _,_,_,h,_,_=>by simp[bS]at h
 | _,.own b xs,_,h,_,a,ha=>by
  simp only[bo]at h
  have e:a=b:=by simpa[bz]using ha
  subst e
  obtain⟨_,vs,q,_⟩:=h
  exact⟨_,q⟩
 | _,.bx none ls,_,h,hx,a,ha=>by
  simp only[bo]at h
  simp only[bS,aaB]at hx
  obtain⟨xs,hx,_⟩:=hx
  obtain⟨b,vs,e,_,r⟩:=h
  exact cw.lsts ls r hx a (by simpa[bz]using ha)
 | _,.bx (some b) ls,_,h,hx,a,ha=>by
  simp only[bo]at h
  simp only[bS,aaB]at hx
  obtain⟨xs,hx,_⟩:=hx
  obtain⟨e,vs,q,r⟩:=h
  rcases(by simpa[bz]using ha:a=b∨a∈fN ls)with z|z
  .
   subst z;exact⟨_,q⟩
  .
   exact cw.lsts ls r hx a z
theorem cw.lsts{K:W.Frag}{H:Hp}:∀{vs:List V}(ls:List L){xs:List D},cw K H vs ls->cK ls=some xs->∀a∈fN ls,∃vs,H a=some (.lst vs)
 |_,[],_,_,_,a,ha=>by simp[fN]at ha
 | _,l::ls,_,h,hx,a,ha=>by
  simp only[cw]at h
  obtain⟨v,us,e,h1,h2⟩:=h
  simp only[cK]at hx
  split at hx
  .
   rename_i x1 xs1 e1 e2
   rcases(by simpa[fN]using ha:a∈bz l∨a∈fN ls)with z|z
   .
    exact bo.lsts l h1 e1 a z
   .
    exact cw.lsts ls h2 e2 a z
  .
   cases hx
end
theorem Gy{X:Cx}{ab:List (Addr×Obj)}{σ0:St}{s s1:Shared}{Pr H H1 H':Hp}{σ τ:St}{Z lam:Ev}{i:Nat}{k:L}{x:D}{v:Option V}(I:Uh X ab σ0 H s)(E:aI X.K Pr H σ Z)(hi:Z[i]?=some k)(hSa:∀a∈bz k,∃vs,H a=some (.lst vs))(F:rk H H1 (bz k))(hfl:eW i Z=true)
  (I':Uh X ab σ0 H' s1) (E1:aI X.K Pr H1 σ (Z.set i (.d x))) (E':aI X.K (bK H1 (Z.set i (.d x))) H' (τ++σ) (lam++Z.set i (.d x))) (b0:τ.length=lam.length) (hr:lam.all mw=true):∃H2,Uh X ab σ0 H2 s1/\aI X.K Pr H2 (τ++σ) (lam++Z):=by
 have hil:i<Z.length:=(YA.mp hi).1;have prm:=iT hi (l:=.d x) rfl;have hnd:(bz k++owns (Z.set i (.d x))).Nodup:=prm.nodup_iff.mp E.nd;obtain⟨nd1,nd2,nd3⟩:=Zj.mp hnd;have hna:∀a∈bz k,a∉owns (Z.set i (.d x)):=λa ha z=>nd3 a ha a z rfl;have hb:∀b u,H1 b=some u->b∉owns (Z.set i (.d x))->H' b=some u:=λb u e hno=>by refine E'.sub b u ?_;unfold bK;rw[if_neg hno];exact e
 have hS:∀a∈bz k,∃o vs,H' a=some (.frz o (.lst vs)):=λa ha=>by obtain⟨vs,e⟩:=hSa a ha;obtain⟨o,eo⟩:=F.2.2 a ha vs e;exact⟨o,vs,hb a _ eo (hna a ha)⟩
 obtain⟨H2,I2,T⟩:=Gv (bz k) nd1 I' hS λa ha o u e=>by have z:=I.base.frzs a o u e;obtain⟨vs,q⟩:=hSa a ha;rw[q]at z;cases z
 have back:∀a∈bz k,H2 a=H a:=λa ha=>by obtain⟨vs,e⟩:=hSa a ha;obtain⟨o,eo⟩:=F.2.2 a ha vs e;obtain⟨o',vs',e1,e2⟩:=T.2 a ha;rw[hb a _ eo (hna a ha)]at e1;cases e1;rw[e2,e]
 have P:wg H H2:=λb u hp e=>by
  have hno:b∉owns Z:=λz=>by obtain⟨ws,hz,mu⟩:=E.at_own z;rw[hz]at e;cases e;exact mu.no hp
  have hnk:b∉bz k:=λz=>hno (prm.mem_iff.mpr (Y1 _ z));rw[T.1 b hnk];exact hb b u (F.1 b u hp e) λz=>hno (prm.mem_iff.mpr (YW _ z))
 obtain⟨sl1,sl2⟩:=Paired.unapp b0 E'.sl;have ndE:=E'.nd;rw[aK]at ndE;obtain⟨ne1,ne2,ne3⟩:=Zj.mp ndE
 have lamS:∀a∈owns lam,a∉bz k/\Pr a=none/\a∉owns (Z.set i (.d x)):=λa ha=>by
  obtain⟨vs,e,mu⟩:=E'.at_own (a:=a) (by rw[aK];exact Y1 _ ha);have h1:a∉bz k:=λz=>by obtain⟨o,us,e1,_⟩:=T.2 _ z;rw[e1]at e;cases e;exact mu
  have h3:a∉owns (Z.set i (.d x)):=λz=>ne3 a ha a z rfl;refine⟨h1,?_,h3⟩;have hoff:=E'.off a (by rw[aK];exact Y1 _ ha);unfold bK at hoff;rw[if_neg h3]at hoff
  cases ep:Pr a with
  |none=>rfl
  |some w=>rw[E1.sub a w ep]at hoff;cases hoff
 have slt:Paired (bo X.K H2) σ (Z.set i .un):=by
  have q:Paired (bo X.K H') σ (Z.set i .un):=by have:=(Paired.set_r (b:=L.un) i sl2 λ_ _=>by unfold bo;exact True.intro);rwa [aaC]at this
  refine wy T P (Z0:=Z) x_ (λj l e=>?_) E.sl q;by_cases hj:j=i
  . subst hj;rw[Zq hil]at e;cases e;exact .inl Bn
  .
   have h1:=aau.mp hfl l (List.mem_of_getElem? (i:=j) e);rw[Zr (Z4 hj)]at e
   cases l with
   |un=>exact .inl Bn
   |d y=>exact .inr ⟨y,rfl,e⟩
   |own b ys=>exact .inl h1
   |bx b ls=>exact .inl h1
   |dic b ls=>exact .inl h1
 have slr:Paired (bo X.K H2) τ lam:=Paired.impMem sl1 λl hl s q=>q.thaw T l (aau.mp hr l hl);refine⟨H2,I2,λb u e=>?_,?_,λb hbm=>?_,Paired.app slr ?_⟩
 .
  have hno:b∉owns Z:=λz=>by have:=E.off b z;rw[e]at this;cases this
  have hnk:b∉bz k:=λz=>hno (prm.mem_iff.mpr (Y1 _ z));rw[T.1 b hnk];refine hb b u ?_ λz=>hno (prm.mem_iff.mpr (YW _ z));rw[F.2.1 b hnk];exact E.sub b u e
 .
  rw[aK,Zj];refine⟨ne1,E.nd,λc hc d hd z=>?_⟩;subst z;obtain⟨h1,h2,h3⟩:=lamS c hc;rcases YY.mp (prm.mem_iff.mp hd)with z|z
  . exact h1 z
  . exact h3 z
 .
  rw[aK]at hbm;rcases YY.mp hbm with z|z
  . exact(lamS b z).2.1
  . exact E.off b z
 .
  obtain⟨sv,hs,q⟩:=E.slot hi;have:=Paired.set_r (b:=k) i slt λs es=>by rw[hs]at es;cases es;exact q.pres P k back
  rw[aaC]at this
  have e2:Z.set i k=Z:=by
   refine List.ext_getElem? λj=>?_;by_cases hj:j=i
   . subst hj;rw[Zq hil,hi]
   . rw[Zr (Z4 hj)]
  rwa [e2]at this
def Vu(o:Option L)(i:Nat)(t:W L)(Z:Ev)(k4:L->Ev->Prop):Prop:=match o with
 |some (.own _ xs)=>eW i Z=true/\t (Z.set i (.d (.lst xs))) λr Z'=>mw r=true/\Z'=Z.set i (.d (.lst xs))/\k4 r Z
 |some (.bx b ls)=>eW i Z=true/\Fs b ls λx=>t (Z.set i (.d x)) λr Z'=>mw r=true/\Z'=Z.set i (.d x)/\k4 r Z
 |_=>t Z k4
def J1(i:Nat)(t:W L):W L:=λZ k4=>Vu Z[i]? i t Z k4
theorem Nq(a:Addr)(xs:List D)(i:Nat)(t:W L)(Z:Ev)(k4:L->Ev->Prop):Vu (some (.own a xs)) i t Z k4=(eW i Z=true/\t (Z.set i (.d (.lst xs))) λr Z'=>mw r=true/\Z'=Z.set i (.d (.lst xs))/\k4 r Z):=rfl
theorem Qb(b:Option Addr)(ls:List L)(i:Nat)(t:W L)(Z:Ev)(k4:L->Ev->Prop):Vu (some (.bx b ls)) i t Z k4=(eW i Z=true/\Fs b ls λx=>t (Z.set i (.d x)) λr Z'=>mw r=true/\Z'=Z.set i (.d x)/\k4 r Z):=rfl
theorem RA(x:D)(i:Nat)(t:W L)(Z:Ev)(k4:L->Ev->Prop):Vu (some (.d x)) i t Z k4=t Z k4:=rfl
theorem Nr{X:Cx}{ab:List (Addr×Obj)}{s:Shared}{σ:St}{H Pr:Hp}{Z:Ev}{i:Nat}{k:L}{x:D}(I:Uh X ab σ H s)(E:aI X.K Pr H σ Z)(hi:Z[i]?=some k)(hx:bS k=some x):∃H1,Uh X ab σ H1 s/\aI X.K Pr H1 σ (Z.set i (.d x))/\rk H H1 (bz k)/\∀a∈bz k,∃vs,H a=some (.lst vs):=by obtain⟨sv,hs,sl⟩:=E.slot hi;obtain⟨H1,I1,E1,F⟩:=Pw k I (E.outL hi hs) hx;have hil:i<Z.length:=(YA.mp hi).1;have E2:=E1.back (i:=i) (by rw[Zq hil]) hs;rw[aaC]at E2;exact⟨H1,I1,E2,F,sl.lsts k hx⟩
theorem Nu{X:Cx}{e:Expr}(i:Nat){t:W L}(h:PL X e t):PL X e (J1 i t):=by
 intro ab s σ H Pr Z k4 I E hw;have go:∀(k:L)(x:D),Z[i]?=some k->bS k=some x->eW i Z=true->(t (Z.set i (.d x)) λr Z'=>mw r=true/\Z'=Z.set i (.d x)/\k4 r Z)->wpAny (model X.prog X.w) X.A (eval e X.env) (EL X ab σ Pr k4) X.xe s:=by intro k x hi hx hfl hw;obtain⟨H1,I1,E1,F,Sa⟩:=Nr I E hi hx;refine Ul (h ab s σ _ _ _ _ I1 E1.wide hw) λu s1 ⟨v,H',r,Z',I',rv,E',hr,eρ,hp⟩=>?_;subst eρ;obtain⟨H2,I2,E2⟩:=Gy (τ:=[some v]) (lam:=[r]) (v:=some v) I E hi Sa F hfl I' E1 E' rfl (by simpa using hr);exact⟨v,H2,r,Z,I2,rv,E2,hp⟩
 unfold J1 Vu at hw;split at hw
 . rename_i a xs hi;exact go _ _ hi rfl hw.1 hw.2
 . rename_i b ls hi;obtain⟨x,hx,hw'⟩:=Be hw.2;exact go _ _ hi hx hw.1 hw'
 . exact h ab s σ H Pr Z k4 I E hw
def Vv(o:Option L)(i:Nat)(t:W Bool)(Z:Ev)(k4:Bool->Ev->Prop):Prop:=match o with
 |some (.own _ xs)=>eW i Z=true/\t (Z.set i (.d (.lst xs))) λr Z'=>Z'=Z.set i (.d (.lst xs))/\k4 r Z
 |some (.bx b ls)=>eW i Z=true/\Fs b ls λx=>t (Z.set i (.d x)) λr Z'=>Z'=Z.set i (.d x)/\k4 r Z
 |_=>t Z k4
theorem Nv(a:Addr)(xs:List D)(i:Nat)(t:W Bool)(Z:Ev)(k4:Bool->Ev->Prop):Vv (some (.own a xs)) i t Z k4=(eW i Z=true/\t (Z.set i (.d (.lst xs))) λr Z'=>Z'=Z.set i (.d (.lst xs))/\k4 r Z):=rfl
theorem Qc(b:Option Addr)(ls:List L)(i:Nat)(t:W Bool)(Z:Ev)(k4:Bool->Ev->Prop):Vv (some (.bx b ls)) i t Z k4=(eW i Z=true/\Fs b ls λx=>t (Z.set i (.d x)) λr Z'=>Z'=Z.set i (.d x)/\k4 r Z):=rfl
theorem RC(x:D)(i:Nat)(t:W Bool)(Z:Ev)(k4:Bool->Ev->Prop):Vv (some (.d x)) i t Z k4=t Z k4:=rfl
variable{X:Cx}
variable{X:Cx}
theorem sG:∀{ns:List Int}{us:List Value},cC (ns.map V.int) us->IntsAre us ns
 |[],_,r=>by cases r;exact .nil
 | n::ns,_,r=>by
  cases r with
  | cons r0 rs =>
   obtain⟨t,rfl⟩:=r0;exact .cons n t (sG rs)
theorem Gz:∀{ns:List Int}{us:List Value},IntsAre us ns->cC (ns.map V.int) us
 |_,_,.nil=>.nil
 |_,_,.cons n t r=>.cons ⟨t,rfl⟩ (Gz r)
theorem zC(hc:X.calm=true):kj X (.builtin "sum") (λxs H Q=>∃(p:Addr)(ns:List Int),xs=[.ref p]/\Up X.K H p (ns.map V.int)/\Q (.int ns.sum) H):=by
 intro ab s σ H xs us Q I r h;obtain⟨p,ns,rfl,hq,q⟩:=h;obtain⟨u,rfl,rx⟩:=w7 r;cases rx;obtain⟨its,r',pl,hz⟩:=I.list hq;have hi:=sG r';obtain⟨xs,hx⟩:=hi.allInts.items;have hl':s.heap.IsList p (intItems xs):=hx ▸ pl.isList;refine sum_intListG (I.ok.hd hc) hl' λh' tk t' hk=>?_;have e1:ns=xs.toList.map (·.1):=by rw[<- nums_intItems,<- hx];exact(show numsOf its.toArray.toList=ns from hi.numsOf).symm
 have e2:preSum (numAt xs) xs.size=ns.sum:=by rw[preSum_eq,Y8 x_,e1]
 rw[e2];exact⟨.int ns.sum,H,I.kept hk,⟨_,rfl⟩,q⟩
theorem Bo{h:Heap}{vs:List Value}{out:Array Value}:(∀ b o,h.get? b=some o->(sortedAll h vs out).get? b=some o)/\∃ c,(sortedAll h vs out).get? (h.objs.size+1)=some {cls:=.type "list",dict:=none,data:=.seq out c,slots:=#[] }:=by
 refine⟨λb o e=>sortedAll_old e,?_⟩;have hsz:((h.push (seqObj "list" #[] 0)).update h.objs.size (Obj.mapSeq (·++vs.toArray))).objs.size=h.objs.size+1:=by rw[Heap.size_update,size_push']
 have hoL:(((h.push (seqObj "list" #[] 0)).update h.objs.size (Obj.mapSeq (·++vs.toArray))).push (seqObj "list" vs.toArray 0)).get? (h.objs.size+1)=some (seqObj "list" vs.toArray 0):=by rw[<- hsz];exact Y2 _ rfl
 obtain⟨c,hc⟩:=sortedHeap_at (out:=out) hoL;exact⟨c,hc⟩
theorem tU:kj X (.builtin "sorted") (λxs H Q=>∃(p:Addr)(ns:List Int),xs=[.ref p]/\Up X.K H p (ns.map V.int)/\ns.length < 64/\∀ l,H l=none->Q (.ref l) (TY H l (.lst ((W.sortI ns).map V.int)))):=by
 intro ab s σ H xs us Q I r h;obtain⟨p,ns,rfl,hq,h64,q⟩:=h;obtain⟨u,rfl,rx⟩:=w7 r;cases rx;obtain⟨its,r',pl,hz⟩:=I.list hq;have hi:=sG r';have b0:its.length=ns.length:=by have:=r'.length;simpa using this.symm
 refine sorted_ints pl.isList hi xL λout ns' a1 a2 a3=>?_;have e:=W.eq_sortI a2 a3;subst e;obtain⟨k1,c,k2⟩:=Bo (h:=s.heap) (vs:=its) (out:=out);refine⟨.ref (s.heap.objs.size+1),_,I.laid (t':=s.toks) k1 (Nat.le_succ _) (show ip X.prog X.w _ _ _ (.lst ((W.sortI ns).map V.int))from⟨?_,out.toList,c,Gz a1,by simpa using k2⟩),rfl,q _ (I.hok.fresh (Nat.le_succ _))⟩;rw[YD,(W.sortI_perm ns).length_eq];exact YH (ZX h64) xp
theorem hJ{K:W.Frag}{H:Hp}:∀{vs:List V}{ns:List Int},bX K H vs (ns.map D.int)->vs=ns.map V.int
 |_,[],r=>by cases r;rfl
 | _,n::ns,r=>by
  cases r with
  | cons r0 rs =>
   obtain rfl:=UW.inv_int r0;rw[hJ rs];rfl
def Qd:Vg:=λds k=>∃ns:List Int,ds=[.lst (ns.map D.int)]/\k (.d (.int ns.sum))
theorem Qe(hc:X.calm=true):g8 X (.builtin "sum") Qd:=g8.of (zC hc) λσ H Pr Z vs ds k4 E ps ⟨ns,e,h⟩=>by subst e;obtain⟨v,rfl,r⟩:=tI ps;obtain⟨_,_,rfl,hz,rs⟩:=UW.inv_lst r;have:=hJ rs;subst this;exact⟨_,ns,rfl,hz.l,_,E.cons_d (.int _),h⟩
def xw:Vg:=λds k=>∃ns:List Int,ds=[.lst (ns.map D.int)]/\ns.length<64/\∀a,k (.own a ((W.sortI ns).map D.int))
theorem zD:g8 X (.builtin "sorted") xw:=g8.of tU λσ H Pr Z vs ds k4 E ps ⟨ns,e,h64,h⟩=>by subst e;obtain⟨v,rfl,r⟩:=tI ps;obtain⟨_,_,rfl,hz,rs⟩:=UW.inv_lst r;have:=hJ rs;subst this;exact⟨_,ns,rfl,hz.l,h64,λl hl=>⟨_,E.cons_own hl (oJ _),h l⟩⟩
variable{X:Cx}
section
variable{X:Cx}{e a b c:Expr}{es:List Expr}{pos p p2:Pos}{ta:W L}{x y:Str}
def rn:List (U3×W L)->D->W L
 |[],_=>λ_ _=>False
 |[(o,t)],dx=>λZ k4=>t Z λy Z1=>U2 y λdy=>o dx dy λr=>Ec r λk=>k4 (.d (.bl k)) Z1
 |(o,t)::q::r,dx=>λZ k4=>t Z λy Z1=>U2 y λdy=>o dx dy λz=>Ec z λk=>if k=true then rn (q::r) dy Z1 k4 else k4 (.d (.bl false)) Z1
def xx(ta:W L)(ls:List (U3×W L)):W L:=λZ k4=>ta Z λx Z1=>U2 x λdx=>rn ls dx Z1 k4
inductive tV (X:Cx):List CmpOp->List Expr->List (U3×W L)->Prop where
 |one {op:CmpOp} {e:Expr} {o:U3} {t:W L} (ho:U4 X (compareOp op) o) (h:PL X e t):tV X [op] [e] [(o,t)]
 |cons {op:CmpOp} {e:Expr} {o:U3} {t:W L} {ops:List CmpOp} {es:List Expr} {ls:List (U3×W L)} (ho:U4 X (compareOp op) o) (h:PL X e t) (r:tV X ops es ls):tV X (op::ops) (e::es) ((o,t)::ls)
theorem xy{op:CmpOp}{o:U3}{ab:List (Addr×Obj)}{s:Shared}{σ:St}{H Pr:Hp}{Z:Ev}{v:V}{u:Value}{dx:D}{R:Bool->D->Ev->Prop}{t:W L}{Q:Value->Value->Shared->Prop}(ho:U4 X (compareOp op) o)(h:PL X e t)
  (I:Uh X ab σ H s) (rv:cJ v u) (E:aI X.K Pr H (some v::σ) (.d dx::Z)) (ht:t Z λy Z1=>U2 y λdy=>o dx dy λr=>Ec r λk=>R k dy Z1)
  (hQ:∀u2 s3 w2 dy H3 Z1 k,Uh X ab σ H3 s3->cJ w2 u2->aI X.K Pr H3 (some w2::σ) (.d dy::Z1)->R k dy Z1->Q u2 (.bool k) s3) :
  wpAny (model X.prog X.w) X.A (eval e X.env) (λb s₁=>wpAny (model X.prog X.w) X.A (compareOp op u b) (λc s₂=>Q b c s₂) X.xe s₁) X.xe s:=by
 refine Ul (h ab s σ H _ Z _ I E.tail.wide ht) λu2 s2 q=>?_;obtain⟨y,H2,dy,Z2,I2,r2,E2,q2⟩:=EL.frz (k4:=λdy Z1=>o dx dy λr=>Ec r λk=>R k dy Z1) q;have E3:aI X.K Pr H2 (some y::some v::σ) (.d dy::.d dx::Z2):=aI.step (τ:=[some v]) (lam:=[.d dx]) (w:=[some y]) (μ:=[.d dy]) E rfl E2 rfl;obtain⟨_,e1,p1⟩:=E3.head_d;obtain⟨_,e2,p2⟩:=E3.tail.head_d;cases e1;cases e2;have E4:aI X.K Pr H2 σ Z2:=E3.tail.tail;have E5:aI X.K Pr H2 (some y::σ) (.d dy::Z2):=E4.cons_d p1;have E5w:=E5;refine Ul (ho ab s2 σ H2 (bK H2 Z2) Z2 v y u u2 dx dy _ I2 rv r2 E4.wide p2 p1 q2) λw s3 ⟨z,H3,r,I3,rz,E6,pp⟩=>?_;obtain⟨k,rfl,pp⟩:=xh pp;obtain⟨_,e3,p3⟩:=E6.head_d;cases e3;obtain rfl:=UW.inv_bl p3;cases rz;have P3:wg H2 H3:=xg E4 E6.sub;have E7:aI X.K Pr H3 σ Z2:=E4.narrow E6.tail;exact hQ u2 s3 y dy H3 Z2 k I3 r2 (E7.cons_d (p1.pres P3)) pp
theorem J2{ops:List CmpOp}{es:List Expr}{ls:List (U3×W L)}(h:tV X ops es ls):∀(ab:List (Addr×Obj))(s:Shared)(σ:St)(H Pr:Hp)(Z:Ev)(k4:L->Ev->Prop)(v:V)(u:Value)(dx:D)(pos:Pos),Uh X ab σ H s->cJ v u->aI X.K Pr H (some v::σ) (.d dx::Z)->rn ls dx Z k4 ->
  wpAny (model X.prog X.w) X.A (compareChain pos u ops (evalEach es X.env)) (EL X ab σ Pr k4) X.xe s:=by
 induction h with
 | one ho h =>
  intro ab s σ H Pr Z k4 v u dx pos I rv E hl;refine chain_last ?_;exact xy (R:=λk _ Z1=>k4 (.d (.bl k)) Z1) (Q:=λ_ c s=>EL X ab σ Pr k4 c s) ho h I rv E hl λu2 s3 w2 dy H3 Z1 k I3 r3 E3 q=>⟨.bl k,H3,_,Z1,I3,rfl,E3.tail.cons_d (.bl k),q⟩
 | @cons op e o t ops es ls ho h r ih =>
  intro ab s σ H Pr Z k4 v u dx pos I rv E hl
  cases r with
  | one ho2 h2 =>
   refine chain_link (xy (R:=λk dy Z1=>if k=true then rn [_] dy Z1 k4 else k4 (.d (.bl false)) Z1) (Q:=λb c s=>wpAny (model X.prog X.w) X.A (truthy c) (λt s₃=>if t then _ else EL X ab σ Pr k4 c s₃) X.xe s) ho h I rv E hl λu2 s3 w2 dy H3 Z1 k I3 r3 E3 q=>?_)
   refine ZW ?_
   cases k with
   |false=>exact ite_ff ⟨.bl false,H3,_,Z1,I3,rfl,E3.tail.cons_d (.bl false),q⟩
   |true=>exact ite_tt (ih ab s3 σ H3 Pr Z1 k4 w2 u2 dy pos I3 r3 E3 q)
  | cons ho2 h2 r2 =>
   cases r2 with
   | one ho3 h3 =>
    refine chain_link (xy (R:=λk dy Z1=>if k=true then rn (_::_::_) dy Z1 k4 else k4 (.d (.bl false)) Z1) (Q:=λb c s=>wpAny (model X.prog X.w) X.A (truthy c) (λt s₃=>if t then _ else EL X ab σ Pr k4 c s₃) X.xe s) ho h I rv E hl λu2 s3 w2 dy H3 Z1 k I3 r3 E3 q=>?_)
    refine ZW ?_
    cases k with
    |false=>exact ite_ff ⟨.bl false,H3,_,Z1,I3,rfl,E3.tail.cons_d (.bl false),q⟩
    |true=>exact ite_tt (ih ab s3 σ H3 Pr Z1 k4 w2 u2 dy pos I3 r3 E3 q)
   | cons ho3 h3 r3 =>
    refine chain_link (xy (R:=λk dy Z1=>if k=true then rn (_::_::_) dy Z1 k4 else k4 (.d (.bl false)) Z1) (Q:=λb c s=>wpAny (model X.prog X.w) X.A (truthy c) (λt s₃=>if t then _ else EL X ab σ Pr k4 c s₃) X.xe s) ho h I rv E hl λu2 s3 w2 dy H3 Z1 k I3 r3 E3 q=>?_)
    refine ZW ?_
    cases k with
    |false=>exact ite_ff ⟨.bl false,H3,_,Z1,I3,rfl,E3.tail.cons_d (.bl false),q⟩
    |true=>exact ite_tt (ih ab s3 σ H3 Pr Z1 k4 w2 u2 dy pos I3 r3 E3 q)
theorem zE{op op':CmpOp}{ops:List CmpOp}{r1 r2:Expr}{rs:List Expr}{ls:List (U3×W L)}(ha:PL X a ta)(h:tV X (op::op'::ops) (r1::r2::rs) ls)(hm:lastMarks (op::op'::ops) (r1::r2::rs)=false:=by with_unfolding_all rfl):PL X (.Compare a (op::op'::ops) (r1::r2::rs) pos) (xx ta ls):=by intro ab s σ H Pr Z k4 I E ht;refine Compare_chain (Ul (ha ab s σ H Pr Z _ I E ht) λu s1 q=>?_) hm;obtain⟨v,H1,dx,Z1,I1,rv,E1,q1⟩:=EL.frz (k4:=λdx Z1=>rn ls dx Z1 k4) q;exact J2 h ab s1 σ H1 Pr Z1 k4 v u dx pos I1 rv E1 q1
theorem Bp{prog:Program}{w:World}{A:Around}{ks:List Bool}{us:List Value}(h:us=ks.map Value.bool):TruthOf prog w A (λi v=>us.toArray[i]?=some v) (λi=>ks.getD i true):=λi v s Q E hv hQ=>by
 subst h;rw[List.getElem?_toArray,YS]at hv
 cases q:ks[i]? with
 |none=>rw[q]at hv;cases hv
 | some k =>
  rw[q]at hv;cases hv;refine ZW ?_;have:ks.getD i true=k:=by rw[YC,q];rfl
  have hQ':Q (ks.getD i true) s:=hQ;rw[this]at hQ';exact hQ'
theorem GA(ks:List Bool):(List.range ks.length).any (λi=>ks.getD i true)=ks.any id:=by
 apply Bool.eq_iff_iff.mpr;simp only[List.any_eq_true,YO,id];constructor
 . rintro⟨i,hi,e⟩;rw[YC,gV hi]at e;exact⟨_,YB hi,e⟩
 . rintro⟨x,hx,e⟩;obtain⟨i,hi,e2⟩:=ZM hx;refine⟨i,hi,?_⟩;rw[YC,gV hi];simpa[e2]using e
theorem wz:∀{ks:List Bool}{us:List Value},cC (ks.map V.bl) us->us=ks.map Value.bool
 |[],_,.nil=>rfl
 | k::ks,_,.cons r t=>by have e:=wz t;subst e;cases r;rfl
theorem zF(hc:X.calm=true):kj X (.builtin "any") (λxs H Q=>∃(p:Addr)(ks:List Bool),xs=[.ref p]/\Up X.K H p (ks.map V.bl)/\Q (.bl (ks.any id)) H):=by
 intro ab s σ H xs us Q I r ⟨p,ks,e,hq,q⟩;subst e;obtain⟨u,rfl,r1⟩:=w7 r;cases r1;obtain⟨its,rv,pl,hz⟩:=I.list hq;have e:=wz rv;refine call_any_walk (wpAny_pyIter_list pl.isList ?_);have hne:p≠s.heap.objs.size:=λz=>by obtain⟨o,n,eo,_⟩:=pl;have:=YM eo;rw[z]at this;exact absurd this (aaG _)
 refine⟨s.heap.objs.size,_,_,_,_,_,(λi=>ks.getD i true),rfl,Walks.list (A:=X.A.in1) (I.ok.hd hc) _ p hne its.toArray,⟨⟨_,Y2 _ rfl,rfl,rfl⟩,pl.isList.at λo eo=>YG _ eo⟩,Bp e,λh' tk hk=>?_⟩;have hl:its.toArray.size=ks.length:=by rw[e];simp
 rw[hl,GA];refine⟨.bl _,H,I.kept (h':=h') (t':=tk) λb o eb=>hk b o (λhm=>?_) (YG _ eb),rfl,q⟩;have e2:b=s.heap.objs.size:=by simpa using hm
 have:=YM eb;rw[e2]at this;exact absurd this (aaG _)
theorem oK{K:W.Frag}{H:Hp}:∀{vs:List V}{ks:List Bool},bX K H vs (ks.map D.bl)->vs=ks.map V.bl
 |[],[],_=>rfl
 | _::_,k::ks,.cons r t=>by obtain rfl:=UW.inv_bl r;rw[oK t];rfl
 |[],_::_,r=>nomatch r
 |_::_,[],r=>nomatch r
def Qf:Vg:=λds k=>∃ks:List Bool,ds=[.lst (ks.map D.bl)]/\k (.d (.bl (ks.any id)))
theorem Qg(hc:X.calm=true):g8 X (.builtin "any") Qf:=g8.of (zF hc) λσ H Pr Z vs ds k4 E ps ⟨ks,e,h⟩=>by subst e;obtain⟨v,rfl,r⟩:=tI ps;obtain⟨_,_,rfl,hz,rs⟩:=UW.inv_lst r;have e:=oK rs;subst e;exact⟨_,ks,rfl,hz.l,_,E.cons_d (.bl _),h⟩
end
end L2
set_option exponentiation.threshold 2000
namespace L2
open PySem PySem.Spec PyProof.Rows
section
variable{X:Cx}{e a b:Expr}{pos p:Pos}{ta tb:W L}{x y:Str}
mutual
noncomputable def hU:D->Bool
 |.int i=>decide (i.natAbs<2^1900)
 |.tup xs=>jj xs
 |.lst xs=>jj xs
 |_=>true
noncomputable def jj:List D->Bool
 |[]=>true
 |x::xs=>hU x && jj xs
end
theorem Nw:(2:Nat)^1900<10^600:=by decide +kernel
theorem GB{i:Int}(h:i.natAbs<2^1900):(PyData.shown (.int i)).length<=601:=by have e:=PySem.int_text_length_le10 (k:=600) xp (Nat.lt_trans h Nw);show(Str.ofString (toString i)).length<=601;rw[PySem.ofString_length];exact e
mutual
theorem sH:∀d:D,hU d=true->(Ve d).intsShort 601=true/\(Ve d).showable=true
 |.non,_=>⟨rfl,rfl⟩
 |.bl _,_=>⟨rfl,rfl⟩
 |.str _,_=>⟨rfl,rfl⟩
 |.dct _,_=>⟨rfl,rfl⟩
 |.exc _ _ _,_=>⟨rfl,rfl⟩
 |.fn _ _,_=>⟨rfl,rfl⟩
 |.dk _ _,_=>⟨rfl,rfl⟩
 |.gf _,_=>⟨rfl,rfl⟩
 | .int i,h=>by
  have h':i.natAbs<2^1900:=by simpa only[hU,YJ]using h
  refine⟨by simp only[Ve,PyData.intsShort,YJ];exact GB h',?_⟩
  simp only[Ve,PyData.showable,YJ]
  by_cases h0:i.natAbs=0
  .
   rw[h0];decide
  .
   exact(Nat.log2_lt h0).mpr (so h' (YF xp xp))
 | .tup xs,h=>by
  obtain⟨h1,h2⟩:=tX xs (by simpa only[hU]using h)
  exact⟨by simpa only[Ve,PyData.intsShort]using h1,by simpa only[Ve,PyData.showable]using h2⟩
 | .lst xs,h=>by
  obtain⟨h1,h2⟩:=tX xs (by simpa only[hU]using h)
  exact⟨by simpa only[Ve,PyData.intsShort]using h1,by simpa only[Ve,PyData.showable]using h2⟩
theorem tX:∀ds:List D,jj ds=true->PyData.intsShortAll 601 (gy ds)=true/\PyData.showableAll (gy ds)=true
 |[],_=>⟨rfl,rfl⟩
 | d::ds,h=>by
  simp only[jj,YV]at h
  obtain⟨h1,h2⟩:=sH d h.1
  obtain⟨h3,h4⟩:=tX ds h.2
  exact⟨by simp only[gy,PyData.intsShortAll,h1,h3,Bool.and_self],by simp only[gy,PyData.showableAll,h2,h4,Bool.and_self]⟩
end
structure C3 (d:D):Prop where
 ok:Vq 40 d=true
 sh:hU d=true
 wt:(Ve d).weight<=20000
theorem C3.len{d:D}(h:C3 d):(Ve d).shown.length<=sizeLine:=by
 have h1:=PyData.shown_le 601 xp (Ve d) (PyData.leavesShort_of_canLay0 601 _ (xr 40 d h.ok).1 (sH d h.sh).1);have h2:=h.wt;have e:sizeLine=16777216:=by decide
 rw[e];omega
def Rc(ta tb:W L):W L:=λZ k4=>ta Z λr Z1=>match r with
 |.own _ xs=>tb Z1 λr2 Z2=>pZ r2 λj=>(0<=j/\j<=100000)/\xs.length*j.toNat<=sizeLine/\∀p,k4 (.own p (List.replicate j.toNat xs).flatten) Z2
 |_=>False
theorem bX.rep{K:W.Frag}{H:Hp}{vs:List V}{ds:List D}(r:bX K H vs ds):∀k:Nat,bX K H (List.replicate k vs).flatten (List.replicate k ds).flatten
 |0=>.nil
 | k+1=>by rw[Zp,Zp,aao,aao];exact r.append (bX.rep r k)
theorem LS(ha:PL X a ta)(hb:PL X b tb):PL X (.BinOp a .Mult b pos) (Rc ta tb):=by
 intro ab s σ H Pr Z k4 I E h;refine wpAny_BinOp (Ul (ha ab s σ H Pr Z _ I E h) λu s1 ⟨v,H1,r,Z1,I1,r1,E1,q1⟩=>?_)
 (try dsimp only at q1)
 split at q1
 rotate_left
 . exact q1.elim
 rename_i l xs;refine Ul (hb ab s1 σ H1 _ Z1 _ I1 E1.tail.wide q1) λu2 s2 ⟨y,H2,r2,Z2,I2,ry,E2,q2⟩=>?_;obtain⟨j,rfl,⟨h1,h2⟩,hz,q2⟩:=fz q2;have E3:aI X.K Pr H2 (some y::some v::σ) (.d (.int j)::.own l xs::Z2):=aI.step (τ:=[some v]) (lam:=[.own l xs]) (w:=[some y]) (μ:=[.d (.int j)]) E1 rfl E2 rfl;obtain⟨_,e1,p1⟩:=E3.head_d;cases e1;obtain rfl:=UW.inv_int p1;obtain⟨hs,vs,hl,rs⟩:=E3.ownAt (i:=1) rfl;have ev:v=.ref l:=by simpa using hs
 subst ev;have E4:aI X.K Pr H2 σ Z2:=E3.tail.tail;refine Ul (Pp ab s2 σ H2 _ _ u u2 (λz H'=>∃p,H2 p=none/\z=.ref p/\H'=TY H2 p (.lst (List.replicate j.toNat vs).flatten)) I2 r1 ry ⟨l,j,vs,rfl,rfl,hl,xL,xL,by rw[rs.length];exact hz,λp hp=>⟨p,hp,rfl,rfl⟩⟩) λw s3 ⟨z,H3,I3,rz,p,hp,e1,e2⟩=>?_;subst e1 e2;exact⟨.ref p,_,_,Z2,I3,rz,E4.cons_own hp (rs.rep _),q2 p⟩
def Vw(f:Fl)(o:Option L)(j:Nat)(Z1:Ev)(k4:Fl->Ev->Prop):Prop:=match f with
 | .nx=>(match o with
  |some (.own _ xs)=>k4 .nx (Z1.set j (.d (.lst xs)))
  |_=>k4 .nx Z1)
 |f=>k4 f Z1
theorem Nx(a:Addr)(xs:List D)(j:Nat)(Z1:Ev)(k4:Fl->Ev->Prop):Vw .nx (some (.own a xs)) j Z1 k4=k4 .nx (Z1.set j (.d (.lst xs))):=rfl
theorem RD(x:D)(j:Nat)(Z1:Ev)(k4:Fl->Ev->Prop):Vw .nx (some (.d x)) j Z1 k4=k4 .nx Z1:=rfl
end
theorem aI.closeT{K:W.Frag}{Pr H:Hp}{σ:St}{Z:Ev}{a:Addr}{vs:List V}{ls:List L}(hl:vs.length=ls.length)(h:Uq K H a vs)(E:aI K Pr H (vs.map some++σ) (ls++Z)):aI K Pr H (some (.ref a)::σ) (.bx none ls::Z):=by
 obtain⟨s1,s2⟩:=Paired.unapp (by simp[hl]) E.sl;have ow:owns (.bx none ls::Z)=owns (ls++Z):=by rw[aR,aK];simp only[bz,Option.toList,aaA,fO]
 refine⟨E.sub,by rw[ow];exact E.nd,λb hb=>E.off b (by rw[<- ow];exact hb),.cons ?_ s2⟩;unfold bo;exact⟨a,vs,rfl,h,dS.mpr s1⟩
section
variable{X:Cx}{e b:Expr}{es:List Expr}{pos:Pos}
def Ny(t:W (List L)):W L:=λZ k4=>t Z λls Z1=>ls.length<=sizeLine/\k4 (.bx none ls) Z1
theorem Nz {x1} {bs:List (Option Nat)} {t:W (List L)} (h:UY X es bs t):PL X (.Tuple es x1 pos) (Ny t):=by intro ab s σ H Pr Z k4 I E hq;refine wpAny_Tuple_spliced (Ul (h pos ab s σ H Pr Z _ I E hq) λus s1 ⟨vs,H1,ls,Z1,I1,r,hl,hb,E1,hv,z,q⟩=>?_);refine⟨by rw[<- r.length,hl];exact z,?_⟩;have hf:H1 s1.heap.objs.size=none:=I1.hok.fresh (YN _);have E2:aI X.K Pr (TY H1 s1.heap.objs.size (.tup vs)) (vs.map some++σ) (ls++Z1):=E1.new hf;refine⟨.ref s1.heap.objs.size,TY H1 s1.heap.objs.size (.tup vs),_,Z1,I1.laid (t':=s1.toks) (λb u e=>YG _ e) (YN _) ?_,rfl,E2.closeT hl (Uq.of bF),q⟩;exact⟨by rw[hl];exact z,us,r,⟨_,Y2 _ rfl,rfl,_,rfl⟩⟩
end
structure FX (K:W.Frag) (mg:Str->Option Value) (g:Str) (st:Stmt) (a:Addr) (fd:FuncData) (P:List Str):Prop where
 f:UU K g g st a fd
 b:A5 K fd P []
 m:mg g=some (.ref a)
noncomputable abbrev Vx(g:Str)(st:Stmt)(md:Value)(c:Nat):FuncData:=W.fnOf g g (pV st) (fT st) (ar st) .none .none .none md none (.ref c) .none
theorem FX.mk'{K:W.Frag}{mg:Str->Option Value}{h:Heap}(X:K.In h)(G:h.Ns mainGlobals mg){g:Str}{st:Stmt}{a:Addr}{c:Nat}{md:Value}{P:List Str}(e1:W.nsIn K mainGlobals g=some (some (.ref a)))
  (e2:K.lookup a=some ⟨.type "function",none,.func (Vx g st md c),#[]⟩) (e3:W.codeIn K (.ref c) g=true) (e4:W.keepIn K (.ref a)=true)
  (e5:∀(kV doc pm:Value)(an:Option Addr)(cdv ct:Value)(us:List Value),us.length=P.length->bindArgs (W.fnOf g g (pV st) (fT st) (ar st) .none kV doc pm an cdv ct) ⟨us,[]⟩=pure (P.zip us)):FX K mg g st a (Vx g st md c) P :=
 ⟨LJ e2 e3 e4,(LJ e2 e3 e4).binds e5,W.mg_of X G e1⟩
section
variable{X:Cx}{k k' n:Nat}{f:Addr}{fd:FuncData}{ps:List Str}{fs:FS}{g:Str}{st:Stmt}{e:Expr}{es:List Expr}{bs:List (Option Nat)}{t:W (List L)}{p pos:Pos}
theorem aE(F:FnOk X.prog X.w X.K X.mg X.base CX0 k f fd ps (spF X.K n fs))(T:FX X.K X.mg g st f fd ps)(hr:m6 k' X.A)(ha:UY X (e::es) bs t)(hk:k<=k':=by decide)(hg:Gl X g:=by rfl)(hn:bs.length=n:=by rfl) (hdb:adf g:=by decide) (he:starEach (e::es) X.env=(false,eval e X.env)::starEach es X.env:=by rfl) (hpl:(backTo pos (starEach es X.env)).any (·.1)=false:=by rfl) :
  PL X (.Call (.Name g p) (e::es) [] pos) (aC fs t):=MY F (hr.mono hk) hg T.m T.f.kp T.b Pq ha hn hdb he hpl
theorem cD(F:FnOk X.prog X.w X.K X.mg X.base CX0 k f fd ps (spF X.K n fs))(T:FX X.K X.mg g st f fd ps)(hr:m6 k' X.A)(j i:Nat)(ha:UY X (e::es) bs t)(hk:k<=k':=by decide)(hg:Gl X g:=by rfl)(hj:bs[j]?=some (some i):=by rfl)(hn:bs.length=n:=by rfl) (hdb:adf g:=by decide) (he:starEach (e::es) X.env=(false,eval e X.env)::starEach es X.env:=by rfl) (hpl:(backTo pos (starEach es X.env)).any (·.1)=false:=by rfl) :
  PL X (.Call (.Name g p) (e::es) [] pos) (cb fs j i t):=JI F (hr.mono hk) hg T.m T.f.kp T.b Pq j i ha hj hn hdb he hpl
end
section
variable{X:Cx}
theorem J3:Ux X (binaryOp .Add) (λx y H Q=>∃l b xs zs,x=.ref l/\y=.ref b/\Uq X.K H l xs/\Uq X.K H b zs/\xs≠[]/\zs≠[]/\xs.length+zs.length<=sizeLine/\∀p,H p=none->Q (.ref p) (TY H p (.tup (xs++zs)))):=by
 intro ab s σ H x y v u Q I rx ry h;obtain⟨l,b,xs,zs,rfl,rfl,hH,hB,n1,n2,hz,q⟩:=h;cases rx;cases ry;obtain⟨its,r,⟨o,e,c,n,f⟩,z⟩:=I.tuple hH;obtain⟨its2,r2,⟨o2,e2,c2,m,f2⟩,z2⟩:=I.tuple hB;obtain⟨cl,dd,dt,sl⟩:=o;obtain⟨cl2,dd2,dt2,sl2⟩:=o2;simp only at c f c2 f2;subst c f c2 f2;have hl:=r.length;have hl2:=r2.length;have k1:its≠[]:=λe=>n1 (aam.mp (by rw[hl,e];rfl));have k2:its2≠[]:=λe=>n2 (aam.mp (by rw[hl2,e];rfl));refine concat_meets ⟨_,e,rfl⟩ ⟨_,e2,rfl⟩ noFill_tuple_add seq_tuple_add PySem.F.slot_tuple_add PySem.F.entry_tuple_add (PySem.F.args_tuple_add_2 _ _) (tuple_addW2 l b its.toArray its2.toArray n m dd dd2 sl sl2 (by simpa using k1) (by simpa using k2) (by rw[YT,YT];omega)) ⟨e,e2,?_⟩;have ea:its.toArray++its2.toArray=(its++its2).toArray:=by simp
 rw[ea];exact⟨.ref _,TY H s.heap.objs.size (.tup (xs++zs)),I.laid (o:=.tup (xs++zs)) (λ_ _ q=>YG _ q) (YN _) ⟨by rw[Y4];omega,its++its2,r.append r2,⟨_,Y2 _ rfl,rfl,_,rfl⟩⟩,rfl,q _ I.fresh⟩
def C4:U3:=λx y k=>match x,y with
 |.tup xs,.tup ys=>xs≠[]/\ys≠[]/\xs.length+ys.length<=sizeLine/\k (.d (.tup (xs++ys)))
 |_,_=>False
theorem NA:U4 X (binaryOp .Add) C4:=(U4.of J3 (op:=λx y k=>∃xs ys,x=.tup xs/\y=.tup ys/\xs≠[]/\ys≠[]/\xs.length+ys.length<=sizeLine/\k (.d (.tup (xs++ys)))) (λσ H Pr Z x y dx dy k4 E px py ⟨xs,ys,e1,e2,m1,m2,z,h⟩=>by
  subst e1 e2;obtain⟨_,_,rfl,h1,r1⟩:=UW.inv_tup px
  cases py with
  | tup h2 r2 =>
   refine⟨_,_,_,_,rfl,rfl,h1,h2,λe=>m1 ?_,λe=>m2 ?_,by rw[r1.length,r2.length];exact z,λp hp=>⟨_,E.cons_tup hp (r1.append r2),h⟩⟩
   . exact aam.mp (by rw[<- r1.length,e];rfl)
   .
    exact aam.mp (by rw[<- r2.length,e];rfl))).imp λx y k h=>by
 unfold C4 at h;split at h
 . exact⟨_,_,rfl,rfl,h⟩
 . exact h.elim
end
mutual
noncomputable def C5:D->Nat
 |.tup xs=>Bq xs+1
 |.lst xs=>Bq xs+1
 |_=>0
noncomputable def Bq:List D->Nat
 |[]=>0
 |x::xs=>max (C5 x) (Bq xs)
end
theorem C6{n:Nat}:∀{xs:List D},(∀x∈xs,C5 x<=n)->Bq xs<=n
 |[],_=>aae _
 | y::ys,h=>by simp only[Bq];have:=h y k5;have:=C6 (xs:=ys) λx hx=>h x (fI _ hx);omega
end L2
namespace L2
open PySem PySem.Spec PyProof.Rows PySem.Builtin.Str
inductive Sk where
 |l|t
noncomputable abbrev Zi:=Sk×Addr×Addr
noncomputable def Zi.ofs(js:List Zi):List Addr:=js.map (·.2.1)
def Tq(z O:Addr)(js:List Zi)(h h':Heap):Prop:=∀c o,c∉z::O::Zi.ofs js->h.get? c=some o->h'.get? c=some o
noncomputable def Sk.nm:Sk->String
 |.l=>"list_iterator"
 |.t=>"tuple_iterator"
def Vy(K:W.Frag)(H:Hp):Sk->Addr->List V->Prop
 |.l,a,xs=>Up K H a xs
 |.t,a,xs=>Uq K H a xs
def Vz(K:W.Frag)(H:Hp):Sk->Addr->List V->Prop
 |.l,a,xs=>UV K H a xs
 |.t,a,xs=>Uq K H a xs
theorem Vz.pres{K:W.Frag}{H H':Hp}{k:Sk}{a:Addr}{xs:List V}(p:wg H H')(h:Vz K H k a xs):Vy K H' k a xs:=by
 cases k with
 |l=>exact(UV.pres p h).l
 |t=>exact Uq.pres p h
theorem zG(xs ys:List D):((List.range (min xs.length ys.length)).map λi=>D.tup [xs.getD i .non,ys.getD i .non])=Bl xs ys:=by
 refine ZI (by simp[Bl]) λi h1 h2=>?_;have:i<min xs.length ys.length:=by simpa using h1
 simp only[Z8,aaM,Bl,ZJ];rw[YC,YC,gV xL,gV xL];rfl
section
variable{prog:Program}{w:World}{A:Around}{E:Value->Shared->Prop}{s:Shared}
theorem LU{j q:Addr}{ys:Array Value}(ne:q≠j):∀(n i:Nat)(s:Shared)(Q:List Value->Shared->Prop),s.heap.IsListIter j q i->s.heap.IsList q ys->i+n<=ys.size ->
  (∀h',h'.IsListIter j q (i+n)->Heap.SameBut j s.heap h'->Q ((ys.toList.drop i).take n) {s with heap:=h' })->wpAny (model prog w) A (draw (.ref j) n) Q E s
 | 0,i,s,Q,hj,_,_,k=>by show wpAny _ _ (pure ([]:List Value)) Q E s;exact YX (by simpa using k s.heap hj (Heap.SameBut.refl ..))
 | n+1,i,s,Q,hj,hq,hle,k=>by
  have lt:i<ys.size:=by omega
  show wpAny _ _ (pyNext (.ref j) >>= _) Q E s;refine YE (wpAny_pyNext_list_item hj hq (x:=ys[i]) (by simp[lt]) λg1 j1 k1=>?_);refine YE (ZQ (LU ne n (i+1) _ _ j1 (hq.extBut k1.extBut ne) xL λg2 j2 k2=>YX ?_));have hd:ys.toList.drop i=ys[i]::ys.toList.drop (i+1):=by simp[Zw,lt]
  have z:=k g2 (by rw[show i+(n+1)=i+1+n by omega];exact j2) (k1.trans k2);rw[hd,List.take_succ_cons]at z;exact z
theorem NB{q:Addr}{ys:Array Value}{Q:List Value->Shared->Prop}(h0:A.handled=none)(hq:s.heap.IsList q ys)(k:∀h',Heap.ExtBut s.heap.objs.size s.heap h'->Q ys.toList {s with heap:=h' }):wpAny (model prog w) A (unpackItems (.ref q) ys.size none) Q E s:=by
 have lt:q≠s.heap.objs.size:=by obtain⟨o,e,_⟩:=hq;exact Zb (YM e)
 unfold unpackItems;refine YE ?_;unfold notIterableAtAll;refine YE (wpAny_specialOf hq.typeIs slot_list_iter.lookup (YX ?_));simp only[Zd,aaa];refine YE (ZQ (wpAny_pyIter_list hq ?_));refine YE (ZQ (LU lt ys.size 0 _ _ ⟨_,Y2 _ rfl,rfl,rfl⟩ (hq.push _) xL λg1 j1 k1=>?_));have all:List.take ys.size (List.drop 0 ys.toList)=ys.toList:=by rw[List.drop_zero];exact Y8 x_
 rw[all,if_neg (by simp)];refine YE (ZQ (wpAny_pyNext_list_end h0 j1 ((hq.push _).extBut k1.extBut lt) x_ λg2 k2=>?_));simp only[Option.isSome_none,Zd,aaa];exact YX (k g2 λb o hb e=>k2 b o hb (k1.extBut b o hb (YG _ e)))
end
section
variable{X:Cx}{es:List Expr}{pos:Pos}
noncomputable def Ts(K:W.Frag)(n:Nat)(t:Ur):TG:=λv σ H Q=>∃a xs,v=.ref a/\Up K H a xs/\xs.length=n/\t xs σ H Q
theorem LV{k:Nat}{t:Ur}{n:Nat}(hc:X.calm=true)(h:Us X es t)(hn:(assignEach es X.env).length=n:=by rfl)(hst:(assignEach es X.env).findIdx? (·.1)=none:=by rfl):PG X (.Tuple es k pos) (Ts X.K n t):=by
 intro ab s σ H v u Q I r hw;obtain⟨a,xs,e1,hq,hl,hw⟩:=hw;subst e1;cases r;obtain⟨its,rv,ht,hz⟩:=I.list hq;rw[assign_Tuple];refine YE (aaY ?_);unfold unpack;have e:(assignEach es X.env).length=its.toArray.size:=by simp[hn,<- hl,rv.length]
 rw[e,hst];refine YE (ZQ (NB (I.ok.hd hc) ht.isList λh' hx=>?_));have I1:Uh X ab σ H {s with heap:=h' }:=I.kept (t':=s.toks) λb o e=>hx b o (Zb (YM e)) e;exact h ab _ σ H xs _ Q I1 (by simpa using rv) hw
def Br(is:List Nat):Tg:=λx Z k=>match x with
 |.lst xs=>ir is xs Z k
 |_=>False
theorem LW{is:List Nat}{k:Nat}(hc:X.calm=true)(h:Vc X es is)(hn:(assignEach es X.env).length=is.length:=by rfl)(hst:(assignEach es X.env).findIdx? (·.1)=none:=by rfl):Vb X (.Tuple es k pos) (Br is):=by
 obtain⟨gg,hg,b0,q⟩:=h;refine⟨_,LV hc hg hn hst,λv σ H Pr Z x k hl E r h=>?_⟩
 cases r with
 |lst hs rs=>exact⟨_,_,rfl,hs.l,by rw[rs.length];exact gC h,q _ σ H Pr Z _ k hl E rs h⟩
 |_=>exact h.elim
variable{e:Expr}
end
end L2
namespace L2
open PySem PySem.Spec PyProof.Rows
end L2
namespace L2
open PySem PySem.Spec PyProof.Rows PySem.W
section
structure VA (h:Heap) (e:Addr) (cls:Value) (dx T:Option Addr):Prop where
 ex:∃vs sl,h.get? e=some ⟨cls,dx,.fields vs,sl⟩/\1<vs.size/\(match T with
  |none=>vs[1]?=some .none
  |some t=>vs[1]?=some (.ref t)/\t≠e/\∃ot ts,h.get? t=some ot/\ot.data=.fields ts/\ts[3]?=some .none)
end
noncomputable def VB(H:Hp)(e:Addr):Hp:=λb=>if b=e then none else H b
theorem rp{H:Hp}{e b:Addr}(h:b≠e):VB H e b=H b:=by unfold VB;rw[if_neg h]
theorem C7{H:Hp}{e:Addr}:VB H e e=none:=by unfold VB;rw[if_pos rfl]
section
variable{X:Cx}{ab:List (Addr×Obj)}{σ:St}{H:Hp}{s:Shared}
theorem Uh.track{e:Addr}{o:HO}(I:Uh X ab σ H s)(hn:H e=none)(h0:X.s₀.heap.objs.size<=e)(hL:e≠X.env.locals)(hc:∀x c,X.env.cells.lookup x=some c->c≠e)(hp:∀p∈X.pn++ab,p.1≠e)
  (new:ip X.prog X.w (TY H e o) s.heap e o):Uh X ab σ (TY H e o) s:=by
 have ne:∀b u,H b=some u->b≠e:=λb u q z=>by subst z;rw[hn]at q;cases q
 refine⟨I.ok,I.os,I.bare,⟨I.base.keep,I.base.slot,λb u e1 n hx=>?_,I.base.there,λb xs q=>?_,λb u z q=>?_,λb ps q=>?_⟩,I.loc,I.cell,?_,λx c q=>?_,λp hq=>?_,λb u q=>?_,I.len⟩
 . rw[aH (λz=>by subst z;exact absurd (YM e1) (Nat.not_lt.mpr h0))];exact I.base.free b u e1 n hx
 . have z:=I.base.tups b xs q;rw[aH (ne b _ z)];exact z
 . have z:=I.base.frzs b _ _ q;rw[aH (ne b _ z)];exact z
 . have z:=I.base.tbls b ps q;rw[aH (ne b _ z)];exact z
 . rw[aH (Z4 hL)];exact I.free
 . rw[aH (hc x c q)];exact I.freeC x c q
 . obtain⟨a1,a2,a3⟩:=I.pin p hq;exact⟨a1,by rw[aH (hp p hq)];exact a2,a3⟩
 .
  by_cases hb:b=e
  . subst hb;rw[bF]at q;cases q;exact new
  . rw[aH hb]at q;exact(I.hok b u q).stay (λc v _ z=>z) (λc z=>by rw[aH (ne c _ z)];exact z) (λc xs z=>by rw[aH (ne c _ z)];exact z) λc ob _ _ z=>by rw[aH (ne c _ z)];exact z
end
section
variable{K:Frag}{Pr H H':Hp}{σ:St}{Z:Ev}
theorem aI.exten(E:aI K Pr H σ Z)(h:∀b o,H b=some o->H' b=some o):aI K Pr H' σ Z :=
 ⟨λb o e=>h b o (E.sub b o e),E.nd,E.off,Paired.impMem E.sl λl hl s q=>q.pres (λb u _ e=>h b u e) l λa e=>by
  obtain⟨vs,e,_⟩:=E.at_own (jc.mpr ⟨l,hl,e⟩)
  rw[h _ _ e,e]⟩
end
theorem VA.at{h h':Heap}{e:Addr}{cls:Value}{dx:Option Addr}(f:VA h e cls dx none)(k:∀o,h.get? e=some o->h'.get? e=some o):VA h' e cls dx none:=by obtain⟨vs,sl,he,hz,h1⟩:=f;exact⟨vs,sl,k _ he,hz,h1⟩
noncomputable def XO(e:Addr)(cls:Value)(dx:Option Addr):HO:=.ext λh=>VA h e cls dx none
noncomputable def XD(d:Addr)(fs:List (Str×V)):HO:=.ext λh=>∃mA,h.Ns1 d mA/\(∀f,Q6 (fs.lookup f) (mA f))/\PySem.Within mA (fs.map (·.1))
theorem XO.ok{P:Program}{w:World}{H:Hp}{h:Heap}{e:Addr}{cls:Value}{dx:Option Addr}(f:VA h e cls dx none):ip P w H h e (XO e cls dx):=by obtain⟨vs,sl,he,hz,h1⟩:=f;exact⟨⟨vs,sl,he,hz,h1⟩,⟨_,he⟩,λh1 h2 p k=>p.at k⟩
theorem XD.ok{P:Program}{w:World}{H:Hp}{h:Heap}{d:Addr}{fs:List (Str×V)}{mA:Str->Option Value}(n:h.Ns1 d mA)(r:∀f,Q6 (fs.lookup f) (mA f))(wi:PySem.Within mA (fs.map (·.1))):ip P w H h d (XD d fs) :=
 ⟨⟨mA,n,r,wi⟩,let ⟨o,_,_,e,_⟩:=n;⟨o,e⟩,λh1 h2 ⟨mA,n,r⟩ k=>⟨mA,n.at k,r⟩⟩
structure Xc where
 c:Str
 ns:List Str
 ds:List D
def RE(K:Frag)(H:Hp)(cls:Value)(dx:Option Addr)(x:Xc):Prop:=∃C vs,cls=.ref C/\we K x.c C=true/\(∀f∈x.ns,findIn K (.ref C) f=some none)/\XF H dx x.ns vs/\bX K H vs x.ds
theorem RE.ext{K:Frag}{H H':Hp}{cls:Value}{dx:Option Addr}{x:Xc}(f:RE K H cls dx x)(h:∀b o,H b=some o->H' b=some o):RE K H' cls dx x:=by obtain⟨C,vs,e,s,fq,a,r⟩:=f;exact⟨C,vs,e,s,fq,a.pres λb o _ q=>h b o q,r.pres λb o _ q=>h b o q⟩
section
variable{X:Cx}{ab:List (Addr×Obj)}{σ:St}{H:Hp}{s:Shared}
theorem TZ.there{P:Program}{w:World}{H:Hp}{h:Heap}(x:TZ P w H h){b:Addr}{o:HO}(e:H b=some o):∃u,h.get? b=some u:=by
 have lt:=x.lt e
 cases o with
 |lst xs=>obtain⟨_,_,_,_,e⟩:=x b _ e;exact⟨_,e⟩
 |tup xs=>obtain⟨_,_,_,o,e,_⟩:=x b _ e;exact⟨_,e⟩
 |dK kvs=>obtain⟨_,_,_,_,o,_,_,e,_⟩:=x b _ e;exact⟨_,e⟩
 |dT kvs=>obtain⟨_,_,_,_,o,_,_,e,_⟩:=x b _ e;exact⟨_,e⟩
 |set S n=>obtain⟨o,_,_,_,e,_⟩:=x b _ e;exact⟨_,e⟩
 |ins C dx fs=>obtain⟨_,_,_,e,_⟩:=x b _ e;exact⟨_,e⟩
 |own y=>obtain⟨_,e⟩:=x b _ e;exact⟨_,e⟩
 |xd fs=>obtain⟨_,⟨_,_,_,e,_⟩,_⟩:=x b _ e;exact⟨_,e⟩
 |rng lo hi=>obtain⟨_,_,_,e⟩:=x b _ e;exact⟨_,e⟩
 |frz ob u=>obtain⟨e,_⟩:=x b _ e;exact⟨_,e⟩
 |tbl t=>obtain⟨_,e,_⟩:=x b _ e;exact⟨_,e⟩
 |met f y=>exact⟨_,(show h.get? b=some _ from x b _ e)⟩
 |ext φ=>obtain⟨_,⟨_,e⟩,_⟩:=x b _ e;exact⟨_,e⟩
structure VC (X:Cx) (ab:List (Addr×Obj)) (b:Addr):Prop where
 s0:X.s₀.heap.objs.size<=b
 loc:b≠X.env.locals
 cel:∀x c,X.env.cells.lookup x=some c->c≠b
 pin:∀p∈X.pn++ab,p.1≠b
theorem Uh.newer(I:Uh X ab σ H s){b:Addr}(h:s.heap.objs.size<=b):VC X ab b:=by
 refine⟨YH I.sz h,λz=>?_,λx c e z=>?_,λp hp z=>?_⟩
 . have:=I.lt;rw[<- z]at this;exact absurd this (Nat.not_lt.mpr h)
 . obtain⟨v,o,ho,_⟩:=I.cell x c e;have:=YM ho;rw[z]at this;exact absurd this (Nat.not_lt.mpr h)
 . have:=YM (I.pin p hp).1;rw[z]at this;exact absurd this (Nat.not_lt.mpr h)
end
abbrev VD:=List D->(L->Prop)->(Xc->Prop)->Prop
theorem aI.ds{K:Frag}{H:Hp}:∀{vs:List V}{ds:List D},bX K H vs ds->Paired (bo K H) (vs.map some) (ds.map .d)
 |_,_,.nil=>.nil
 |_,_,.cons h t=>.cons ⟨_,rfl,h⟩ (aI.ds t)
end L2
namespace L2
open PySem PySem.Spec PyProof.Rows
section
variable{κ:Type}[DecidableEq κ]
theorem KV.any{kvs:List (κ×V)}{vs:List (κ×Value)}(r:KV kvs vs)(k:κ):(kvs.any λkv=>decide (kv.1=k))=vs.any λkv=>decide (kv.1=k):=by
 unfold KV at r
 induction r with
 |nil=>rfl
 |cons h t ih=>rw[aaF,aaF,ih,h.1]
theorem KV.length{kvs:List (κ×V)}{vs:List (κ×Value)}(r:KV kvs vs):kvs.length=vs.length:=Paired.length r
end
abbrev DR(K:W.Frag)(H:Hp):List (TX×V)->List (TX×D)->Prop:=Paired λ(p:TX×V) (q:TX×D)=>p.1=q.1/\UW K H p.2 q.2
theorem DR.any{K:W.Frag}{H:Hp}{k:TX}:∀{vs:List (TX×V)}{kvs:List (TX×D)},DR K H vs kvs->(vs.any λp=>decide (p.1=k))=kvs.any λp=>decide (p.1=k)
 |_,_,.nil=>rfl
 |p::vs,q::kvs,.cons h t=>by rw[aaF,aaF,DR.any t,h.1]
theorem DR.pres{K:W.Frag}{H H':Hp}(p:wg H H'){vs:List (TX×V)}{kvs:List (TX×D)}(h:DR K H vs kvs):DR K H' vs kvs:=Paired.mapP h λ_ _ z=>⟨z.1,z.2.pres p⟩
section
variable{X:Cx}
noncomputable def Qh:D->Bool
 |.int _=>true
 |.str _=>true
 |.bl _=>true
 |.non=>true
 |_=>false
inductive VE (X:Cx):List (Option Expr)->List Expr->List (TX×D)->Prop where
 |nil:VE X [] [] []
 |int {k v:Expr} {ks:List (Option Expr)} {vs:List Expr} {i:Int} {d:D} {kvs:List (TX×D)} (hk:PL X k (wC (.int i))) (hv:PL X v (wC d)) (hf:Qh d=true) (t:VE X ks vs kvs):VE X (some k::ks) (v::vs) ((.inl i,d)::kvs)
 |str {k v:Expr} {ks:List (Option Expr)} {vs:List Expr} {y:Str} {d:D} {kvs:List (TX×D)} (hk:PL X k (wC (.str y))) (hv:PL X v (wC d)) (hf:Qh d=true) (t:VE X ks vs kvs):VE X (some k::ks) (v::vs) ((.inr y,d)::kvs)
theorem VE.len:∀{ks:List (Option Expr)}{vs:List Expr}{kvs:List (TX×D)},VE X ks vs kvs->ks.all (·.isSome)=true/\ks.length=vs.length/\ks.length=kvs.length
 |_,_,_,.nil=>⟨rfl,rfl,rfl⟩
 | _,_,_,.int _ _ _ t=>by obtain⟨h1,h2,h3⟩:=t.len;simp[h1,h2,<- h3]
 | _,_,_,.str _ _ _ t=>by obtain⟨h1,h2,h3⟩:=t.len;simp[h1,h2,<- h3]
end
end L2
namespace L2
open PySem PySem.Spec PyProof.Rows PySem.SeqAt
mutual
noncomputable def C8:Nat->D->Bool
 |_,.non=>true
 |_,.bl _=>true
 |_,.int _=>true
 |_,.str _=>true
 |n+1,.tup xs=>Bs n xs
 |n+1,.lst xs=>Bs n xs
 |n+1,.dct m=>m == 0
 |_,_=>false
noncomputable def Bs:Nat->List D->Bool
 |_,[]=>true
 |n,x::xs=>C8 n x && Bs n xs
end
mutual
noncomputable def Et:D->Nat
 |.int _=>602
 |.str x=>10*x.length+2
 |.tup xs=>zH xs+3
 |.lst xs=>zH xs+3
 |_=>6
noncomputable def zH:List D->Nat
 |[]=>0
 |x::xs=>Et x+2+zH xs
end
mutual
theorem GC:∀d:D,(Ve d).leavesShort 601=true->(Ve d).shown.length<=Et d
 |.non,_=>by decide
 |.bl b,_=>by cases b<;>decide
 | .int i,h=>by
  have e:(PyData.shown (.int i)).length<=601:=by simpa only[Ve,PyData.leavesShort,YJ]using h
  exact Nat.le_succ_of_le e
 | .str x,h=>by
  have hx:∀c∈x.cps.toList,c<16^8:=by simpa only[Ve,PyData.leavesShort,aau,YJ]using h
  have e:=PySem.StrLaws.reprText_len x hx
  simp only[Ve,PyData.shown,Et]
  omega
 | .tup xs,h=>by
  have h1:=Bt xs (by simpa only[Ve,PyData.leavesShort]using h)
  have h2:=tupleText_len_le (PyData.shownAll (gy xs))
  have h3:=PyData.shownAll_length (gy xs)
  simp only[Ve,PyData.shown,Et]
  omega
 | .lst xs,h=>by
  have h1:=Bt xs (by simpa only[Ve,PyData.leavesShort]using h)
  have h2:=listText_len_le (PyData.shownAll (gy xs))
  have h3:=PyData.shownAll_length (gy xs)
  simp only[Ve,PyData.shown,Et]
  omega
 |.dct _,_=>by simp only[Ve,Et];decide
 |.exc _ _ _,_=>by simp only[Ve,Et];decide
 |.fn _ _,_=>by simp only[Ve,Et];decide
 |.dk _ _,_=>by simp only[Ve,Et];decide
 |.gf _,_=>by simp only[Ve,Et];decide
theorem Bt:∀ds:List D,PyData.leavesShortAll 601 (gy ds)=true->((PyData.shownAll (gy ds)).map (·.length)).sum+2*(gy ds).length<=zH ds
 |[],_=>by simp only[gy,PyData.shownAll,aaW,List.sum_nil,List.length_nil,zH];omega
 | d::ds,h=>by
  have h':(Ve d).leavesShort 601=true/\PyData.leavesShortAll 601 (gy ds)=true:=by simpa only[gy,PyData.leavesShortAll,YV]using h
  have h1:=GC d h'.1
  have h2:=Bt ds h'.2
  simp only[gy,PyData.shownAll,YQ,aaE,Zy,zH]
  omega
end
structure RF (d:D):Prop where
 ok:Vq 40 d=true
 sh:hU d=true
 ln:(Ve d).shown.length<=sizeLine
theorem C3.l{d:D}(h:C3 d):RF d:=⟨h.ok,h.sh,h.len⟩
end L2
namespace L2
open PySem PySem.Spec PyProof.Rows
end L2
namespace L2
open PySem PySem.Spec PyProof.Rows PySem.W
end L2
namespace L2
open PySem PySem.Spec PyProof.Rows
end L2
namespace L2
open PySem PySem.Spec PyProof.Rows PySem.SeqAt
mutual
noncomputable def VF:D->Bool
 |.dct n=>n == 0
 |.exc _ _ _=>false
 |.fn _ _=>false
 |.dk _ _=>false
 |.gf _=>false
 |.tup xs=>NC xs
 |.lst xs=>NC xs
 |.str x=>PyData.strOk x
 |_=>true
noncomputable def NC:List D->Bool
 |[]=>true
 |x::xs=>VF x && NC xs
end
mutual
theorem tY:∀d:D,VF d=true->hU d=true->(Ve d).leavesShort 601=true
 |.non,_,_=>rfl
 |.bl _,_,_=>rfl
 |.dct _,_,_=>rfl
 |.exc _ _ _,h,_=>by simp[VF]at h
 |.fn _ _,h,_=>by simp[VF]at h
 |.dk _ _,h,_=>by simp[VF]at h
 |.gf _,h,_=>by simp[VF]at h
 | .int i,_,h=>by
  have:=(sH (.int i) h).1
  simpa only[Ve,PyData.leavesShort,PyData.intsShort]using this
 |.str x,h,hs=>PyData.leavesShort_of_canLay0 601 (.str x) (by simpa only[VF,PyData.canLay0]using h) (sH (.str x) hs).1
 | .tup xs,h,hs=>by
  have:=p9 xs (by simpa only[VF]using h) (by simpa only[hU]using hs)
  simpa only[Ve,PyData.leavesShort]using this
 | .lst xs,h,hs=>by
  have:=p9 xs (by simpa only[VF]using h) (by simpa only[hU]using hs)
  simpa only[Ve,PyData.leavesShort]using this
theorem p9:∀ds:List D,NC ds=true->jj ds=true->PyData.leavesShortAll 601 (gy ds)=true
 |[],_,_=>rfl
 | d::ds,h,hs=>by
  simp only[NC,YV]at h
  simp only[jj,YV]at hs
  simp only[gy,PyData.leavesShortAll,tY d h.1 hs.1,p9 ds h.2 hs.2,Bool.and_self]
end
structure Sy (d:D):Prop where
 ok:VF d=true
 sh:hU d=true
 dp:(Ve d).depth<=40
 sg:Et d<=16777216
 ni:∀i,d≠.int i
theorem Sy.len{d:D}(h:Sy d):(Ve d).shown.length<=sizeLine:=by
 have e:sizeLine=16777216:=by decide
 rw[e];exact YH (GC d (tY d h.ok h.sh)) h.sg
end L2
namespace L2
open PySem PySem.Spec PyProof.Rows
section
def Qi(o:Option L)(i k:Nat)(Z:Ev)(k4:L->Ev->Prop):Prop:=match o with
 |some (.bx none ls)=>∃l,ls[k]?=some l/\k4 l (Z.set i (.bx none (ls.set k .un)))
 |some (.d (.tup ds))=>∃d,ds[k]?=some d/\k4 (.d d) Z
 |_=>False
theorem J4(ls:List L)(i k:Nat)(Z:Ev)(k4:L->Ev->Prop):Qi (some (.bx none ls)) i k Z k4=∃l,ls[k]?=some l/\k4 l (Z.set i (.bx none (ls.set k .un))):=rfl
theorem ND(ds:List D)(i k:Nat)(Z:Ev)(k4:L->Ev->Prop):Qi (some (.d (.tup ds))) i k Z k4=∃d,ds[k]?=some d/\k4 (.d d) Z:=rfl
end
section
def RG(r:L)(Z:Ev)(k4:L->Ev->Prop):Prop:=match r with
 |.bx (some _) ls=>k4 (.bx none ls) Z
 |_=>False
theorem J5(a:Addr)(ls:List L)(Z:Ev)(k4:L->Ev->Prop):RG (.bx (some a) ls) Z k4=k4 (.bx none ls) Z:=rfl
end
end L2
namespace L2
open PySem PySem.Spec PyProof.Rows PySem.W
theorem xA{p:Pos}{a b:Int}{c cv:Value}(l:List Value)(h:TriplesOk l)(e:codeAmong p (l++[rawInt a,rawInt b,c])=some cv):codeAmong p l=some cv∨cv=c:=by
 fun_induction TriplesOk l with
 | case1 =>
  simp only[aaA,codeAmong,rawInt]at e;split at e
  . cases e;exact .inr rfl
  . cases e
 | case2 a' t b' u x rest ih =>
  simp only[List.cons_append,codeAmong]at e ⊢;split at e
  . rename_i hc;rw[if_pos hc];exact .inl e
  . rename_i hc;rw[if_neg hc];exact ih h e
 |case3 l h1 h2=>exact h.elim
theorem zJ{cells:List (Str×Addr)}:∀(names:List (Str×NameKind))(acc:List (Str×Addr)),(names.filter λp=>p.2 == .free)=[]->zr cells names acc=acc
 |[],_,_=>rfl
 | (n,k)::r,acc,h=>by
  rw[Zu]at h;unfold zr;by_cases hk:(k == NameKind.free)=true
  . rw[if_pos hk]at h;cases h
  . rw[if_neg hk]at h;rw[if_neg hk];exact zJ r acc h
theorem C9{cells:List (Str×Addr)}{y:Str}{c:Addr}(hc:cells.lookup y=some c):∀(names:List (Str×NameKind))(acc:List (Str×Addr)),(names.filter λp=>p.2 == .free)=[(y,.free)]->zr cells names acc=(y,c)::acc
 |[],_,h=>by cases h
 | (n,k)::r,acc,h=>by
  rw[Zu]at h;unfold zr;by_cases hk:(k == NameKind.free)=true
  . rw[if_pos hk]at h;simp only[List.cons.injEq,Prod.mk.injEq]at h;obtain⟨⟨h1,h2⟩,h3⟩:=h;subst h1;rw[if_pos hk,hc];exact zJ r _ h3
  . rw[if_neg hk]at h;rw[if_neg hk];exact C9 hc r acc h
section
variable{X:Cx}{ab:List (Addr×Obj)}{σ:St}{H:Hp}{s:Shared}
theorem J6{x:Str}{c0 P c:Addr}{y:Str}{pr:Arguments}{bd:Expr}{sc:Scope}{pos:Pos}{Q:Value->Shared->Prop}{E:Value->Shared->Prop}{A:Around}
  (I:Uh X ab σ H s) (hx:x∈lamNames) (ht:tabIn X.K x=some (c0,P)) (hcode:X.env.code=.ref c0) (hq:X.env.qual++"<lambda>"=wb x) (hcl:closureFor sc X.env=pure [(y,c)]) (hdef:defaultsOf pr X.env=([],[]))
  (h:∀(f c':Addr)(oq:Obj)(H':Hp)(s':Shared)(ctv pm:Value),Uh X ab σ H' s'->(∀ b o,H b=some o->H' b=some o)->s'.heap.get? f=some (kla_obj "<lambda>" (wb x) pr bd sc [(y,c)] pm c' ctv)->H' f=none->s.heap.objs.size<=f ->
   H' c'=some (.frz oq (.own c'))->sV oq (wb x)->Q (.ref f) s'):wpAny (model X.prog X.w) A (eval (.Lambda pr bd sc pos) X.env) Q E s:=by
 have hP:=I.tbs x hx c0 P ht;obtain⟨ps,eP,tr,among⟩:=id (I.hok P _ hP);have C:CodeHd s.heap c0 P:=(I.ok.mod.cds x hx c0 P ht).keeps I.bk;have hg:s.heap.Ns mainGlobals X.mg:=I.ok.mod.glob.keeps I.bk;obtain⟨bm,ob,b1,b2,b3,b4,b5,b6⟩:=I.ok.mod.bmn;have hbk:=I.bk bm ob b3;have hgP:mainGlobals≠P:=λz=>by obtain⟨o,es,ep,e,hd,_⟩:=hg;rw[z,eP]at e;cases e;cases hd
 have hbP:bm≠P:=λz=>by rw[z,eP]at hbk;cases hbk;cases b4
 have hbG:bm≠mainGlobals:=λz=>by obtain⟨o,es,ep,e,hd,_⟩:=hg;rw[z,e]at hbk;cases hbk;rw[hd]at b6;cases b6
 refine kla_eval hdef ?_;rw[hq]
 cases q:codeAmong pos ps.toList with
 | none =>
  refine kla_makeFunction (mg:=X.mg) hcl I.ok.glob hg hcode C eP tr q hgP ⟨bm,ob,b1,b2,hbG,hbP,hbk,b4,b5,b6⟩ λc' ctv h' tk hx' hge hlt hrec htb=>?_;obtain⟨c2,oq,vs,t,e2,hoc,hd,hv⟩:=hrec;cases e2;have hn:H c'=none:=I.hok.fresh hge;have nP:∀b,H b=none->b≠P:=λb n z=>by rw[z,hP]at n;cases n
  have old:∀ b o,b≠P->s.heap.get? b=some o->(h'.push (kla_obj "<lambda>" (wb x) pr bd sc [(y,c)] ((X.mg "__name__").getD .none) c' ctv)).get? b=some o:=λb o nb e=>YG _ (hx' b o nb e);have up:∀b u,H b=some u->TY H c' (.frz oq (.own c')) b=some u:=λb u e=>by rw[aH (bJ e hn)];exact e
  have co:sV oq (wb x):=⟨vs,t,hd,hv⟩
  have J:Uh X ab σ (TY H c' (.frz oq (.own c'))) {s with heap:=h'.push (kla_obj "<lambda>" (wb x) pr bd sc [(y,c)] ((X.mg "__name__").getD .none) c' ctv),toks:=tk}:=by
   refine I.un ⟨λb o e n _ _=>old b o (nP b n) e,λb o e n _ _=>⟨o.slots,old b o (nP b n) e⟩,λb o e n _=>?_,λb o e _=>?_,λb xs e=>up b _ e,λb o u e=>up b _ e,λb t e=>up b _ e⟩ λb u e=>?_
   . rw[aH (Zb (so (YM e) hge))];exact n
   .
    by_cases z:b=P
    . subst z;exact⟨_,YG _ htb⟩
    . exact⟨o,old b o z e⟩
   .
    by_cases z:b=c'
    . subst z;rw[bF]at e;cases e;exact⟨YG _ hoc,⟨_,YG _ hoc⟩⟩
    .
     rw[aH z]at e;by_cases zP:b=P
     .
      subst zP;rw[hP]at e;cases e;refine⟨_,YG _ htb,?_,λpos' cv hc'=>?_⟩
      . rw[Array.toList_append];exact TriplesOk_snoc _ _ _ _ tr
      .
       rw[Array.toList_append]at hc';rcases xA _ tr hc' with z1|z1
       . obtain⟨c3,o3,a1,a2,a3⟩:=among pos' cv z1;exact⟨c3,o3,a1,up _ _ a2,a3⟩
       . exact⟨c',oq,z1,bF,co⟩
     .
      refine(I.hok b u e).stay (λd v hd z2=>old d v ?_ z2) (λd z2=>up d _ z2) (λd xs z2=>up d _ z2) λd od _ _ z2=>up d _ z2;rcases hd with rfl|hd
      . exact zP
      . intro z3;rw[z3,hP]at hd;cases hd
  exact h _ c' oq _ _ ctv _ J up (Y2 _ rfl) (by rw[aH (Nat.ne_of_gt hlt)];exact I.hok.fresh (YH hge (ZX hlt))) (YH hge (ZX hlt)) bF co
 | some cv =>
  obtain⟨c',oq,rfl,hz,co⟩:=among pos cv q;refine kla_makeFunctionHit (mg:=X.mg) hcl I.ok.glob hg hcode C eP tr q ⟨bm,ob,b1,b2,hbG,hbP,hbk,b4,b5,b6⟩ λctv h' tk hk hsz=>?_;exact h _ c' oq H _ ctv _ (I.kept λb o e=>YG _ (hk b o e)) (λ_ _ e=>e) (Y2 _ rfl) (I.hok.fresh hsz) hsz hz co
end
def Qj(K:Frag)(H:Hp)(h:Heap)(f:Addr)(x:Str)(d:D):Prop:=∃(c c':Addr)(oc oq:Obj)(y:Str)(pr:Arguments)(bd:Expr)(sc:Scope)(pos:Pos)(pm ctv u:Value)(v:V),
 D9 K x=some (pr,bd,sc,pos)/\h.get? f=some (kla_obj "<lambda>" (wb x) pr bd sc [(y,c)] pm c' ctv)/\h.get? c'=some oq/\sV oq (wb x)/\h.get? c=some oc/\(H c=none∨∃ o,H c=some (.frz o (.own c)))/\oc.data=.cell (some u)/\cJ v u/\(y,NameKind.free)∈sc.names/\UW K H v d
noncomputable def NF(P:Program)(w:World)(K:Frag)(mg:Str->Option Value)(base:Heap)(p y:Str)(qual:Str)(sc:Scope)(f c':Addr)(cl:List (Str×Addr))(A:Around)(outer:List Env)(s:Shared)(H:Hp):Cx where
 prog:=P
 w:=w
 K:=K
 mg:=mg
 base:=base
 A:=A.deeper (envX qual sc s.heap.objs.size f (.ref c') cl)
 N:=[p,y]
 s₀:=s
 H₀:=H
 env:=envX qual sc s.heap.objs.size f (.ref c') cl
 outer:=outer
 stack:=envX qual sc s.heap.objs.size f (.ref c') cl::outer
 ex:=[]
 calm:=true
 fn:=λ_=>false
 pn:=[]
 xe:=λ_ _=>False
structure NG (p y:Str) (pr:Arguments) (bd:Expr) (sc:Scope):Prop where
 par:sc.names.lookup p=some .local
 fre:sc.names.lookup y=some .free
 nc:∀z∈sc.names,z.2≠.cell
 one:∀z,(z,NameKind.free)∈sc.names->z=y
 co:sc.isCoroutine=false
 gen:sc.isGenerator=false
 kind:sc.kind=.function
 bind:∀(q:Str)(cl:List (Str×Addr))(pm cdv ct u:Value),bindArgs (kla_fn "<lambda>" q pr bd sc cl pm cdv ct) ⟨[u],[]⟩=pure [(p,u)]
def Re(r:L)(k:D->Prop):Prop:=match r with
 |.d z=>k z
 |_=>False
theorem NH{r:L}{k:D->Prop}(h:Re r k):∃z,r=.d z/\k z:=by
 cases r with
 |d z=>exact⟨z,rfl,h⟩
 |_=>exact h.elim
structure NI (P:Program) (w:World) (K:Frag) (mg:Str->Option Value) (base:Heap) (k:Nat) (x:Str) (fs:FS):Prop where
 run:∀(A:Around)(outer:List Env)(s:Shared)(H:Hp)(f:Addr)(u:Value)(v:V)(a d:D)(k4:D->Prop),m6 k A->Ju P w K mg base A outer s H->cJ v u->UW K H v a->Qj K H s.heap f x d->fs [.d a,.d d] (λr _=>Re r k4) ->
  codeAny (model P w) A (.call (.ref f) ⟨[u],[]⟩) (CR CX0 outer P w H s (λv H'=>(∀b o,H b=some o->H' b=some o)/\∃z,UW K H' v z/\k4 z) E0) s
theorem NJ{P:Program}{w:World}{K:Frag}{mg:Str->Option Value}{base:Heap}{p y:Str}{qual:Str}{pr:Arguments}{bd:Expr}{sc:Scope}{f c c':Addr}{A:Around}{outer:List Env}{s:Shared}{H:Hp}{h1:Heap}{tk:Nat}{u u':Value}{v v':V}{oc:Obj}
  (S:NG p y pr bd sc) (hd:A.handled=none) (e0:Ju P w K mg base A outer s H) (r:cJ v u) (r':cJ v' u') (gc:s.heap.get? c=some oc) (dc:oc.data=.cell (some u')) (hc:H c=none∨∃o,H c=some (.frz o (.own c)))
  (hns:h1.Ns s.heap.objs.size λz=>[(p,u)].reverse.lookup z) (k:∀b o,s.heap.get? b=some o->h1.get? b=some o) :
  Uh (NF P w K mg base p y qual sc f c' [(y,c)] A outer s H) [] [some v,some v'] H {s with heap:=h1,toks:=tk}:=by
 have hpy:p≠y:=λz=>by have:=S.par;rw[z,S.fre]at this;cases this
 have one:∀z d,([(y,c)]:List (Str×Addr)).lookup z=some d->z=y/\d=c:=λz d e=>by
  rw[Zt]at e
  cases q:z == y with
  |true=>rw[q]at e;cases e;exact⟨eq_of_beq q,rfl⟩
  |false=>rw[q]at e;cases e
 have at_y:([(y,c)]:List (Str×Addr)).lookup y=some c:=by rw[Zt,beq_self_eq_true]
 have noA:∀b:Addr,b∉(NF P w K mg base p y qual sc f c' [(y,c)] A outer s H).ex:=λb z=>absurd (show b∈([]:List Addr)from z) x_
 refine⟨⟨e0.mod,S.kind,rfl,rfl,YN _,λa b d h1 h2=>?_,λz hz=>?_,λz d hf _=>absurd (show false=true from hf) xp,λ_=>hd,Around.frames_deeper e0.frames,.inr ⟨rfl,rfl⟩,λb z=>absurd z (noA b),e0.bs,e0.bsz,λb _ _=>noA b,λb z=>absurd z (noA b),e0.funs,e0.frf,e0.tbs⟩,
  rfl,e0.bare,Un.kept k,⟨_,hns,λi z v2 h1 h2 h3=>?_⟩,λz d h=>?_,e0.hok.fresh (YN _),λz d h=>?_,λq hq=>absurd (show q∈([]:List (Addr×Obj))from hq) x_,e0.hok.kept k,rfl⟩
 . exact(one a d h1).1.trans (one b d h2).1.symm
 .
  have hz:sc.names.lookup z=some .cell∨sc.names.lookup z=some .free:=hz;rcases hz with hz|hz
  . exact absurd rfl (S.nc _ (aac hz))
  . rw[S.one z (aac hz)];exact⟨c,at_y⟩
 .
  match i,h1,h2 with
  | 0,h1,h2 =>
   have e1:p=z:=Y5 h1;have e2:v=v2:=by simpa using h2
   subst e1 e2;exact⟨u,r,.inl ⟨S.par,x_⟩⟩
  | 1,h1,h2 =>
   have e1:y=z:=Y5 h1;have e2:v'=v2:=by simpa using h2
   subst e1 e2;exact⟨u',r',.inr ⟨.inr S.fre,c,at_y,oc,k c oc gc,dc⟩⟩
  |n+2,h1,h2=>simp at h2
 . obtain⟨_,rfl⟩:=one z d h;exact⟨_,oc,k d oc gc,dc⟩
 . obtain⟨_,rfl⟩:=one z d h;exact hc.imp id λz=>⟨rfl,z⟩
theorem Qk{P:Program}{w:World}{K:Frag}{mg:Str->Option Value}{base:Heap}{k:Nat}{x p y:Str}{pr:Arguments}{bd:Expr}{sc:Scope}{pos:Pos}{fs:FS}(hl:D9 K x=some (pr,bd,sc,pos))(S:NG p y pr bd sc)(t:W L)
  (hbody:∀(A:Around)(outer:List Env)(s:Shared)(H:Hp)(f c c':Addr),m6 k (A.deeper (envX (wb x) sc s.heap.objs.size f (.ref c') [(y,c)]))->PL (NF P w K mg base p y (wb x) sc f c' [(y,c)] A outer s H) bd t)
  (h:∀a d k4,fs [.d a,.d d] k4->t [.d a,.d d] λr _=>k4 r []):NI P w K mg base (k+1) x fs:=by
 refine⟨λA outer s H f u v a d k4 hr e0 rv ra la hf=>?_⟩;obtain⟨c,c',oc,oq,y',pr',bd',sc',pos',pm,ctv,u',v',hl',gf,gq,hq,gc,hc,dc,rv',hm,rd⟩:=la;rw[hl]at hl';cases hl';obtain rfl:=S.one y' hm;obtain⟨vs,tq,hd1,hd2⟩:=hq;have lim:s.heap.NoLimit:=e0.mod.nolimit.keeps λb o e=>(e0.bs b o e).1;refine kla_callFunE hr.depth gf rfl S.co S.gen rfl ⟨c',oq,vs,tq,rfl,gq,hd1,hd2⟩ ?_;rw[S.bind]
 refine YX (wpAny_newFunctionEnv S.nc (λz hz=>by
  have:z=(p,u):=by simpa using hz
  subst this;exact S.par) (λh₁ hns hsb=>⟨lim.fresh _ hsb,?_⟩) S.kind)
 have hk₁:∀b o,s.heap.get? b=some o->h₁.get? b=some o:=λb o e=>hsb.extBut b o (Zb (YM e)) (YG _ e);show codeAny _ _ (.expr bd (envX (wb x) sc s.heap.objs.size f (.ref c') [(y',c)])) _ _;have I:=NJ (P:=P) (w:=w) (K:=K) (mg:=mg) (base:=base) (qual:=wb x) (f:=f) (c':=c') (tk:=s.toks+[(p,u)].length) S hr.hd e0 rv rv' gc dc hc hns hk₁;have E:aI K H H [some v,some v'] [.d a,.d d]:=⟨λ_ _ e=>e,List.nodup_nil,λa ha=>absurd (show a∈([]:List Addr)from ha) x_,.cons ⟨v,rfl,ra⟩ (.cons ⟨v',rfl,rd⟩ .nil)⟩;refine kla_codeExpr (aaz (hbody A outer s H f c c' (hr.deeper _) [] _ _ H H _ (λr _=>Re r k4) I E (h a d _ hf)) (λv2 s' hs=>?_) λe s' hs=>(show False from hs).elim);obtain⟨v3,H',r,Z',J,rv3,E',q⟩:=hs;obtain⟨z,rfl,hp⟩:=NH q;obtain⟨w3,e3,rz⟩:=E'.head_d;cases e3;exact⟨v3,H',J.os,J.bare,J.base,J.hok,rv3,E'.sub,z,rz,hp⟩
def RH(i:Nat)(Z:Ev)(k:D->Prop):Prop:=match Z[i]? with
 |some (.d x)=>k x
 |_=>False
theorem NK{i:Nat}{Z:Ev}{k:D->Prop}(h:RH i Z k):∃x,Z[i]?=some (.d x)/\k x:=by
 unfold RH at h;split at h
 . rename_i x q;exact⟨x,q,h⟩
 . exact h.elim
theorem Un.one{P:Program}{w:World}{fs:List Addr}{H H':Hp}{h h':Heap}{c:Addr}{oc:Obj}(hc:H c=none)(gc:h.get? c=some oc)(cc:∀q,¬sV oc q)(u:Un fs [] (TY H c (.frz oc (.own c))) H' h h')(ok:TZ P w H' h') :
  Un fs [] H (VB H' c) h h'/\TZ P w (VB H' c) h':=by
 have zc:H' c=some (.frz oc (.own c)):=u.frzs c oc _ bF;have gc':h'.get? c=some oc:=(ok c _ zc).1;have nz:∀b o,H' b=some o->o≠.frz oc (.own c)->b≠c:=λb o e n z=>by subst z;rw[zc]at e;cases e;exact n rfl
 refine⟨⟨λb o e n hb hx=>?_,λb o e n hb hx=>?_,λb o e n hx=>?_,λb o e hx=>u.there b o e hx,λb xs e=>?_,λb o v e=>?_,λb t e=>?_⟩,λb o e=>?_⟩
 .
  by_cases z:b=c
  . subst z;rw[gc]at e;cases e;exact gc'
  . exact u.keep b o e (by rw[aH z];exact n) hb hx
 .
  by_cases z:b=c
  . subst z;rw[gc]at e;cases e;exact⟨oc.slots,gc'⟩
  . exact u.slot b o e (by rw[aH z];exact n) hb hx
 .
  by_cases z:b=c
  . subst z;exact C7
  . rw[rp z];exact u.free b o e (by rw[aH z];exact n) hx
 . have z:=bJ e hc;rw[rp z];exact u.tups b xs (by rw[aH z];exact e)
 . have z:=bJ e hc;rw[rp z];exact u.frzs b o v (by rw[aH z];exact e)
 . have z:=bJ e hc;rw[rp z];exact u.tbls b t (by rw[aH z];exact e)
 .
  have hb:b≠c:=λz=>by subst z;rw[C7]at e;cases e
  rw[rp hb]at e;refine(ok b o e).stay (λ_ _ _ z=>z) (λd z=>?_) (λd xs z=>?_) λd od q co z=>?_
  . rw[rp (nz d _ z λy=>nomatch y)];exact z
  . rw[rp (nz d _ z λy=>nomatch y)];exact z
  . rw[rp (nz d _ z λy=>by cases y;exact cc q co)];exact z
structure Ql (X:Cx) (x y:Str) (i:Nat) (pr:Arguments) (bd:Expr) (sc:Scope) (pos:Pos):Prop where
 mem:x∈lamNames
 tab:∃c0 P,tabIn X.K x=some (c0,P)/\X.env.code=.ref c0
 lam:D9 X.K x=some (pr,bd,sc,pos)
 qual:X.env.qual++"<lambda>"=wb x
 deft:defaultsOf pr X.env=([],[])
 fre:(sc.names.filter λp=>p.2 == .free)=[(y,.free)]
 at_i:X.N[i]?=some y
 cel:X.env.scope.names.lookup y=some .cell
 fn:X.fn y=true
structure Qm (K:Frag) (x:Str) (fd:FuncData) (st:Stmt):Prop where
 tab:∃c0 P,tabIn K x=some (c0,P)/\fd.code=.ref c0
 lam:D9 K x=FT (fT st)
theorem Qm.mk'{K:Frag}{x:Str}{fd:FuncData}{st:Stmt}{c0:Addr}(h1:(tabIn K x).map (·.1)=some c0)(h2:fd.code=.ref c0)(h3:D9 K x=FT (fT st)):Qm K x fd st:=by
 refine⟨?_,h3⟩
 cases z:tabIn K x with
 |none=>rw[z]at h1;cases h1
 |some p=>rw[z]at h1;cases h1;exact⟨p.1,p.2,rfl,h2⟩
theorem Qn{X:Cx}{x y:Str}{i:Nat}{pr:Arguments}{bd:Expr}{sc:Scope}{pos:Pos}{fd:FuncData}{st:Stmt}(T:Qm X.K x fd st)(hc:fd.code=X.env.code)(h1:FT (fT st)=some (pr,bd,sc,pos))(mem:x∈lamNames) (qual:X.env.qual++"<lambda>"=wb x) (deft:defaultsOf pr X.env=([],[]))
  (fre:(sc.names.filter λp=>p.2 == .free)=[(y,.free)]) (at_i:X.N[i]?=some y) (cel:X.env.scope.names.lookup y=some .cell) (fn:X.fn y=true):Ql X x y i pr bd sc pos :=
 ⟨mem,let ⟨c0,P,a,b⟩:=T.tab;⟨c0,P,a,by rw[<- hc];exact b⟩,T.lam.trans h1,qual,deft,fre,at_i,cel,fn⟩
theorem RI{p y:Str}{pr:Arguments}{bd:Expr}{sc:Scope}(par:sc.names.lookup p=some .local)(fre:(sc.names.filter λp=>p.2 == .free)=[(y,.free)])(fr1:sc.names.lookup y=some .free)(nc:(sc.names.all λz=>z.2 != .cell)=true)(co:sc.isCoroutine=false)(gk:(sc.isGenerator,sc.kind)=(false,.function))
  (bind:∀(q:Str)(cl:List (Str×Addr))(pm cdv ct u:Value),bindArgs (kla_fn "<lambda>" q pr bd sc cl pm cdv ct) ⟨[u],[]⟩=pure [(p,u)]):NG p y pr bd sc where
 par:=par
 fre:=fr1
 nc:=λz hz q=>by have:=aau.mp nc z hz;rw[q]at this;exact absurd this xp
 one:=λz hz=>by have:(z,NameKind.free)∈sc.names.filter λp=>p.2 == .free:=Zv.mpr ⟨hz,rfl⟩;rw[fre]at this;simpa using this
 co:=co
 gen:=(Prod.mk.inj gk).1
 kind:=(Prod.mk.inj gk).2
 bind:=bind
section
variable{X:Cx}{ab:List (Addr×Obj)}{σ:St}{H:Hp}{s:Shared}
theorem VC.nofs{b:Addr}(I:Uh X ab σ H s)(n:VC X ab b):b∉Ud X.stack:=λhb=>by
 rcases YK.mp (I.stkSub b hb)with z|z
 . exact n.loc z
 . obtain⟨_,o,ho,_⟩:=I.ok.funs.mem z;exact absurd (so (YM ho) n.s0) (aaG _)
theorem Uh.two{h':Heap}{t':Nat}{c d:Addr}(I:Uh X ab σ H s)(nc:VC X ab c)(nd:VC X ab d)(hc:H c=none)(hd:H d=none)(k:∀b o,b≠X.env.locals->b≠c->b≠d->s.heap.get? b=some o->h'.get? b=some o)
  (ns:∀m,s.heap.Ns X.env.locals m->h'.Ns X.env.locals m):Uh X ab σ H {s with heap:=h',toks:=t' }:=by
 have nit:∀b u,H b=some u->b≠X.env.locals/\b≠c/\b≠d:=λb u e=>⟨λz=>(by rw[z,I.free]at e;cases e),λz=>(by rw[z,hc]at e;cases e),λz=>(by rw[z,hd]at e;cases e)⟩
 refine I.step (g':=s.gens) (d':=s.drawn) (ch:=[c,d]) (λb hb=>?_) (λb o hL _ hb e _=>k b o hL (λz=>hb (by simp[z])) (λz=>hb (by simp[z])) e) (λb o hL _ hb e _=>⟨o.slots,k b o hL (λz=>hb (by simp[z])) (λz=>hb (by simp[z])) e⟩) (λ_ _ _ _ n=>n)
  (λb o hb e=>?_) (λ_ _ e=>e) (λ_ _ _ e=>e) (λ_ _ e=>e) ns (λb u e=>?_) I.bare
 .
  have:b=c∨b=d:=by simpa using hb
  rcases this with rfl|rfl
  . exact⟨.inr nc.s0,nc.loc,nc.cel,nc.pin⟩
  . exact⟨.inr nd.s0,nd.loc,nd.cel,nd.pin⟩
 .
  by_cases hL:b=X.env.locals
  . obtain⟨m,hn,_⟩:=I.loc;obtain⟨o2,_,_,e2,_⟩:=ns m hn;rw[hL];exact⟨o2,e2⟩
  . exact⟨o,k b o hL (λz=>hb (by simp[z])) (λz=>hb (by simp[z])) e⟩
 .
  refine(I.hok b u e).stay (λx v hx q=>?_) (λ_ q=>q) (λ_ _ q=>q) λ_ _ _ _ q=>q
  have:∃u,H x=some u:=by
   rcases hx with rfl|hx
   . exact⟨u,e⟩
   . exact⟨_,hx⟩
  obtain⟨u2,e2⟩:=this;obtain⟨n1,n2,n3⟩:=nit x u2 e2;exact k x v n1 n2 n3 q
def VG(X:Cx)(ab:List (Addr×Obj))(σ:St)(H:Hp)(kS a:Addr)(s:Shared):Prop:=∃H',Uh X ab σ H' s/\(∀b o,H b=some o->H' b=some o)/\H' kS=none/\H' a=none/\(∃o,s.heap.get? kS=some o)/\∃o,s.heap.get? a=some o
def VH(X:Cx)(ab:List (Addr×Obj))(σ:St)(H:Hp)(a:Addr)(s:Shared):Prop:=∃H',Uh X ab σ H' s/\(∀b o,H b=some o->H' b=some o)/\H' a=none
variable{kS a:Addr}{vs:List Value}{kz:List Int}{e1:Nat}{f:Value}{A':Around}{P:PySem.Fin->Shared->Prop}{E:Value->Shared->Prop}
theorem J7(J0:VG X ab σ H kS a s)(nk:VC X ab kS)(na:VC X ab a)(hka:kS≠a) (gk:s.heap.get? kS=some (seqObj "list" #[] 0)) (ga:s.heap.get? a=some (seqObj "list" #[] e1)) (b0:kz.length=vs.length) (h64:vs.length < 64)
  (turn:∀(i:Nat)(v:Value)(k:Int),vs[i]?=some v->kz[i]?=some k->∀s',VG X ab σ H kS a s' ->
   wpAny (model X.prog X.w) A' (call f [v]) (λr s''=>∃t,r=.int k t/\VG X ab σ H kS a s''/\(∀o,s'.heap.get? kS=some o->s''.heap.get? kS=some o)/\∀o,s'.heap.get? a=some o->s''.heap.get? a=some o) (λ_ _=>False) s')
  (h:∀ s' out c,VH X ab σ H a s'->s'.heap.get? a=some (seqObj "list" out c)->KskOut false kz vs out.toList->P (.done (.ret .none)) s') :
  wpAny (model X.prog X.w) A' (ksk_rest a f false vs.toArray e1 (.ref kS)) P E s:=by
 unfold ksk_rest;refine YE (wpAny_rule ?_)
 first
  |rw[List.forIn_toArray]
  |(rw[<- Array.forIn_toList];simp only[List.toList_toArray])
  |rw[<- Array.forIn_toList]
 refine YE (ksk_fold (λi s'=>∃ kA e,VG X ab σ H kS a s'/\s'.heap.get? kS=some (seqObj "list" kA e)/\s'.heap.get? a=some (seqObj "list" #[] e1)/\IntsAre kA.toList (kz.take i)) vs 0 s
  ⟨#[],0,J0,gk,ga,by simpa using IntsAre.nil⟩ ?step ?done)
 case step =>
  rintro j x s' hx ⟨kA,e,J,g1,g2,hk⟩;simp only[Nat.zero_add]at hk ⊢;have hj:j<vs.length:=(YA.mp hx).1;obtain⟨k,hkj⟩:∃k,kz[j]?=some k:=⟨_,gV xL⟩;have hz:kA.size<=vs.length:=by have h1:=hk.length;rw[Array.length_toList,Zz]at h1;omega
  refine YE (wpAny_attempt (aaz (turn j x k hx hkj s' J) (λv s'' he=>?_) λ_ _ hF=>hF.elim));obtain⟨t2,rfl,⟨H',I,up,hn1,hn2,_,_⟩,k1,k2⟩:=he
  try dsimp only
  have q1:=k1 _ g1;have q2:=k2 _ g2;have s1:=Heap.SameBut.update s''.heap kS (Obj.mapSeq (·.push (.int k t2)));obtain⟨c2,hc2⟩:∃ c2,(s''.heap.update kS (Obj.mapSeq (·.push (.int k t2)))).get? kS=some (seqObj "list" (kA.push (.int k t2)) c2):=⟨_,get?_update_seq q1 (·.push (.int k t2))⟩;have ek:kz.take (j+1)=kz.take j++[k]:=by rw[List.take_add_one,hkj];simp
  have ea:(kA.push (Value.int k t2)).toList=kA.toList++[Value.int k t2]:=by simp
  refine YE (listUpdate_at q1 rfl ?_ (by rw[sizeLine_eq];omega) (YH (Nat.le_of_eq (Array.size_push ..)) (by rw[sizeLine_eq];omega)));refine YX ⟨rfl,kA.push (.int k t2),c2,⟨H',?_,up,hn1,hn2,⟨_,hc2⟩,⟨_,(s1.2 a hka.symm).trans q2⟩⟩,hc2,(s1.2 a hka.symm).trans q2,by rw[ea,ek];exact ksk_snoc hk⟩;exact I.two (t':=s''.toks) nk na hn1 hn2 (λb o _ n1 _ q=>(s1.2 b n1).trans q) λm hm=>hm.sameBut s1 (Z4 nk.loc)
 case done =>
  rintro s' ⟨kA,e,⟨H',I,up,hn1,hn2,_,_⟩,g1,g2,hk⟩;have hk':IntsAre kA.toList kz:=by have e3:kz.take (0+vs.length)=kz:=Y8 xL;rw[e3]at hk;exact hk
  try dsimp only
  refine YE (listItems_at g1 rfl ?_);obtain⟨m,hn,_⟩:=id I.loc;have F:Fr (Att.noObjs s'.heap) X.env.locals s'.heap m:=⟨hn,λb o z=>(by rw[Att.noObjs_get]at z;cases z),aae _⟩;refine ksk_end_ (b:=false) (e:=e) (h₀:=Att.noObjs s'.heap) (L:=X.env.locals) (m:=m) (news:=(sW (Att.noObjs s'.heap) s'.heap X.env.locals).filter λp=>decide (p.1≠kS) && decide (p.1≠a)) F (λp hp=>?_) hka (λp hp=>?_) (λp hp=>?_) hk' b0 h64 λh3 tk3 out c F3 N3 k3=>?_
  .
   rcases YY.mp hp with hp|hp
   . exact Jq p (Zv.mp hp).1
   .
    rcases YK.mp hp with rfl|hp
    . exact⟨g1,nk.loc,Att.noObjs_get _ _⟩
    . rw[Za.mp hp];exact⟨g2,na.loc,Att.noObjs_get _ _⟩
  . have:=(Zv.mp hp).2;simp only[YV,YJ]at this;exact this.1
  . have:=(Zv.mp hp).2;simp only[YV,YJ]at this;exact this.2
  .
   refine h _ out c ⟨H',?_,up,hn2⟩ (N3 _ (.head _)).1 k3;refine I.two (h':=h3) (t':=tk3) nk na hn1 hn2 (λb o n0 n1 n2 q=>?_) λm2 hm2=>?_
   . exact(N3 (b,o) (.tail _ (Zv.mpr ⟨A3 n0 (Att.noObjs_get _ _) q,by simp[n1,n2]⟩))).1
   . have e1:=hm2.eq_nsMap;have e2:=hn.eq_nsMap;rw[e1,<- e2];exact F3.ns
theorem Eu{l q:Addr}{Q:Value->Shared->Prop}(I:Uh X ab σ H s)(hl:s.heap.IsList l vs.toArray)(b0:kz.length=vs.length)(h64:vs.length<64)
  (turn:∀kS a,VC X ab kS->VC X ab a->∀(i:Nat)(v:Value)(k:Int),vs[i]?=some v->kz[i]?=some k->∀s',VG X ab σ H kS a s' ->
   wpAny (model X.prog X.w) X.A.in1.in1 (call (.ref q) [v]) (λr s''=>∃t,r=.int k t/\VG X ab σ H kS a s''/\(∀o,s'.heap.get? kS=some o->s''.heap.get? kS=some o)/\∀o,s'.heap.get? a=some o->s''.heap.get? a=some o) (λ_ _=>False) s')
  (h:∀ a s' out c,VC X ab a->VH X ab σ H a s'->s'.heap.get? a=some (seqObj "list" out c)->KskOut false kz vs out.toList->Q (.ref a) s') :
  wpAny (model X.prog X.w) X.A (call (.builtin "sorted") [.ref l] [(Str.ofString "key",.ref q)]) Q E s:=by
 refine call_function_entry_kw kind_sorted plain_sorted entry_sorted (ksk_s1 _ _) ?_;unfold Builtin.«sorted»;refine YE (m:=checkCount "sorted" 1 1 _) (YX ?_);refine YE (collect_list hl ?_ (by rw[sizeLine_eq];omega));refine YE (wpAny_newList ?_ (by rw[sizeLine_eq];omega));have hsz:((s.heap.push (seqObj "list" #[] 0)).update s.heap.objs.size (Obj.mapSeq (·++vs.toArray))).objs.size=s.heap.objs.size+1:=by rw[Heap.size_update,size_push']
 have hoL:(((s.heap.push (seqObj "list" #[] 0)).update s.heap.objs.size (Obj.mapSeq (·++vs.toArray))).push (seqObj "list" vs.toArray 0)).get? (s.heap.objs.size+1)=some (seqObj "list" vs.toArray 0):=by rw[<- hsz];exact Y2 _ rfl
 have keep:∀ b o,s.heap.get? b=some o->(((s.heap.push (seqObj "list" #[] 0)).update s.heap.objs.size (Obj.mapSeq (·++vs.toArray))).push (seqObj "list" vs.toArray 0)).get? b=some o:=λb o q=>by have hlt:b<s.heap.objs.size:=YM q;rw[Heap.get?_push_ne _ _ _ (by rw[hsz];exact Zb (Nat.lt_succ_of_lt hlt)),Heap.get?_update_ne _ _ _ _ (Zb hlt),Heap.get?_push_ne _ _ _ (Zb hlt)];exact q
 show wpAny _ _ _ _ _ {s with heap:=((s.heap.push (seqObj "list" #[] 0)).update s.heap.objs.size (Obj.mapSeq (·++vs.toArray))).push (seqObj "list" vs.toArray 0) };rw[hsz];generalize hhp:((s.heap.push (seqObj "list" #[] 0)).update s.heap.objs.size (Obj.mapSeq (·++vs.toArray))).push (seqObj "list" vs.toArray 0)=hp at hoL keep;generalize ha:s.heap.objs.size+1=a at hoL;have sa:s.heap.objs.size<=a:=by omega
 refine YE (ZQ (wpAny_call_entry_kw slot_list_sort ⟨_,hoL,rfl⟩ entry_list_sort ?body (ksk_l1 _ _)))
 case body =>
  show wpAny (model X.prog X.w) X.A.in1.in1 (Builtin.«list.sort» ⟨[.ref a],[(Str.ofString "key",.ref q)]⟩) _ _ _;rw[ksk_t1];have s1:=Heap.SameBut.update hp a (Obj.mapSeq λ_=>(#[]:Array Value));obtain⟨e1,ho1⟩:∃ e1,(hp.update a (Obj.mapSeq λ_=>(#[]:Array Value))).get? a=some (seqObj "list" #[] e1):=⟨_,get?_update_seq hoL λ_=>#[]⟩;have la:a<hp.objs.size:=YM hoL;have hkS:((hp.update a (Obj.mapSeq λ_=>(#[]:Array Value))).push (seqObj "tuple" vs.toArray 0)).objs.size=hp.objs.size+1:=by rw[size_push',Heap.size_update]
  unfold ksk_tree;refine YE (listItems_at hoL rfl ?_);refine YE (listUpdate_at hoL rfl ?_ (by rw[YT,sizeLine_eq];omega) (aae _));refine YE (seqEpoch_at ho1 rfl ?_);refine YE (wpAny_newTuple ?_ (by show vs.length<=_;rw[sizeLine_eq];omega));refine YE (wpAny_newList ?_ (aae _));refine ZQ ?_;have sk:s.heap.objs.size<=((hp.update a (Obj.mapSeq λ_=>(#[]:Array Value))).push (seqObj "tuple" vs.toArray 0)).objs.size:=by rw[hkS]; omega
  have nka:((hp.update a (Obj.mapSeq λ_=>(#[]:Array Value))).push (seqObj "tuple" vs.toArray 0)).objs.size≠a:=by rw[hkS]; omega
  have nk:VC X ab ((hp.update a (Obj.mapSeq λ_=>(#[]:Array Value))).push (seqObj "tuple" vs.toArray 0)).objs.size:=I.newer sk;have na:VC X ab a:=I.newer sa
  refine J7 (s:={s with heap:=((hp.update a (Obj.mapSeq λ_=>(#[]:Array Value))).push (seqObj "tuple" vs.toArray 0)).push (seqObj "list" #[] 0) }) (kS:=((hp.update a (Obj.mapSeq λ_=>(#[]:Array Value))).push (seqObj "tuple" vs.toArray 0)).objs.size) (a:=a) (H:=H)
   ⟨H,I.kept (t':=s.toks) (λb o z=>YG _ (YG _ ((s1.2 b (Zb (so (YM z) sa))).trans (keep b o z)))),λ_ _ z=>z,I.hok.fresh sk,I.hok.fresh sa,⟨_,Y2 _ rfl⟩,⟨_,YG _ (YG _ ho1)⟩⟩ nk na nka
   (Y2 _ rfl) (YG _ (YG _ ho1)) b0 h64 (turn _ a nk na) λs' out c J g k=>⟨_,rfl,?_⟩
  exact YX ⟨_,rfl,h a s' out c na J g k⟩
end
noncomputable def wA:Value->Int
 |.int n _=>n
 |_=>0
theorem xB:∀{us:List Value}{ns:List Int},IntsAre us ns->us.map wA=ns/\∀u∈us,∃t,u=.int (wA u) t
 |_,_,.nil=>⟨rfl,λu h=>by simp at h⟩
 | _,_,.cons n t h=>by
  obtain⟨h1,h2⟩:=xB h;refine⟨by rw[YQ,h1];rfl,λu hu=>?_⟩;rcases YK.mp hu with rfl|hu
  . exact⟨t,rfl⟩
  . exact h2 u hu
theorem J8{us:List Value}{ns:List Int}{g:Int->Int}{out:List Value}(hi:IntsAre us ns)(h:KskOut false (ns.map g) us out):(out.map wA).Perm ns/\(out.map wA).Pairwise (λa b=>g a<=g b)/\cC ((out.map wA).map V.int) out:=by
 obtain⟨e1,e2⟩:=xB hi;obtain⟨ps,hp,rfl,hs⟩:=h
 have hz:∀p∈(ns.map g).zip us,p.1=g (wA p.2)/\p.2∈us:=λp hp=>by
  obtain⟨j,hj,rfl⟩:=ZM hp;rw[ZJ];rw[Zh]at hj;refine⟨?_,YB _⟩;simp only[Z8]
  congr 1
  have:(us.map wA)[j]?=ns[j]?:=by rw[e1]
  rw[YS,gV xL,gV (by simpa using(show j<(ns.map g).length by omega))]at this;simpa using this.symm
 have hz':∀p∈ps,p.1=g (wA p.2)/\p.2∈us:=λp h=>hz p (hp.mem_iff.mp h);have hm:(ps.map Prod.snd).map wA=ps.map λp=>wA p.2:=by rw[Y3];rfl
 refine⟨?_,?_,?_⟩
 .
  rw[hm];refine(hp.map _).trans ?_;have:((ns.map g).zip us).map (λp=>wA p.2)=ns:=by rw[show(λp:Int×Value=>wA p.2)=wA ∘ Prod.snd from rfl,<- Y3,List.map_snd_zip,e1];have:=hi.length;rw[YD];omega
  rw[this]
 . rw[hm,List.pairwise_map];refine List.Pairwise.imp_of_mem (λ{a b} ha hb q=>?_) hs;rw[<- (hz' a ha).1,<- (hz' b hb).1];simpa using q
 .
  have all:∀l:List Value,(∀u∈l,∃t,u=.int (wA u) t)->cC ((l.map wA).map V.int) l:=by
   intro l
   induction l with
   |nil=>exact λ_=>.nil
   |cons u l ih=>exact λh=>.cons (h u k5) (ih λv hv=>h v (fI _ hv))
  refine all _ λu hu=>?_;obtain⟨p,hpm,rfl⟩:=YU.mp hu;exact e2 _ (hz' p hpm).2
def LX(fs:FS)(i:Nat)(t:W L):W L:=λZ k4=>t Z λr Z1=>U2 r λd=>∃(ns:List Int)(g:Int->Int),d=.lst (ns.map .int)/\ns.length<64/\RH i Z1 λv=>(∀n∈ns,fs [.d (.int n),.d v] λr _=>Re r λz=>z=.int (g n)) /\
 ∀(a:Addr)(out:List Int),out.Perm ns->out.Pairwise (λa b=>g a<=g b)->k4 (.own a (out.map .int)) Z1
section
variable{X:Cx}{k k':Nat}{x y:Str}{p cpos pos kpos:Pos}{e:Expr}{t:W L}{fs:FS}{pr:Arguments}{bd:Expr}{sc:Scope}
theorem J9(LO:NI X.prog X.w X.K X.mg X.base k x fs)(hr:m6 k' X.A)(i:Nat)(LI:Ql X x y i pr bd sc pos)(ha:PL X e t) (hm:X.mg "sorted"=none) (hk:k+2<=k':=by decide) (hg:Gl X "sorted":=by rfl)
  (he:starEach [e] X.env=(false,eval e X.env)::starEach [] X.env:=by rfl) :
  PL X (.Call (.Name "sorted" p) [e] [⟨some "key",.Lambda pr bd sc pos,kpos⟩] cpos) (LX fs i t):=by
 intro ab s σ H Pr Z k4 I E0 h;obtain⟨c0,P,tab,code⟩:=LI.tab;refine aaI (oB I hg hm (u:=.builtin "sorted") y_ ?_);refine callWith_kw (e:=e) (rest:=[]) (kws:=[⟨some "key",.Lambda pr bd sc pos,kpos⟩]) ?_ (by rw[he]; rfl) (by rw[he]; rfl) rfl rfl;rw[he];show wpAny _ _ (spliced ((false,eval e X.env)::backTo cpos (starEach [] X.env))) _ _ s;refine Calls.spliced_cons (Ul (ha ab s σ H Pr Z _ I E0 h) λu1 s1 hq=>?_);obtain⟨v1,H1,d,Z1,I1,rv1,E1,ns,g,rfl,h64,q1⟩:=EL.frz hq;refine Calls.spliced_nil ?_;obtain⟨dv,qi,hkey,q1⟩:=NK q1
 show wpAny _ _ (evalAll [(do let v <- eval (.Lambda pr bd sc pos) X.env;standAt cpos;pure v)]) _ _ s1
 obtain⟨c,hcl⟩:=I1.ok.has y (.inl LI.cel);have fr:∀z,(z,NameKind.free)∈sc.names->z=y:=λz hz=>by have:(z,NameKind.free)∈sc.names.filter λp=>p.2 == .free:=Zv.mpr ⟨hz,rfl⟩;rw[LI.fre]at this;simpa using this
 have hm':(y,NameKind.free)∈sc.names:=by
  have:(y,NameKind.free)∈sc.names.filter λp=>p.2 == .free:=by rw[LI.fre];simp
  exact(Zv.mp this).1
 have hclo:closureFor sc X.env=pure [(y,c)]:=by
  rw[oI λz hz hf=>by
   obtain⟨z1,z2⟩:=z;cases hf
   rw[fr z1 hz];exact⟨c,hcl⟩,C9 hcl _ _ LI.fre]
 refine wpAny_evalAll_cons (YE (J6 I1 LI.mem tab code LI.qual hclo LI.deft λfa c' oq H2 s2 ctv pm I2 ext gf nf zf zq co=>YE (aaY (YX ?_))));refine wpAny_evalAll_nil ?_;show wpAny (model X.prog X.w) X.A (call (.builtin "sorted") [u1] [(Str.ofString "key",.ref fa)]) _ _ s2;have nfa:VC X ab fa:=I1.newer zf;generalize hfo:kla_obj "<lambda>" (wb x) pr bd sc [(y,c)] pm c' ctv=fo at gf;have I3:Uh X ab σ (TY H2 fa (.frz fo (.own fa))) s2:=I2.track nf nfa.s0 nfa.loc nfa.cel nfa.pin ⟨gf,_,gf⟩;have up3:∀b o,H2 b=some o->TY H2 fa (.frz fo (.own fa)) b=some o:=λb o z=>by rw[aH (bJ z nf)];exact z
 have E3:=(E1.exten ext).exten up3;obtain⟨_,e5,ra⟩:=E3.head_d;cases e5;have E4:=E3.tail;obtain⟨sv,hsl,v',rfl,rd⟩:=E4.slot qi;obtain⟨_,_,rfl,hz,rs⟩:=UW.inv_lst ra;have evs:=hJ rs;subst evs;cases rv1;obtain⟨its,r',pl,hzz⟩:=I3.list hz.l;have hi:=sG r';have b0:=hi.length;refine Eu (kz:=ns.map g) I3 pl.isList (by rw[YD];exact b0.symm) xL (λkS a nk na j v kv hv hkv s' J=>?_) λa s' out cc na J ga ko=>?_
 .
  obtain⟨H',I',up,n1,n2,⟨ok1,gk1⟩,⟨ok2,gk2⟩⟩:=J;have hj:j<ns.length:=by have:=(YA.mp hkv).1;simpa using this
  have ekv:kv=g ns[j]:=by rw[YS,gV hj]at hkv;exact(Y5 hkv).symm
  obtain⟨en,ev⟩:=xB hi;obtain⟨tv,hv2⟩:=ev v (List.mem_of_getElem? hv)
  have ejn:wA v=ns[j]:=by
   have:(its.map wA)[j]?=ns[j]?:=by rw[en]
   rw[YS,hv,gV hj]at this;simpa using this
  obtain⟨m,_,hloc⟩:=I'.loc;obtain⟨u',rv',lk⟩:=hloc i y v' LI.at_i hsl (.inr (.inl LI.cel))
  obtain⟨oc,gc,dc⟩:s'.heap.IsCell c (some u'):=by
   rcases lk with⟨z,_⟩|⟨_,c2,e2,z⟩
   . rw[show X.env.kindOf y=some .cell from LI.cel]at z;cases z
   . rw[hcl]at e2;cases e2;exact z
  have nc:H' c=none:=(I'.freeC y c hcl).resolve_right λz=>by rw[LI.fn]at z;exact absurd z.1 xp
  have la:Qj X.K H' s'.heap fa x dv:=by refine⟨c,c',oc,oq,y,pr,bd,sc,pos,pm,ctv,u',v',LI.lam,?_,(I'.hok c' _ (up _ _ (up3 _ _ zq))).1,co,gc,.inl nc,dc,rv',hm',rd.pres λb o _ z=>up b o z⟩;rw[hfo];exact(I'.hok fa _ (up _ _ bF)).1
  have rr:m6 k X.A.in1.in1:=m6.in1 (m6.in1 (hr.mono (j:=k+2) hk));have hfs:=hkey ns[j] (YB hj);refine wpAny_call (codeAny_mono (LO.run X.A.in1.in1 X.stack s' H' fa v (.int ns[j]) (.int ns[j]) dv (λz=>z=.int (g ns[j])) rr I'.env0.in1.in1 ⟨tv,by rw[hv2,ejn]⟩ (.int _) la hfs) λres s'' hres=>?_)
  cases res with
  |error ee=>exact(show False from hres).elim
  | ok fl =>
   cases fl with
   | ret u2 =>
    obtain⟨v3,H3,os,bare,un,hok,rv3,ext3,z,rz,pz⟩:=hres;subst pz;obtain rfl:=UW.inv_int rz;obtain⟨t3,rfl⟩:=rv3;have I4:Uh X ab σ H3 s'':=I'.call' (ch:=[]) os un hok bare (λb z=>absurd z x_);have kk1:∀o,s'.heap.get? kS=some o->s''.heap.get? kS=some o:=λo z=>un.keep kS o z n1 (nk.nofs I') x_;have kk2:∀o,s'.heap.get? a=some o->s''.heap.get? a=some o:=λo z=>un.keep a o z n2 (na.nofs I') x_;exact⟨t3,by rw[ekv],⟨H3,I4,λb o z=>ext3 b o (up b o z),un.free kS ok1 gk1 n1 x_,un.free a ok2 gk2 n2 x_,⟨ok1,kk1 _ gk1⟩,⟨ok2,kk2 _ gk2⟩⟩,kk1,kk2⟩
   |next=>exact False.elim hres
   |brk=>exact False.elim hres
   |cont=>exact False.elim hres
 .
  obtain⟨H',I',up,n2⟩:=J;obtain⟨op,os,ov⟩:=J8 hi ko;have lo:(out.toList.map wA).length=ns.length:=op.length_eq;have I5:Uh X ab σ (TY H' a (.lst ((out.toList.map wA).map V.int))) s':=by refine I'.track n2 na.s0 na.loc na.cel na.pin ⟨?_,out.toList,cc,ov,by simpa using ga⟩;rw[YD,lo];exact YH (ZX h64) xp
  exact⟨.ref a,_,.own a ((out.toList.map wA).map .int),Z1,I5,rfl,(E4.exten up).cons_own n2 (oJ _),q1 a _ op os⟩
end
theorem Qo{P:Program}{w:World}{K:Frag}{mg:Str->Option Value}{base:Heap}{x qual:Str}{st:Stmt}{f:Addr}{fd:FuncData}{N ps:List Str}{k:Nat}{fs:FS}(F:UU K x qual st f fd)(S:aB N ps (ar st))(t:W Fl)
  (hbody:∀(cdv:Value)(A:Around)(outer:List Env)(s:Shared)(H:Hp)(E:XK),fd.code=cdv->m6 k (A.deeper (envOfC qual (ar st) s.heap.objs.size f cdv))->U1 (LF CX0 P w K mg base N qual (ar st) f cdv A outer s H E).nox (fT st) t)
  (h:∀ls k4,ls.length=ps.length->fs ls k4->t (ls++List.replicate (N.length-ps.length) .un) (aP ls k4)):FnOk P w K mg base CX0 (k+1) f fd ps (spF K ps.length fs):=by
 obtain⟨oc,od,kV,doc,pm,an,cdv,ct,osl,rfl,lk,hcd⟩:=F.ex;refine Ph lk hcd S (λvs H Q E q=>q.1) λA outer s H vs Q E hr q=>?_;obtain⟨hl,Pr,ls,k4,E0,hf,q⟩:=q;refine⟨_,(hbody cdv A outer s H E rfl hr).pss.nox,bK H ls,ls++List.replicate (N.length-ps.length) .un,aP ls k4,?_,h ls k4 (by rw[<- hl];have:=E0.len;simpa using this.symm) hf,λσ' H' Z' E' p=>?_,λ_ _ _ _ p=>p.elim,λ_ _ _ _ p=>p.elim,λv τ H' r Z' E' p=>?_⟩
 . unfold vw;rw[hl];exact E0.wide.uns _
 . obtain⟨ls',B,p⟩:=p;exact q .non H' (.d .non) ls' (sF E0 (E'.cons_d .non) B) p
 . obtain⟨ls',B,p⟩:=p;exact q v H' r ls' (sF E0 E' B) p
end L2
namespace L2
open PySem PySem.W
section
variable{X:Cx}{es:List Expr}{pos:Pos}
def NL(i:Nat)(t:W (List L)):W L:=λZ k4=>t Z λls Z1=>ls.length<=sizeLine/\ls[0]?=some .un/\OV Z1[i]? i Z1 λl Z2=>(∃a ys,l=.own a ys)/\k4 (.bx none (l::ls.tail)) Z2
theorem NM {x1} (i:Nat) {bs:List (Option Nat)} {t:W (List L)} (h:UY X es (some i::bs) t):PL X (.Tuple es x1 pos) (NL i t):=by
 intro ab s σ H Pr Z k4 I E hq;refine wpAny_Tuple_spliced (Ul (h pos ab s σ H Pr Z _ I E hq) λus s1 ⟨vs,H1,ls,Z1,I1,r,hl,hb,E1,hv,z,z0,q⟩=>?_);refine⟨by rw[<- r.length,hl];exact z,?_⟩
 cases qi:Z1[i]? with
 |none=>rw[qi]at q;exact q.elim
 |some l =>
 rw[qi]at q
 cases l with
 |un=>exact q.elim
 |dic _ _=>exact q.elim
 |d y=>obtain⟨⟨_,_,z⟩,_⟩:=q;cases z
 |bx _ _=>obtain⟨⟨_,_,z⟩,_⟩:=q;cases z
 |own a ys =>
 obtain⟨_,q⟩:=q;obtain⟨_,v,hv1,hv2⟩:=hv 0 i rfl
 cases ls with
 |nil=>cases z0
 |cons l ls =>
 cases vs with
 |nil=>simp at hl
 |cons w vs =>
 have hl':vs.length=ls.length:=by simpa using hl
 have E2:aI X.K Pr H1 (vs.map some++σ) (ls++Z1):=aI.tail (v:=some w) (l:=l) E1;have qi2:(ls++Z1)[ls.length+i]?=some (.own a ys):=by rw[Y6 (aar _ _),Zf];exact qi
 have wv:w=v:=by simpa using hv1
 subst wv;have hs2:(vs.map some++σ)[ls.length+i]?=some (some w):=by rw[Y6 (by rw[YD,hl'];exact aar _ _),YD,hl',Zf];exact hv2
 have E3:=E2.outL qi2 hs2;rw[aaO _ _ (aar _ _),Zf]at E3;have hf:H1 s1.heap.objs.size=none:=I1.hok.fresh (YN _);have E4:aI X.K Pr (TY H1 s1.heap.objs.size (.tup (w::vs))) ((w::vs).map some++σ) ((.own a ys::ls)++Z1.set i .un):=aI.new E3 hf;have hl2:(w::vs).length=(L.own a ys::ls).length:=by simpa using hl'
 refine⟨.ref s1.heap.objs.size,TY H1 s1.heap.objs.size (.tup (w::vs)),_,Z1.set i .un,I1.laid (t':=s1.toks) (λb u e=>YG _ e) (YN _) ?_,rfl,E4.closeT hl2 (Uq.of bF),q⟩;exact⟨by rw[hl];exact z,us,r,⟨_,Y2 _ rfl,rfl,_,rfl⟩⟩
end
end L2
namespace L2
open PySem PySem.Spec PyProof.Rows PySem.SeqAt
structure Sz (d:D):Prop where
 ok:VF d=true
 sh:hU d=true
 dp:(Ve d).depth<=40
 sg:Et d<=16777216
theorem Sz.len{d:D}(h:Sz d):(Ve d).shown.length<=sizeLine:=by
 have e:sizeLine=16777216:=by decide
 rw[e];exact YH (GC d (tY d h.ok h.sh)) h.sg
end L2
namespace L2
open PySem PySem.Spec PyProof.Rows
def VI(o q:Option L)(i j:Nat)(t:W L)(Z:Ev)(k4:L->Ev->Prop):Prop:=match o,q with
 |some (.own _ xs),some (.own b _)=>i≠j/\eW i Z=true/\t (Z.set i (.d (.lst xs))) λr Z'=>mw r=true/\∃zs,xv zs=true/\Z'=(Z.set i (.d (.lst xs))).set j (.own b zs)/\k4 r (Z.set j (.own b zs))
 |_,_=>False
theorem NN(a b:Addr)(xs ys:List D)(i j:Nat)(t:W L)(Z:Ev)(k4:L->Ev->Prop):VI (some (.own a xs)) (some (.own b ys)) i j t Z k4=(i≠j/\eW i Z=true/\t (Z.set i (.d (.lst xs))) λr Z'=>mw r=true/\∃zs,xv zs=true/\Z'=(Z.set i (.d (.lst xs))).set j (.own b zs)/\k4 r (Z.set j (.own b zs))):=rfl
def Tt(o:Option L)(Z:Ev)(k4:Bool->Ev->Prop):Prop:=match o with
 |some (.d (.lst xs))=>k4 (!xs.isEmpty) Z
 |_=>False
theorem Ka(xs:List D)(Z:Ev)(k4:Bool->Ev->Prop):Tt (some (.d (.lst xs))) Z k4=k4 (!xs.isEmpty) Z:=rfl
end L2
namespace HT
open PySem PySem.Spec PyProof.Rows
end HT
namespace L2
open PySem PySem.Spec PyProof.Rows
end L2
namespace L2
open PySem PySem.Spec PyProof.Rows PySem.W
end L2
namespace L2
open PySem PySem.Spec PyProof.Rows PySem.SeqAt
end L2
namespace PySem
open PySem.Spec
namespace F
end F
end PySem
namespace L2
open PySem PySem.Spec PyProof.Rows PySem.W
section
variable{key:Nat->Int}{n:Nat}{I:Shared->Prop}{cmp:Nat->Nat->(Bool->Shared->Prop)->Shared->Prop}
def Kb(I:Shared->Prop)(cmp:Nat->Nat->(Bool->Shared->Prop)->Shared->Prop){α:Type}(t:KasT α)(P:α->Prop):Prop:=∀(Q:α->Shared->Prop)(s:Shared),I s->(∀a s',I s'->P a->Q a s')->t.kasWp cmp Q s
def SA(key:Nat->Int)(n:Nat)(I:Shared->Prop)(cmp:Nat->Nat->(Bool->Shared->Prop)->Shared->Prop):Prop:=∀(i j:Nat)(C:Bool->Shared->Prop)(s:Shared),i<n->j<n->i≠j->I s->(∀s',I s'->C (decide (key i<key j)) s')->cmp i j C s
noncomputable def kk(key:Nat->Int)(p:Array Nat)(i:Nat):Int:=key (p.getD i 0)
structure GD (n:Nat) (p:Array Nat):Prop where
 sz:p.size=n
 pm:p.toList.Perm (List.range n)
theorem GD.lt{p:Array Nat}(g:GD n p){i:Nat}(h:i<n):p.getD i 0<n:=by
 have hs:i<p.size:=by rw[g.sz];exact h
 have e:p.getD i 0=p[i]:=by simp[Array.getD,hs]
 rw[e];exact YO.mp (g.pm.mem_iff.mp (by rw[<- Array.getElem_toList];exact YB _))
theorem GD.ne{p:Array Nat}(g:GD n p){i j:Nat}(hi:i<n)(hj:j<n)(h:i≠j):p.getD i 0≠p.getD j 0:=by
 have hs:i<p.size:=by rw[g.sz];exact hi
 have ht:j<p.size:=by rw[g.sz];exact hj
 have nd:p.toList.Nodup:=g.pm.nodup_iff.mpr List.nodup_range;have e1:p.getD i 0=p.toList[i]'(by simpa using hs):=by simp[Array.getD,hs]
 have e2:p.getD j 0=p.toList[j]'(by simpa using ht):=by simp[Array.getD,ht]
 rw[e1,e2];intro z;exact h ((List.getElem_inj nd).mp z)
theorem Kb.ask{α:Type}{i j:Nat}{k:Bool->KasT α}{P:α->Prop}(hc:SA key n I cmp)(hi:i<n)(hj:j<n)(hn:i≠j)(h1:key i<key j->Kb I cmp (k true) P)(h2:¬key i<key j->Kb I cmp (k false) P):Kb I cmp (.ask i j k) P:=λQ s hI hq=>by
 refine hc i j _ s hi hj hn hI λs' hI'=>?_;by_cases c:key i<key j
 . rw[Zg c];exact h1 c Q s' hI' hq
 . rw[YZ c];exact h2 c Q s' hI' hq
theorem Kb.at{α:Type}{p:Array Nat}{i j:Nat}{k:Bool->KasT α}{P:α->Prop}(hc:SA key n I cmp)(hq:∀a b,a<n->b<n->key a=key b->a=b)(g:GD n p)(hi:i<n)(hj:j<n)(hn:i≠j)(h1:kk key p i<kk key p j->Kb I cmp (k true) P)(h2:kk key p j<kk key p i->Kb I cmp (k false) P):Kb I cmp (.ask (p.getD i 0) (p.getD j 0) k) P:=by refine Kb.ask hc (g.lt hi) (g.lt hj) (g.ne hi hj hn) h1 λc=>h2 ?_;have:kk key p i≠kk key p j:=λz=>g.ne hi hj hn (hq _ _ (g.lt hi) (g.lt hj) z);unfold kk at this ⊢;omega
end
theorem bX.at{K:Frag}{H:Hp}{vs:List V}{ds:List D}(r:bX K H vs ds){i:Nat}(h1:i<vs.length)(h2:i<ds.length):UW K H vs[i] ds[i]:=by obtain⟨v,e1,e2⟩:=r.get (gV h2);rw[gV h1]at e1;cases e1;exact e2
end L2
namespace L2
open PySem
theorem fB{g:Tg}{b:W Fl}{k4:Fl->Ev->Prop}:∀(xs:List D)(I:Nat->Ev->Prop)(Z:Ev),I 0 Z ->
  (∀j x Z,xs[j]?=some x->I j Z->∀Q:Fl->Ev->Prop,(∀Z',I (j+1) Z'->Q .nx Z')->(∀Z',I (j+1) Z'->Q .ct Z')->(∀Z',k4 .nx Z'->Q .bk Z')->(∀r Z',k4 (.rt r) Z'->Q (.rt r) Z')->g x Z λZ1=>b Z1 Q) ->
  (∀Z,I xs.length Z->k4 .nx Z)->ck g b xs Z k4
 |[],I,Z,h0,_,Uo=>Uo Z h0
 | x::xs,I,Z,h0,step,Uo=>by
  unfold ck;refine step 0 x Z rfl h0 _ (λZ' h=>?_) (λZ' h=>?_) (λZ' h=>h) (λr Z' h=>h)
  . exact fB xs (λj=>I (j+1)) Z' h (λj y Z e hi=>step (j+1) y Z e hi) Uo
  . exact fB xs (λj=>I (j+1)) Z' h (λj y Z e hi=>step (j+1) y Z e hi) Uo
theorem cF{α:Type}{enc:α->D}{g:Tg}{b:W Fl}{k4:Fl->Ev->Prop}(as:List α)(I:List α->Ev->Prop)(Z:Ev)(h0:I [] Z)
  (step:∀pre a suf Z,as=pre++a::suf->I pre Z->∀Q:Fl->Ev->Prop,(∀Z',I (pre++[a]) Z'->Q .nx Z')->(∀Z',I (pre++[a]) Z'->Q .ct Z')->(∀Z',k4 .nx Z'->Q .bk Z')->(∀r Z',k4 (.rt r) Z'->Q (.rt r) Z')->g (enc a) Z λZ1=>b Z1 Q)
  (Uo:∀Z,I as Z->k4 .nx Z):ck g b (as.map enc) Z k4:=by
 refine fB _ (λj Z=>I (as.take j) Z) Z h0 (λj x Z e hi Q h1 h2 h3 h4=>?_) λZ h=>Uo Z (by simpa using h);rw[YS]at e
 cases ea:as[j]? with
 |none=>rw[ea]at e;cases e
 | some a =>
  rw[ea]at e;cases e;obtain⟨hj,ea'⟩:=YA.mp ea;have es:as.take (j+1)=as.take j++[a]:=by rw[List.take_succ,ea];rfl
  have ed:as=as.take j++a::as.drop (j+1):=by have:=(List.take_append_drop j as).symm;rw[Zw hj,ea']at this;exact this
  rw[es]at h1 h2;exact step _ a _ Z ed hi Q h1 h2 h3 h4
theorem xC{g:Tg}{ti:W Bool}{te:W L}{k:List D->Ev->Prop}:∀(xs:List D)(I:Nat->Ev->List D->Prop)(Z:Ev)(acc:List D),I 0 Z acc ->
  (∀j x Z acc,xs[j]?=some x->I j Z acc->∀Q:Ev->List D->Prop,(∀Z' acc',I (j+1) Z' acc'->Q Z' acc')->g x Z λZ1=>ti Z1 λb Z2=>if b=true then te Z2 λr Z3=>U2 r λy=>Q Z3 (acc++[y])else Q Z2 acc) ->
  (∀Z acc,I xs.length Z acc->k acc Z)->eV g ti te xs Z acc k
 |[],I,Z,acc,h0,_,Uo=>Uo Z acc h0
 | x::xs,I,Z,acc,h0,step,Uo=>by unfold eV;exact step 0 x Z acc rfl h0 (λZ acc=>eV g ti te xs Z acc k) λZ' acc' h=>xC xs (λj=>I (j+1)) Z' acc' h (λj y Z acc e hi=>step (j+1) y Z acc e hi) Uo
theorem iW{α:Type}{enc:α->D}{h:α->Option D}{caps:Ev}{ti:W Bool}{te:W L}{k:List D->Ev->Prop}:∀(as:List α)(acc:List D)(l:L),
  (∀a∈as,∀Q:Ev->Option D->Prop,Q (.d (enc a)::caps) (h a)->ti (.d (enc a)::caps) λb Z2=>if b=true then te Z2 λr Z3=>U2 r λy=>Q Z3 (some y)else Q Z2 none) ->
  (∀l',k (acc++as.filterMap h) (l'::caps))->eV (a9 0) ti te (as.map enc) (l::caps) acc k
 |[],acc,l,_,Uo=>by have:=Uo l;simpa[eV]using this
 | a::as,acc,l,step,Uo=>by
  show eV (a9 0) ti te (enc a::as.map enc) (l::caps) acc k;unfold eV;show ti (.d (enc a)::caps) _
  refine step a k5 (λZ o=>match o with|some y=>eV (a9 0) ti te (as.map enc) Z (acc++[y]) k|none=>eV (a9 0) ti te (as.map enc) Z acc k) ?_
  cases e:h a with
  |none=>exact iW as acc _ (λb hb=>step b (fI _ hb)) (by simpa[ZF,e]using Uo)
  |some y=>exact iW as (acc++[y]) _ (λb hb=>step b (fI _ hb)) (by simpa[ZF,e]using Uo)
theorem fC{α:Type}{enc:α->D}{h:α->D}{caps:Ev}{te:W L}{k:List D->Ev->Prop}(as:List α)(acc:List D)(l:L)
  (step:∀a∈as,∀Q:Ev->D->Prop,Q (.d (enc a)::caps) (h a)->te (.d (enc a)::caps) λr Z3=>U2 r λy=>Q Z3 y)
  (Uo:∀l',k (acc++as.map h) (l'::caps)):eV (a9 0) iw te (as.map enc) (l::caps) acc k:=by
 refine iW (h:=λa=>some (h a)) as acc l (λa ha Q q=>?_) (by simpa using Uo);simp only[iw,aad];exact step a ha (λZ y=>Q Z (some y)) q
theorem qa{α:Type}{e1 e2:α->D}{h:α->Option D}{caps:Ev}{ti:W Bool}{te:W L}{k:List D->Ev->Prop}:∀(as:List α)(acc:List D)(l m:L),
  (∀a∈as,∀Q:Ev->Option D->Prop,Q (.d (e1 a)::.d (e2 a)::caps) (h a)->ti (.d (e1 a)::.d (e2 a)::caps) λb Z2=>if b=true then te Z2 λr Z3=>U2 r λy=>Q Z3 (some y)else Q Z2 none) ->
  (∀l' m',k (acc++as.filterMap h) (l'::m'::caps))->eV (dH [0,1]) ti te (as.map λa=>D.tup [e1 a,e2 a]) (l::m::caps) acc k
 |[],acc,l,m,_,Uo=>by have:=Uo l m;simpa[eV]using this
 | a::as,acc,l,m,step,Uo=>by
  show eV (dH [0,1]) ti te (D.tup [e1 a,e2 a]::as.map λa=>D.tup [e1 a,e2 a]) (l::m::caps) acc k;unfold eV;show ti (.d (e1 a)::.d (e2 a)::caps) _
  refine step a k5 (λZ o=>match o with|some y=>eV (dH [0,1]) ti te (as.map λa=>D.tup [e1 a,e2 a]) Z (acc++[y]) k|none=>eV (dH [0,1]) ti te (as.map λa=>D.tup [e1 a,e2 a]) Z acc k) ?_
  cases e:h a with
  |none=>exact qa as acc _ _ (λb hb=>step b (fI _ hb)) (by simpa[ZF,e]using Uo)
  |some y=>exact qa as (acc++[y]) _ _ (λb hb=>step b (fI _ hb)) (by simpa[ZF,e]using Uo)
theorem oM{α:Type}{e1 e2:α->D}{h:α->D}{caps:Ev}{te:W L}{k:List D->Ev->Prop}(as:List α)(acc:List D)(l m:L)
  (step:∀a∈as,∀Q:Ev->D->Prop,Q (.d (e1 a)::.d (e2 a)::caps) (h a)->te (.d (e1 a)::.d (e2 a)::caps) λr Z3=>U2 r λy=>Q Z3 y)
  (Uo:∀l' m',k (acc++as.map h) (l'::m'::caps)):eV (dH [0,1]) iw te (as.map λa=>D.tup [e1 a,e2 a]) (l::m::caps) acc k:=by
 refine qa (h:=λa=>some (h a)) as acc l m (λa ha Q q=>?_) (by simpa using Uo);simp only[iw,aad];exact step a ha (λZ y=>Q Z (some y)) q
theorem zK{α:Type}{x:α}{xs:List α}:UJ (x::xs) 0=some x:=jb (j:=0) rfl
theorem zL{α:Type}{x y:α}{xs:List α}:UJ (x::y::xs) 1=some y:=jb (j:=1) rfl
theorem Kc{α:Type}{x y z:α}{xs:List α}:UJ (x::y::z::xs) 2=some z:=jb (j:=2) rfl
theorem Qp{α:Type}{x y z w:α}{xs:List α}:UJ (x::y::z::w::xs) 3=some w:=jb (j:=3) rfl
theorem RJ{α:Type}{x y z w v:α}{xs:List α}:UJ (x::y::z::w::v::xs) 4=some v:=jb (j:=4) rfl
theorem LY{α:Type}{xs:List α}{i:Int}{x:α}(h0:0<=i)(h:xs[i.toNat]?=some x):UJ xs i=some x:=by have:=jb h;rwa [Int.toNat_of_nonneg h0]at this
theorem bt{α:Type}{f:α->D}{xs:List α}{k:Nat}(h:k<xs.length):UJ (xs.map f) (k:Int)=some (f xs[k]):=jb (by rw[YS,gV h];rfl)
theorem Tu:UI 3 0=some 0:=by decide
theorem Tv:UI 3 1=some 1:=by decide
theorem Tz:UI 3 2=some 2:=by decide
theorem jk(n:Nat):wo 0 n=(List.range n).map λ(i:Nat)=>D.int (i:Int):=by unfold wo;simp
theorem Da{g:Tg}{b:W Fl}{k4:Fl->Ev->Prop}(lo:Int)(n:Nat)(I:Nat->Ev->Prop)(Z:Ev)(h0:I 0 Z)
  (step:∀j Z,j<n->I j Z->∀Q:Fl->Ev->Prop,(∀Z',I (j+1) Z'->Q .nx Z')->(∀Z',I (j+1) Z'->Q .ct Z')->(∀Z',k4 .nx Z'->Q .bk Z')->(∀r Z',k4 (.rt r) Z'->Q (.rt r) Z')->g (.int (lo+(j:Int))) Z λZ1=>b Z1 Q)
  (Uo:∀Z,I n Z->k4 .nx Z):ck g b (wo lo n) Z k4:=by
 have hl:(wo lo n).length=n:=by simp[wo]
 refine fB _ I Z h0 (λj x Z hj hi Q h1 h2 h3 h4=>?_) λZ h=>Uo Z (by rwa [hl]at h);have hj':j<n:=by rw[<- hl];exact(YA.mp hj).1
 have e:x=.int (lo+(j:Int)):=by unfold wo at hj;rw[YS,ZE hj']at hj;exact(Y5 hj).symm
 subst e;exact step j Z hj' hi Q h1 h2 h3 h4
theorem GE{g:Tg}{b:W Fl}{k4:Fl->Ev->Prop}(n:Nat)(I:Nat->Ev->Prop)(Z:Ev)(h0:I 0 Z)
  (step:∀j Z,j<n->I j Z->∀Q:Fl->Ev->Prop,(∀Z',I (j+1) Z'->Q .nx Z')->(∀Z',I (j+1) Z'->Q .ct Z')->(∀Z',k4 .nx Z'->Q .bk Z')->(∀r Z',k4 (.rt r) Z'->Q (.rt r) Z')->g (.int (j:Int)) Z λZ1=>b Z1 Q)
  (Uo:∀Z,I n Z->k4 .nx Z):ck g b (wo 0 n) Z k4 :=
 Da 0 n I Z h0 (λj Z hj hi Q h1 h2 h3 h4=>by rw[Int.zero_add];exact step j Z hj hi Q h1 h2 h3 h4) Uo
theorem bE{i:Int}(h:i.natAbs<2^200):bB i:=so h (YF xp xp)
theorem bG{i:Int}{n:Nat}(h:i.natAbs<2^n)(hn:n<=1000000):bB i:=so h (YF xp hn)
theorem jm(x:Int){m:Int}(h:0<m):0<=x.fmod m/\x.fmod m<m:=by rw[Y7 _ xL];exact⟨aaQ _ xL,aaK _ h⟩
theorem Bu{i:Int}{n:Nat}(h0:0<=i)(h:i<2^n)(hn:n<=1000000):bB i:=by
 have:i.natAbs<2^n:=by
  have e:((2^n:Nat):Int)=(2:Int)^n:=by simp
  omega
 exact so this (YF xp hn)
theorem RK:(10:Int)^60<2^200:=by decide
theorem zM{i:Int}(h0:0<=i)(h:i<=10^60):i.natAbs<2^9000:=by
 have:i.natAbs<2^200:=by
  have:=RK;have e:((2^200:Nat):Int)=(2:Int)^200:=by decide
  omega
 exact so this (YF xp xp)
theorem RB.sub{m n:Nat}{p q:Rat}(hp:RB m p)(hq:RB n q):RB (m+n+1) (p-q):=by rw[ZY];exact hp.add hq.neg
theorem LZ(p q:Rat):Rat.divInt (p.num*q.num) ((p.den:Int)*(q.den:Int))=p*q:=by rw[<- ZV,Zk,Zk]
theorem RB.of_divInt{t b:Int}{n:Nat}(h:b≠0)(ht:t.natAbs<2^n)(hb:b.natAbs<2^n):RB n (Rat.divInt t b):=⟨YL (LQ h) ht,YL (C1 h) hb⟩
theorem qc(p q:Rat):((p.den:Int)*(q.den:Int))≠0:=by have dp:=den_pos p;have dq:=den_pos q;exact ZN xL xL
theorem lU(p q:Rat):((p.den:Int)*(q.den:Int)).natAbs=p.den*q.den:=by rw[Zn,YI,YI]
theorem RB.mul{m n:Nat}{p q:Rat}(hp:RB m p)(hq:RB n q):RB (m+n) (p*q):=by rw[<- LZ];exact RB.of_divInt (qc p q) (by rw[Zn];exact aZ hp.1 hq.1) (by rw[lU];exact aZ hp.2 hq.2)
theorem wB{q:Rat}(h:q≠0):q.num≠0:=λz=>h (Rat.num_eq_zero.mp z)
theorem iy(q:Rat):(q.den:Int)≠0:=by have:=den_pos q;omega
theorem zN(p:Rat){q:Rat}(h:q≠0):Rat.divInt (p.num*(q.den:Int)) ((p.den:Int)*q.num)=p / q:=by
 rw[aav,<- ZV,Zk]
 congr 1
 conv=>rhs;rw[<- Zk q,Rat.inv_divInt]
theorem RB.div{m n:Nat}{p q:Rat}(hp:RB m p)(hq:RB n q)(h:q≠0):RB (m+n) (p / q):=by
 rw[<- zN p h];refine RB.of_divInt (ZN (iy p) (wB h)) ?_ ?_
 . rw[Zn];exact aZ hp.1 (by simpa using hq.2)
 . rw[Zn];exact aZ (by simpa using hp.2) hq.1
theorem RB.zero:RB 1 0:=⟨xp,xp⟩
theorem Qq(p q:Rat):decide (p.num*(q.den:Int)<q.num*(p.den:Int))=decide (p<q):=by rw[aas,Rat.lt_iff]
structure VJ where
 nm:Str
 one:Nat
 other:Nat
 size:Rat
structure aF where
 rooms:List Rat
 asks:List VJ
noncomputable def aF.n(R:aF):Nat:=R.rooms.length
noncomputable def j3(a:VJ):D:=.tup [.str a.nm,.int a.one,.int a.other,Vp a.size]
noncomputable def aO(R:aF):D:=.tup [.lst (R.rooms.map Vp),.lst (R.asks.map j3)]
theorem GF(q:Rat):(q.num:Rat)=q*(q.den:Rat):=by
 have h:=Zk q;have hd:(q.den:Rat)≠0:=λw=>by have:=aaj.mpr q.den_pos;rw[w]at this;exact absurd this xp
 rw[Rat.divInt_eq_div]at h;have e:(((q.den:Nat):Int):Rat)=(q.den:Rat):=rfl;rw[e]at h;have e2:q*(q.den:Rat)=(q.num:Rat) / (q.den:Rat)*(q.den:Rat):=by rw[h]
 rw[e2,Rat.div_mul_cancel hd]
theorem zO{q:Rat}{V:Nat}(h0:0<=q)(hv:q<(V:Rat)):q.num.natAbs<V*q.den:=by
 have hd:(0:Rat)<(q.den:Rat):=aaj.mpr q.den_pos;have h1:q*(q.den:Rat)<(V:Rat)*(q.den:Rat):=Rat.mul_lt_mul_of_pos_right hv hd;rw[<- GF]at h1
 have h2:((q.num:Int):Rat)<(((V*q.den:Nat):Int):Rat):=by
  have e:(((V*q.den:Nat):Int):Rat)=(V:Rat)*(q.den:Rat):=by push_cast;rfl
  rw[e];exact h1
 have h3:q.num<((V*q.den:Nat):Int):=Rat.intCast_lt_intCast.mp h2;have h4:0<=q.num:=Rat.num_nonneg.mpr h0;omega
theorem RB.of_val{q:Rat}{d v:Nat}(h0:0<=q)(hd:q.den<2^d)(hv:q<((2^v:Nat):Rat)):RB (v+d) q:=by refine⟨so (zO h0 hv) ?_,so hd (YF xp xL)⟩;rw[aaq];exact aap _ (ZX hd)
structure gK (n:Nat) (a:VJ):Prop where
 one:a.one<n
 other:a.other<n
 ne:a.one≠a.other
 size:0<=a.size
 lt:a.size<((2^300:Nat):Rat)
 nm:PyData.strOk a.nm=true
structure aF.Ok (R:aF):Prop where
 lo:2<=R.n
 hi:R.n<=12
 few:R.asks.length<=20
 room:∀q∈R.rooms,0<q/\RB 60 q
 ask:∀a∈R.asks,gK R.n a
 cd:∃D:Nat,0<D/\D<2^1240/\∀a∈R.asks,a.size.den∣D
theorem aF.Ok.rb{R:aF}(h:R.Ok){a:VJ}(ha:a∈R.asks):RB 1540 a.size:=by obtain⟨D,d0,d1,hd⟩:=h.cd;exact RB.of_val (v:=300) (d:=1240) (h.ask a ha).size (YL (ZU d0 (hd a ha)) d1) (h.ask a ha).lt
theorem xD{α:Type}{n:Nat}{f:α->D}:∀xs:List α,(∀x∈xs,Vq n (f x)=true)->Gn n (xs.map f)=true
 |[],_=>rfl
 |x::xs,h=>by simp[Gn,h x k5,xD xs λy hy=>h y (fI _ hy)]
def vC(xs:List D):Prop:=∃(c sd:Int)(t:Bool),xs=[.int c,.int sd,.bl t]/\0<=sd/\sd<2147483647
theorem Dc{t b g:Int}(h:b≠0)(e:g=dh t b):D.tup [.int (t.fdiv g),.int (b.fdiv g)]=Vp (Rat.divInt t b):=by subst e;rw[Gj h,Ni h];rfl
noncomputable def wD(qs:List Rat):Nat:=(qs.map (·.den)).foldr (·*·) 1
theorem oN:∀qs:List Rat,0<wD qs
 |[]=>Nat.one_pos
 |a::t=>Nat.mul_pos (den_pos a) (oN t)
noncomputable def eX(qs:List Rat):Rat:=qs.foldl (·+·) 0
theorem GG(qs:List Rat):∀acc:Rat,qs.foldl (·+·) acc=acc+eX qs:=by
 unfold eX
 induction qs with
 |nil=>intro acc;simp[Rat.add_zero]
 |cons q qs ih=>intro acc;rw[aag,aag,ih,ih (0+q),Rat.zero_add,Rat.add_assoc]
theorem aS(q:Rat)(qs:List Rat):eX (q::qs)=q+eX qs:=by show(q::qs).foldl (·+·) 0=_;rw[aag,GG,Rat.zero_add]
theorem sI(as bs:List Rat):eX (as++bs)=eX as+eX bs:=by
 induction as with
 |nil=>rw[aaA];show _=(0:Rat)+_;rw[Rat.zero_add]
 |cons a as ih=>rw[List.cons_append,aS,aS,ih,Rat.add_assoc]
theorem Kd(qs:List Rat):eX (qs.map λq=>-q)=-eX qs:=by
 induction qs with
 |nil=>show(0:Rat)=-0;simp
 |cons q qs ih=>rw[YQ,aS,aS,ih,Rat.neg_add]
theorem Ke{α β:Type}(f:α->β)(xs:List α)(l u:Option Int):Gd (xs.map f) l u=(Gd xs l u).map f:=by unfold Gd;rw[YD,<- List.map_drop,<- List.map_take]
theorem Kg{xs:List D}{i:Int}{k:L->Prop}:aJ (.lst xs) (.int i) k=∃v,UJ xs i=some v/\k (.d v):=rfl
theorem Kh{xs:List D}{i:Int}{k:L->Prop}:aJ (.tup xs) (.int i) k=∃v,UJ xs i=some v/\k (.d v):=rfl
theorem Ki{z:Str}{i:Int}{k:L->Prop}:aJ (.str z) (.int i) k=(z.length<=sizeLine/\∃c,UJ z.cps.toList i=some c/\k (.d (.str ⟨#[c]⟩))):=rfl
theorem Kj{R:aF}{k:L->Prop}:aJ (aO R) (.int 0) k=k (.d (.lst (R.rooms.map Vp))):=by show(∃v,UJ _ _=some v/\_)=_;simp only[zK,Zm,ZT]
theorem Kk{R:aF}{k:L->Prop}:aJ (aO R) (.int 1) k=k (.d (.lst (R.asks.map j3))):=by show(∃v,UJ _ _=some v/\_)=_;simp only[zL,Zm,ZT]
theorem NO{a:VJ}{k:L->Prop}:aJ (j3 a) (.int 0) k=k (.d (.str a.nm)):=by show(∃v,UJ _ _=some v/\_)=_;simp only[zK,Zm,ZT]
theorem NP{a:VJ}{k:L->Prop}:aJ (j3 a) (.int 1) k=k (.d (.int a.one)):=by show(∃v,UJ _ _=some v/\_)=_;simp only[zL,Zm,ZT]
theorem NQ{a:VJ}{k:L->Prop}:aJ (j3 a) (.int 2) k=k (.d (.int a.other)):=by show(∃v,UJ _ _=some v/\_)=_;simp only[Kc,Zm,ZT]
theorem NR{a:VJ}{k:L->Prop}:aJ (j3 a) (.int 3) k=k (.d (Vp a.size)):=by show(∃v,UJ _ _=some v/\_)=_;simp only[Qp,Zm,ZT]
theorem Qr{q:Rat}{k:L->Prop}:aJ (Vp q) (.int 0) k=k (.d (.int q.num)):=by show(∃v,UJ _ _=some v/\_)=_;simp only[zK,Zm,ZT]
theorem Qs{q:Rat}{k:L->Prop}:aJ (Vp q) (.int 1) k=k (.d (.int (q.den:Int))):=by show(∃v,UJ _ _=some v/\_)=_;simp only[zL,Zm,ZT]
theorem Ma(q:Rat):Vt (Vp q)=true:=by simp[Vp,Vt,xv]
theorem sJ{α:Type}{f:α->D}:∀(xs:List α),(∀x∈xs,Vt (f x)=true)->xv (xs.map f)=true
 |[],_=>rfl
 |x::xs,h=>by simp[xv,h x k5,sJ xs λy hy=>h y (fI _ hy)]
theorem Dd(qs:List Rat):xv (qs.map Vp)=true:=sJ _ λq _=>Ma q
theorem GH{α:Type}(f:α->Int)(xs:List α):xv (xs.map λx=>D.int (f x))=true:=sJ _ λ_ _=>rfl
theorem GI(R:aF):R.rooms.length=R.n:=rfl
noncomputable def eO(w:Bool):Str:=if w then "on" else "back"
theorem De:gE (.str "on"):=ji (n:=0) y_ xp
theorem wF:gE (.str "back"):=ji (n:=0) y_ xp
theorem kC(w:Bool):gE (.str (eO w)):=by
 cases w
 . exact wF
 . exact De
theorem Qt(w:Bool):(eO w="on")=(w=true):=by cases w <;> simp[eO] <;> decide
theorem Kl(w:Bool):(eO w="back")=(w=false):=by cases w <;> simp[eO] <;> decide
theorem kD{is:List Nat}{xs:List D}{Z:Ev}{k:Ev->Prop}:dH is (.tup xs) Z k=ir is xs Z k:=rfl
theorem GJ{is:List Nat}{a:VJ}{Z:Ev}{k:Ev->Prop}:dH is (j3 a) Z k=ir is [.str a.nm,.int a.one,.int a.other,Vp a.size] Z k:=rfl
theorem Km{is:List Nat}{q:Rat}{Z:Ev}{k:Ev->Prop}:dH is (Vp q) Z k=ir is [.int q.num,.int (q.den:Int)] Z k:=rfl
theorem Kn{α:Type}{xs:List α}{k:Nat}(h:k<=xs.length):Gd xs (some (k:Int)) none=xs.drop k:=by unfold Gd HT.sIx;simp only[if_neg (show ¬((k:Int)<0) by omega),Zl,Nat.min_eq_left h];rw[Y8];rw[Z5];exact YN _
theorem Bv{xs:List D}{k:List D->Prop}:ky (.lst xs) k=k xs:=rfl
theorem Bw{xs:List D}{k:List D->Prop}:ky (.tup xs) k=k xs:=rfl
theorem Ew{q:Rat}{k:List D->Prop}:ky (Vp q) k=k [.int q.num,.int (q.den:Int)]:=rfl
theorem GK{xs:List D}{k:L->Prop}:dY [.lst xs] k=k (.d (.int xs.length)):=rfl
theorem GL{xs:List D}{k:L->Prop}:dY [.tup xs] k=k (.d (.int xs.length)):=rfl
theorem GM{x:Str}{k:L->Prop}:dY [.str x] k=(x.length<=sizeLine/\k (.d (.int x.length))):=rfl
theorem Ko{q:Rat}{k:L->Prop}:dY [Vp q] k=k (.d (.int 2)):=rfl
theorem Ex{R:aF}{k:L->Prop}:dY [aO R] k=k (.d (.int 2)):=rfl
theorem GN{a:VJ}{k:L->Prop}:dY [j3 a] k=k (.d (.int 4)):=rfl
theorem Bx(q:Rat):p6 "tuple" (Vp q)=true:=rfl
theorem By(q:Rat):p6 "list" (Vp q)=false:=rfl
theorem Bz(q:Rat):p6 "int" (Vp q)=false:=rfl
theorem zQ(q:Rat):p6 "bool" (Vp q)=false:=rfl
theorem BA(q:Rat):p6 "str" (Vp q)=false:=rfl
theorem xE(R:aF):p6 "tuple" (aO R)=true:=rfl
noncomputable def VL(n:Nat)(f:Nat->Rat):List D:=(List.range n).map λ(t:Nat)=>Vp (f t)
theorem xF(n:Nat)(f:Nat->Rat):(VL n f).length=n:=by simp[VL]
theorem zR{n:Nat}{f:Nat->Rat}{t:Nat}(h:t<n):UJ (VL n f) (t:Int)=some (Vp (f t)):=by refine jb ?_;unfold VL;rw[YS,ZE h];rfl
theorem GO{n:Nat}{f:Nat->Rat}{t:Nat}(v:Rat):(VL n f).set t (Vp v)=VL n λs=>if s=t then v else f s:=by
 refine ZI (by simp[VL]) λj h1 h2=>?_;have e1:∀(g:Nat->Rat)(h:j<(VL n g).length),(VL n g)[j]=Vp (g j):=λg h=>by simp[VL]
 rw[List.getElem_set,e1 _ h2];by_cases hj:t=j
 . subst hj;simp
 . rw[if_neg hj,if_neg (Z4 hj)];exact e1 _ _
theorem Mb{n:Nat}{f:Nat->Rat}{t:Nat}(h:t<n):UI (VL n f).length (t:Int)=some t:=by rw[xF];unfold UI;rw[if_pos (by omega),if_pos (by omega),Zl]
theorem GP(n:Nat)(f:Nat->Rat):VL n f=((List.range n).map f).map Vp:=by unfold VL;rw[Y3];rfl
theorem oO{n:Nat}{f g:Nat->Rat}(h:∀t,t<n->f t=g t):VL n f=VL n g:=by unfold VL;refine ZD λt ht=>?_;rw[h t (YO.mp ht)]
theorem Kp(n:Nat)(f:Nat->Rat):xv (VL n f)=true:=by rw[GP];exact Dd _
noncomputable def me(c:Nat×Nat):D:=.tup [.int (c.1:Int),.int (c.2:Int)]
theorem NS{c:Nat×Nat}{k:L->Prop}:aJ (me c) (.int 0) k=k (.d (.int c.1)):=by show(∃v,UJ _ _=some v/\_)=_;simp only[zK,Zm,ZT]
theorem NT{c:Nat×Nat}{k:L->Prop}:aJ (me c) (.int 1) k=k (.d (.int c.2)):=by show(∃v,UJ _ _=some v/\_)=_;simp only[zL,Zm,ZT]
theorem NU(n:Nat)(c:Nat×Nat):Vq (n+1) (me c)=true:=by cases n<;>simp[me,Vq,Gn]
theorem GQ(c:Nat×Nat):Vt (me c)=true:=by simp[me,Vt,xv]
theorem GR(c:Nat×Nat):gE (me c):=ji (NU 0 c) xp
theorem NV(c d:Nat×Nat):Vf (me c) (me d)=decide (c=d):=by
 unfold me;rw[Gp,kB,kB,xu,tP,tP,Bool.and_true,<- Bool.decide_and,aas];constructor
 . rintro⟨h1,h2⟩;exact Prod.ext xL xL
 . rintro rfl;exact⟨rfl,rfl⟩
noncomputable def gP(g:Rat×(Nat×Nat)):D:=.tup [Vp g.1,me g.2]
theorem RL{g:Rat×(Nat×Nat)}{k:L->Prop}:aJ (gP g) (.int 0) k=k (.d (Vp g.1)):=by show(∃v,UJ _ _=some v/\_)=_;simp only[zK,Zm,ZT]
theorem RM{g:Rat×(Nat×Nat)}{k:L->Prop}:aJ (gP g) (.int 1) k=k (.d (me g.2)):=by show(∃v,UJ _ _=some v/\_)=_;simp only[zL,Zm,ZT]
theorem Kq(T:String):p6 T .non=(T == "NoneType"):=rfl
theorem NW(T:String)(b:Bool):p6 T (.bl b)=(T == "bool" ||T == "int"):=rfl
theorem Kr(T:String)(i:Int):p6 T (.int i)=(T == "int"):=rfl
theorem Ks(T:String)(x:Str):p6 T (.str x)=(T == "str"):=rfl
theorem Kt(T:String)(xs:List D):p6 T (.tup xs)=(T == "tuple"):=rfl
theorem Ku(T:String)(xs:List D):p6 T (.lst xs)=(T == "list"):=rfl
theorem Ey(g:Rat×(Nat×Nat)):p6 "tuple" (gP g)=true:=rfl
theorem zS(c:Nat×Nat):p6 "tuple" (me c)=true:=rfl
theorem zT(a:VJ):p6 "tuple" (j3 a)=true:=rfl
theorem GS{c:Nat×Nat}{k:L->Prop}:dY [me c] k=k (.d (.int 2)):=rfl
theorem NX{c:Rat×(Nat×Nat)}{k:L->Prop}:dY [gP c] k=k (.d (.int 2)):=rfl
theorem GT(cs:List (Nat×Nat)):xv (cs.map me)=true:=sJ _ λc _=>GQ c
end L2
namespace L2
open PySem PySem.Builtin.Str
theorem NY{x y:Str}(h:x.cps.toList=y.cps.toList):x=y:=by cases x;cases y;exact congrArg Str.mk (Array.toList_inj.mp h)
theorem Kv{x:Str}{j:Int}(h0:0<=j)(h2:j<=x.length):(Txt.slice x none (some j)).cps.toList=x.cps.toList.take j.toNat:=by have:=eq_of_beq (PyProof.Rows.slice_closes_toL h0 h2);rw[this];simp
theorem Ez{x:Str}{i:Int}(h0:0<=i)(h2:i<=x.length):(Txt.slice x (some i) none).cps.toList=x.cps.toList.drop i.toNat:=by
 rw[PyProof.Rows.slice_from_eq h0 h2 rfl];have e:x.cps.toList.length=x.length:=by simp[Str.length]
 rw[Y8];rw[Z5,e];omega
theorem oP(x y:Str):(x++y).cps.toList=x.cps.toList++y.cps.toList:=by show(x.cps++y.cps).toList=_;simp
theorem lV(x:Str):x.length=x.cps.toList.length:=by simp[Str.length]
def tZ(c:Nat):Prop:=97<=c/\c<=122
structure Jm (z:Str):Prop where
 lo:1<=z.cps.toList.length
 hi:z.cps.toList.length<=8
 let_:∀c∈z.cps.toList,tZ c
theorem Jm.ok{z:Str}(h:Jm z):PyData.strOk z=true:=by unfold PyData.strOk;rw[<- Array.all_toList,aau];intro c hc;have:=h.let_ c hc;unfold tZ at this;simp;omega
noncomputable def xG:Str:="abcdefghijklmnopqrstuvwxyz"
theorem zU:xG.cps.toList=(List.range 26).map (·+97):=by decide
theorem wG{i:Int}(h0:0<=i)(h1:i<26):UJ xG.cps.toList i=some (i.toNat+97):=by refine LY h0 ?_;rw[zU,YS,ZE xL];rfl
theorem wH:∀(zs:List Str),(Str.join "" zs).cps.toList=(zs.map λz=>z.cps.toList).flatten
 |[]=>rfl
 |[x]=>by simp[Str.join]
 | x::y::r=>by have ih:=wH (y::r);show(x++("" : Str)++Str.join "" (y::r)).cps.toList=_;rw[oP,oP,ih];show x.cps.toList++[]++_=_;simp
theorem Kw(zs:List Str):(Txt.join "" zs).cps.toList=(zs.map λz=>z.cps.toList).flatten:=by rw[eq_of_beq (PyProof.Rows.join_closes (sep:="") (sep':="") (ys:=zs) rfl),wH]
theorem zV:∀cs:List Nat,(cs.map λc=>[c]).flatten=cs
 |[]=>rfl
 |c::cs=>by rw[YQ,aao,zV cs];rfl
theorem qd(cs:List Nat):(Txt.join "" (cs.map λc=>(⟨#[c]⟩:Str))).cps.toList=cs:=by rw[Kw,Y3];exact zV cs
theorem Df:∀cs:List Nat,((cs.map λc=>(⟨#[c]⟩:Str)).map (·.length)).sum=cs.length
 |[]=>rfl
 | c::cs=>by rw[YQ,YQ,aaE,Df cs,Zy];show 1+_=_;omega
noncomputable def nameAt(b:Str)(p t k:Nat):Str:=⟨(b.cps.toList.take p++[(t+k) % 26+97]++b.cps.toList.drop (p+1)).toArray⟩
theorem GU{b:Str}{p t k:Nat}(h:Jm b)(hp:p<b.cps.toList.length):Jm (nameAt b p t k):=by
 have e:(nameAt b p t k).cps.toList=b.cps.toList.take p++[(t+k) % 26+97]++b.cps.toList.drop (p+1):=by simp[nameAt]
 have l:(b.cps.toList.take p++[(t+k) % 26+97]++b.cps.toList.drop (p+1)).length=b.cps.toList.length:=by rw[Y4,Y4,Zz,Z5,List.length_singleton];omega
 refine⟨by rw[e,l];exact h.lo,by rw[e,l];exact h.hi,λc hc=>?_⟩;rw[e]at hc;rcases YY.mp hc with hc|hc
 .
  rcases YY.mp hc with hc|hc
  . exact h.let_ c (List.mem_of_mem_take hc)
  . rw[Za.mp hc];unfold tZ;have:=aaL (t+k) (y:=26) xp;omega
 . exact h.let_ c (List.mem_of_mem_drop hc)
theorem EC{b:Str}{p t j k:Nat}(hp:p<b.cps.toList.length)(hj:j<26)(hk:k<26)(h:nameAt b p t j=nameAt b p t k):j=k:=by
 have e:b.cps.toList.take p++[(t+j) % 26+97]++b.cps.toList.drop (p+1)=b.cps.toList.take p++[(t+k) % 26+97]++b.cps.toList.drop (p+1):=by have:=congrArg (λz:Str=>z.cps.toList) h;simpa[nameAt]using this
 rw[Zo,Zo]at e;have e2:=List.append_cancel_left e;have e3:=(List.cons.inj e2).1;omega
theorem zW{α β:Type}{f:α->β}:∀{xs:List α},xs.Nodup->(∀x∈xs,∀y∈xs,f x=f y->x=y)->(xs.map f).Nodup
 |[],_,_=>List.nodup_nil
 | x::xs,hn,h=>by rw[YQ,Zc];obtain⟨h1,h2⟩:=Zc.mp hn;refine⟨λhm=>?_,zW h2 λa ha b hb=>h a (fI _ ha) b (fI _ hb)⟩;obtain⟨y,hy,e⟩:=YU.mp hm;have:=h y (fI _ hy) x k5 e;rw[this]at hy;exact h1 hy
theorem Kx{q:Rat}(h:RB 60 q):q<((2^300:Nat):Rat):=by
 have h1:=GF q;have hd:(1:Rat)<=(q.den:Rat):=by have:=q.den_pos;exact_mod_cast this
 have h2:(q.num:Rat)<((2^300:Nat):Rat):=by
  have h3:q.num<((2^300:Nat):Int):=by have:=so h.1 (YF (show 0<2 by decide) (show 60<=300 by decide));omega
  exact Rat.intCast_lt_intCast.mpr h3
 have hV:(0:Rat)<((2^300:Nat):Rat):=aaj.mpr (Nat.pow_pos xp);generalize ((2^300:Nat):Rat)=V at *;refine Rat.not_le.mp λhq=>?_;have h4:V*1<=q*(q.den:Rat):=Zx (Rat.mul_le_mul_of_nonneg_left hd (ZS hV)) (aat hq (by grind));rw[<- h1]at h4;grind
noncomputable def GV:List VJ->Nat
 |[]=>1
 |a::as=>a.size.den*GV as
theorem oQ:∀as,0<GV as
 |[]=>Nat.one_pos
 |a::as=>Nat.mul_pos a.size.den_pos (oQ as)
theorem xH:∀{as:List VJ},(∀a∈as,RB 60 a.size)->GV as<=2^(60*as.length)
 |[],_=>YN 1
 | a::as,h=>by have h1:=(h a k5).2;have h2:=xH (as:=as) λp hp=>h p (fI _ hp);show a.size.den*GV as<=2^(60*(as.length+1));rw[Nat.mul_add,Nat.mul_one,aaq,Nat.mul_comm (2^_)];exact aaN (ZX h1) h2
theorem sL:∀{as:List VJ}{a:VJ},a∈as->a.size.den∣GV as
 | b::as,a,h=>by
  rcases YK.mp h with rfl|h
  . exact aax _ _
  . exact ZK (sL h) (aaH _ _)
theorem RN{as:List VJ}(h:∀a∈as,RB 60 a.size)(hl:as.length<=20):∃D:Nat,0<D/\D<2^1240/\∀a∈as,a.size.den∣D:=by refine⟨GV as,oQ as,YL (xH h) (aaU xp xL),λa ha=>sL ha⟩
end L2
namespace L2
open PySem
noncomputable def VM(n i j:Nat):List Nat:=(List.range ((j+n-i) % n)).map λs=>(i+s) % n
noncomputable def vD(n i j:Nat):List Nat:=(List.range ((i+n-j) % n)).map λs=>(i+n-1-s) % n
noncomputable def wJ(n:Nat)(a:VJ)(w:Bool):List Nat:=if w then VM n a.one a.other else vD n a.one a.other
theorem xI{n i j:Nat}(hi:i<n)(hj:j<n):(((j:Int)-i).fmod n)=(((j+n-i) % n:Nat):Int):=by
 rw[Y7 _ xL];have e:((j:Int)-i) % n=((j:Int)-i+n) % n:=(Int.add_emod_right _ _).symm;rw[e];have:(j:Int)-i+n=((j+n-i:Nat):Int):=by omega
 rw[this];exact(Int.natCast_emod _ _).symm
theorem Dg{n i s:Nat}:(((i:Int)+s).fmod n)=(((i+s) % n:Nat):Int):=by rw[Y7 _ xL,Int.natCast_emod,Int.natCast_add]
theorem Ky{n i s:Nat}(hn:0<n)(hs:s<n):(((i:Int)-1-s).fmod n)=(((i+n-1-s) % n:Nat):Int):=by
 rw[Y7 _ xL];have e:((i:Int)-1-s) % n=((i:Int)-1-s+n) % n:=(Int.add_emod_right _ _).symm;rw[e];have:(i:Int)-1-s+n=((i+n-1-s:Nat):Int):=by omega
 rw[this];exact(Int.natCast_emod _ _).symm
noncomputable def VN(n i j:Nat):Nat:=(j+n-i) % n
theorem oR{x n:Nat}(h:x<2*n):x % n=if x<n then x else x-n:=by
 by_cases hx:x<n
 . rw[if_pos hx,Nat.mod_eq_of_lt hx]
 . rw[if_neg hx,Nat.mod_eq_sub_mod xL,Nat.mod_eq_of_lt xL]
theorem my{n i j:Nat}(hi:i<n)(hj:j<n):VN n i j=if i<=j then j-i else j+n-i:=by unfold VN;rw[oR xL];split<;>split<;>omega
theorem Dh(n i j:Nat):(VM n i j).length=VN n i j:=by simp[VM,VN]
theorem Di(n i j:Nat):(vD n i j).length=VN n j i:=by simp[vD,VN]
theorem Qu{n i j t:Nat}(hn:0<n)(h:t∈VM n i j):t<n:=by obtain⟨s,_,rfl⟩:=YU.mp h;exact aaL _ hn
theorem GW{n:Nat}{a:VJ}(h:gK n a)(w:Bool):(wJ n a w).length<n:=by
 have h1:=h.one;have h2:=h.other;cases w
 . show(vD n a.one a.other).length<n;rw[Di];exact aaL _ xL
 . show(VM n a.one a.other).length<n;rw[Dh];exact aaL _ xL
theorem Dj{n i j:Nat}(hn:0<n):VN n i j<n:=aaL _ hn
theorem sM{n i s:Nat}(hi:i<n)(hs:s<n):VN n i ((i+s) % n)=s:=by have h1:=aaL (i+s) (y:=n) xL;rw[my hi h1,oR xL];split<;>split<;>omega
theorem xJ{n i t:Nat}(hi:i<n)(ht:t<n):(i+VN n i t) % n=t:=by have h1:=Dj (n:=n) (i:=i) (j:=t) xL;rw[oR xL,my hi ht];split<;>split<;>omega
theorem GX{n i j:Nat}(hi:i<n)(hj:j<n)(h:i≠j):VN n i j+VN n j i=n:=by rw[my hi hj,my hj hi];split<;>split<;>omega
theorem NZ{n i j:Nat}(hi:i<n)(hj:j<n)(h:i≠j):0<VN n i j:=by rw[my hi hj];split<;>omega
theorem Mc{n i j t:Nat}(hi:i<n):t∈VM n i j↔t<n/\VN n i t<VN n i j:=by
 constructor
 . intro h;obtain⟨s,hs,rfl⟩:=YU.mp h;have hs:s<VN n i j:=YO.mp hs;have:=Dj (n:=n) (i:=i) (j:=j) xL;exact⟨aaL _ xL,by rw[sM hi xL];exact hs⟩
 . rintro⟨ht,h⟩;exact YU.mpr ⟨VN n i t,YO.mpr h,xJ hi ht⟩
theorem GY{n i s:Nat}(hi:i<n)(hs:s<n):(i+n-1-s) % n=(i+(n-1-s)) % n:=by
 congr 1
 omega
theorem Dk{n i j t:Nat}(hi:i<n)(hj:j<n)(hij:i≠j):t∈vD n i j↔t<n/\¬VN n i t<VN n i j:=by
 have hsum:=GX hi hj hij;constructor
 . intro h;obtain⟨s,hs,rfl⟩:=YU.mp h;have hs:s<VN n j i:=YO.mp hs;refine⟨aaL _ xL,?_⟩;rw[GY hi xL,sM hi xL];omega
 .
  rintro⟨ht,h⟩;have:=Dj (n:=n) (i:=i) (j:=t) xL;refine YU.mpr ⟨n-1-VN n i t,YO.mpr (show _<VN n j i by omega),?_⟩;rw[GY hi xL];have e:n-1-(n-1-VN n i t)=VN n i t:=by omega
  rw[e,xJ hi ht]
noncomputable def iS(n:Nat)(a:VJ)(t:Nat):Bool:=decide (VN n a.one t<VN n a.one a.other)
theorem kE{n:Nat}{a:VJ}(h:gK n a)(w:Bool){t:Nat}(ht:t<n):t∈wJ n a w↔(iS n a t == w)=true:=by
 have h1:=h.one;have h2:=h.other;cases w
 . show t∈vD n a.one a.other↔_;rw[Dk h1 h2 h.ne];simp[iS,ht]
 . show t∈VM n a.one a.other↔_;rw[Mc h1];simp[iS,ht]
theorem Qv{n i j:Nat}(hi:i<n)(hj:j<n)(hij:i≠j):VM n j i=(vD n i j).reverse:=by
 have hsum:=GX hi hj hij;refine ZI (by rw[List.length_reverse,Dh,Di]) λs h1 h2=>?_;rw[Dh]at h1;have hp:=NZ hi hj hij;rw[List.getElem_reverse];simp only[VM,vD,Z8,aaM,YD,Y0];have e:(i+n-j) % n=VN n j i:=rfl;rw[e];have e2:j=(i+VN n i j) % n:=(xJ hi hj).symm;have e3:i+n-1-(VN n j i-1-s)=i+VN n i j+s:=by omega
 rw[e3]
 conv=>lhs;rw[e2]
 rw[Nat.mod_add_mod]
theorem Dl(t:Nat):∀(T:List Nat),UT (.int (t:Int)) (T.map λ(s:Nat)=>D.int (s:Int))=decide (t∈T)
 |[]=>rfl
 | s::T=>by
  have ih:=Dl t T;unfold UT at ih ⊢;rw[YQ,aaF,ih];show(Vm (.int (s:Int)) (.int (t:Int)) ||_)=_;have e:Vm (.int (s:Int)) (.int (t:Int))=decide (t=s):=by show decide ((s:Int)=(t:Int))=_;rw[aas];omega
  rw[e];simp[Bool.decide_or]
theorem RB.sum{b:Nat}:∀(qs:List Rat),(∀q∈qs,RB b q)->RB (1+(b+1)*qs.length) (eX qs)
 |[],_=>RB.mono (m:=1) ⟨xp,xp⟩ xL
 | q::qs,h=>by have ih:=RB.sum qs λz hz=>h z (fI _ hz);rw[aS];refine((h q k5).add ih).mono ?_;rw[Zy,Nat.mul_succ];omega
theorem GZ{b:Nat}:∀(qs:List Rat),(∀q∈qs,RB b q)->wD qs<=2^(b*qs.length)
 |[],_=>YN 1
 | q::qs,h=>by have ih:=GZ qs λz hz=>h z (fI _ hz);show q.den*wD qs<=_;refine YH (aaN (ZX (h q k5).2) ih) ?_;rw[<- aaq,Zy,Nat.mul_succ];exact YF xp xL
theorem sN:eX []=0:=rfl
theorem rq(qs:List Rat)(q:Rat):eX (qs++[q])=eX qs+q:=by rw[sI,aS,sN,Rat.add_zero]
noncomputable def kd(n:Nat)(a:VJ)(p:Rat)(t:Nat):Rat:=if iS n a t then p else a.size-p
noncomputable def aV(n:Nat)(as:List VJ)(ps:List Rat)(t:Nat):Rat:=eX ((as.zip ps).map λx=>kd n x.1 x.2 t)
structure xK (R:aF) (ps:List Rat) (c:Nat):Prop where
 len:ps.length=R.asks.length
 lo:∀x∈R.asks.zip ps,0<=x.2/\x.2<=x.1.size
 rb:∀p∈ps,RB c p
theorem Dm{α β:Type}(as:List α)(bs:List β)(k:Nat):(as.zip bs).take k=(as.take k).zip (bs.take k):=by unfold List.zip;exact List.take_zipWith
theorem Kz{α β:Type}{as:List α}{bs:List β}{k:Nat}(h1:k<as.length)(h2:k<bs.length):(as.take (k+1)).zip (bs.take (k+1))=(as.take k).zip (bs.take k)++[(as[k],bs[k])]:=by rw[<- Dm,<- Dm,List.take_succ,gV (by rw[Zh];omega),ZJ];rfl
theorem ED{n:Nat}{as:List VJ}{ps:List Rat}{k:Nat}(h1:k<as.length)(h2:k<ps.length)(t:Nat):aV n (as.take (k+1)) (ps.take (k+1)) t=aV n (as.take k) (ps.take k) t+kd n as[k] ps[k] t:=by unfold aV;rw[Kz h1 h2,Y9];exact rq _ _
theorem Dn{n i j:Nat}(hi:i<n):(VM n i j).Nodup:=by unfold VM;rw[List.nodup_iff_pairwise_ne,List.pairwise_map];refine List.Pairwise.imp_of_mem (R:=λa b=>a≠b) ?_ (List.nodup_iff_pairwise_ne.mp List.nodup_range);intro a b ha hb hab z;have la:a<VN n i j:=YO.mp ha;have lb:b<VN n i j:=YO.mp hb;have lf:=Dj (n:=n) (i:=i) (j:=j) xL;have e1:=sM hi (show a<n by omega);have e2:=sM hi (show b<n by omega);rw[z,e2]at e1;exact hab e1.symm
theorem G0{α β:Type}{xs:List α}{f:α->β}(n:Nat)(h:xs.length=n)(g:Nat->β)(hg:∀k (hk:k<xs.length),g k=f xs[k]):(List.range n).map g=xs.map f:=by subst h;refine ZI x_ λj h1 h2=>?_;simp only[Z8,aaM];exact hg j (by simpa using h2)
theorem xM{α:Type}(f g:α->Rat):∀xs:List α,eX (xs.map f)-eX (xs.map g)=eX (xs.map λx=>f x-g x)
 |[]=>by simp only[aaW,sN];grind
 | x::xs=>by have ih:=xM f g xs;rw[YQ,YQ,YQ,aS,aS,aS,<- ih];grind
theorem Do{α:Type}(f g:α->Rat):∀xs:List α,eX (xs.map f)+eX (xs.map g)=eX (xs.map λx=>f x+g x)
 |[]=>by simp only[aaW,sN];grind
 | x::xs=>by have ih:=Do f g xs;rw[YQ,YQ,YQ,aS,aS,aS,<- ih];grind
theorem jn{α:Type}(f:α->Rat):∀xs:List α,(∀x∈xs,0<=f x)->0<=eX (xs.map f)
 |[],_=>by simp[sN]
 | x::xs,h=>by have ih:=jn f xs λy hy=>h y (fI _ hy);have h1:=h x k5;rw[YQ,aS];grind
theorem N0{α:Type}(f g:α->Rat)(xs:List α)(h:∀x∈xs,f x<=g x):eX (xs.map f)<=eX (xs.map g):=by
 have e:=xM g f xs;have e2:=jn (λx=>g x-f x) xs λx hx=>by have:=h x hx;grind
 grind
theorem iX{α:Type}{f g:α->Rat}{xs:List α}(h:∀x∈xs,f x=g x):eX (xs.map f)=eX (xs.map g):=by rw[ZD h]
theorem N1{α β γ:Type}(f:α->γ){as:List α}{bs:List β}(h:as.length<=bs.length):(as.zip bs).map (λx=>f x.1)=as.map f:=by
 have:(as.zip bs).map (λx=>f x.1)=((as.zip bs).map Prod.fst).map f:=by rw[Y3];rfl
 rw[this,List.map_fst_zip h]
theorem m9{n:Nat}{a:VJ}{p:Rat}(h0:0<=p)(h1:p<=a.size)(t:Nat):0<=kd n a p t/\kd n a p t<=a.size:=by
 unfold kd;split
 . exact⟨h0,h1⟩
 . constructor<;>grind
noncomputable def ki(c:Nat×Nat)(p:Nat):Bool:=decide (c.1<p/\p<=c.2)
noncomputable def apart(c:Nat×Nat)(i j:Nat):Bool:=ki c i != ki c j
noncomputable def cO(as:List VJ)(c:Nat×Nat):Rat:=eX ((as.filter λa=>apart c a.one a.other).map (·.size))
noncomputable def aF.room(R:aF)(t:Nat):Rat:=R.rooms.getD t 0
noncomputable def oS(R:aF)(c:Nat×Nat):Rat:=R.room c.1+R.room c.2
noncomputable def cf(R:aF)(c:Nat×Nat):Rat:=cO R.asks c / oS R c
def g9(n:Nat)(c:Nat×Nat):Prop:=c.1<=c.2/\c.2<n
noncomputable def zX(n:Nat):List (Nat×Nat):=(List.range n).flatMap λg=>(List.range (n-g)).map λi=>(g,g+i)
theorem xN{n:Nat}{c:Nat×Nat}:c∈zX n↔g9 n c:=by
 unfold zX g9;rw[List.mem_flatMap];constructor
 . rintro⟨g,hg,h⟩;obtain⟨i,hi,rfl⟩:=YU.mp h;have:=YO.mp hg;have:=YO.mp hi;exact⟨aar _ _,by show g+i<n;omega⟩
 . rintro⟨h1,h2⟩;exact⟨c.1,YO.mpr xL,YU.mpr ⟨c.2-c.1,YO.mpr xL,by ext<;>simp;omega⟩⟩
theorem G1{R:aF}{t:Nat}(h:t<R.n):UJ (R.rooms.map Vp) (t:Int)=some (Vp (R.room t)):=by have h':t<R.rooms.length:=h;rw[bt h'];unfold aF.room;rw[YC,gV h'];rfl
theorem eY{R:aF}(hR:R.Ok){t:Nat}(h:t<R.n):0<R.room t/\RB 60 (R.room t):=by have h':t<R.rooms.length:=h;unfold aF.room;rw[YC,gV h'];exact hR.room _ (YB h')
theorem gL{R:aF}(hR:R.Ok){c:Nat×Nat}(h:g9 R.n c):0<oS R c/\RB 121 (oS R c):=by have a:=eY hR (t:=c.1) (by have:=h.1;have:=h.2;omega);have b:=eY hR (t:=c.2) h.2;unfold oS;exact⟨by have:=a.1;have:=b.1;grind,a.2.add b.2⟩
theorem wK{q:Rat}{D:Nat}{z:Int}(h0:0<D)(e:q*(D:Rat)=(z:Rat)):q.den∣D:=by
 have hQ:(D:Rat)≠0:=λw=>by have:=aaj.mpr h0;rw[w]at this;exact absurd this xp
 have e2:q=Rat.divInt z (D:Int):=by rw[Rat.divInt_eq_div];have:((D:Int):Rat)=(D:Rat):=rfl;rw[this,<- e,Rat.mul_div_cancel hQ]
 rw[e2];have:=Rat.den_divInt z (D:Int);rw[this,if_neg (by omega),YI];exact Nat.div_dvd_of_dvd (Nat.gcd_dvd_left _ _)
theorem wL{q:Rat}{D:Nat}(h:q.den∣D):∃z:Int,q*(D:Rat)=(z:Rat):=by obtain⟨m,rfl⟩:=h;refine⟨q.num*(m:Int),?_⟩;rw[Rat.intCast_mul,GF];have e1:((m:Int):Rat)=(m:Rat):=rfl;have e2:((q.den*m:Nat):Rat)=(q.den:Rat)*(m:Rat):=Rat.natCast_mul _ _;rw[e1,e2,Rat.mul_assoc]
theorem G2{p q:Rat}{D:Nat}(h0:0<D)(hp:p.den∣D)(hq:q.den∣D):(p+q).den∣D:=by obtain⟨a,ha⟩:=wL hp;obtain⟨b,hb⟩:=wL hq;exact wK (z:=a+b) h0 (by rw[Rat.add_mul,ha,hb,Rat.intCast_add])
theorem xO{D:Nat}(h0:0<D):∀qs:List Rat,(∀q∈qs,q.den∣D)->(eX qs).den∣D
 |[],_=>by show(0:Rat).den∣D;exact Nat.one_dvd _
 | q::qs,h=>by rw[aS];exact G2 h0 (h q k5) (xO h0 qs λp hp=>h p (fI _ hp))
theorem BB{V:Rat}(hV:0<=V):∀qs:List Rat,(∀q∈qs,q<V)->eX qs<=(qs.length:Rat)*V
 |[],_=>by show(0:Rat)<=_;rw[List.length_nil];show(0:Rat)<=0*V;grind
 | q::qs,h=>by rw[aS,Zy];have h1:=h q k5;have h2:=BB hV qs λp hp=>h p (fI _ hp);have e:((qs.length+1:Nat):Rat)=(qs.length:Rat)+1:=Rat.natCast_add _ _;rw[e];grind
def Qw(qs:List Rat):Prop:=wD qs<2^9000∨∃D:Nat,0<D/\D<2^4400/\∀q∈qs,q.den∣D
theorem EE{R:aF}(hR:R.Ok){as:List VJ}(hs:∀a∈as,a∈R.asks)(hl:as.length<=20)(c:Nat×Nat):RB 1546 (cO as c):=by
 obtain⟨D,d0,d1,hd⟩:=hR.cd;have hm:∀q∈(as.filter (λa=>apart c a.one a.other)).map (·.size),∃a∈R.asks,q=a.size:=λq hq=>by obtain⟨a,ha,rfl⟩:=YU.mp hq;exact⟨a,hs a (Zv.mp ha).1,rfl⟩
 have h1:(cO as c).den∣D:=xO d0 _ λq hq=>by obtain⟨a,ha,rfl⟩:=hm q hq;exact hd a ha
 have h0:0<=cO as c:=jn _ _ λa ha=>(hR.ask a (hs a (Zv.mp ha).1)).size;have hV:(0:Rat)<((2^300:Nat):Rat):=aaj.mpr (Nat.pow_pos xp);have h2:cO as c<=_:=BB (ZS hV) _ λq hq=>by obtain⟨a,ha,rfl⟩:=hm q hq;exact(hR.ask a ha).lt
 have h3:((as.filter (λa=>apart c a.one a.other)).map (·.size)).length<=20:=by rw[YD];have:=aaf (λa:VJ=>apart c a.one a.other) as;omega
 have h4:cO as c<((2^306:Nat):Rat):=by
  have e:((2^306:Nat):Rat)=64*((2^300:Nat):Rat):=by rw[show(2^306:Nat)=64*2^300 by rw[show 306=6+300 from rfl,aaq],Rat.natCast_mul];rfl
  rw[e];generalize ((2^300:Nat):Rat)=V at *;generalize ((as.filter (λa=>apart c a.one a.other)).map (·.size)).length=m at *;have h5:(m:Rat)*V<=20*V:=aat (by exact_mod_cast h3) (ZS hV);grind
 exact(RB.of_val (v:=306) (d:=1240) h0 (YL (ZU d0 h1) d1) h4).mono xp
theorem t4{R:aF}(hR:R.Ok)(c:Nat×Nat):RB 1546 (cO R.asks c):=EE hR (λ_ h=>h) hR.few c
theorem Dp{R:aF}(hR:R.Ok){c:Nat×Nat}(h:g9 R.n c):RB 1667 (cf R c):=by obtain⟨h1,h2⟩:=gL hR h;exact(t4 hR c).div h2 (by grind)
noncomputable def dB(R:aF)(acc:Rat×(Nat×Nat))(c:Nat×Nat):Rat×(Nat×Nat):=if acc.1<cf R c then(cf R c,c)else acc
theorem G3{R:aF}{acc:Rat×(Nat×Nat)}{c:Nat×Nat}(h:acc.1<cf R c):dB R acc c=(cf R c,c):=if_pos h
theorem G4{R:aF}{acc:Rat×(Nat×Nat)}{c:Nat×Nat}(h:¬acc.1<cf R c):dB R acc c=acc:=if_neg h
noncomputable def d5(R:aF):Rat×(Nat×Nat):=(zX R.n).foldl (dB R) (0,(0,0))
theorem BC(R:aF):cf R (0,0)=0:=by
 unfold cf cO;have:R.asks.filter (λa=>apart (0,0) a.one a.other)=[]:=by rw[List.filter_eq_nil_iff];intro a _;have e:∀p,ki (0,0) p=false:=λp=>YZ (by show ¬(0<p/\p<=0);omega);unfold apart;rw[e,e];decide
 rw[this];show(0:Rat) / _=0;rw[aav,Rat.zero_mul]
theorem G5{n:Nat}(h:0<n):∃rest,zX n=(0,0)::rest:=by obtain⟨m,rfl⟩:∃m,n=m+1:=⟨n-1,xL⟩;unfold zX;rw[List.range_succ_eq_map,List.flatMap_cons];exact⟨_,by rw[Nat.sub_zero,List.range_succ_eq_map];rfl⟩
theorem zY(R:aF):∀(cs:List (Nat×Nat))(acc:Rat×(Nat×Nat)),acc.1<=(cs.foldl (dB R) acc).1/\(∀c∈cs,cf R c<=(cs.foldl (dB R) acc).1)/\((cs.foldl (dB R) acc)=acc∨((cs.foldl (dB R) acc).2∈cs/\(cs.foldl (dB R) acc).1=cf R (cs.foldl (dB R) acc).2))
 |[],acc=>⟨Zs,λc hc=>by simp at hc,.inl rfl⟩
 | c::cs,acc=>by
  obtain⟨h1,h2,h3⟩:=zY R cs (dB R acc c);rw[aag]
  have g1:acc.1<=(dB R acc c).1/\cf R c<=(dB R acc c).1:=by
   unfold dB;split
   . rename_i h;exact⟨ZS h,Zs⟩
   . rename_i h;exact⟨Zs,ZH.mp h⟩
  refine⟨Zx g1.1 h1,λd hd=>?_,?_⟩
  .
   rcases YK.mp hd with rfl|hd
   . exact Zx g1.2 h1
   . exact h2 d hd
  .
   rcases h3 with h3|⟨h3,h4⟩
   .
    rw[h3];unfold dB;split
    . exact .inr ⟨k5,rfl⟩
    . exact .inl rfl
   . exact .inr ⟨fI _ h3,h4⟩
theorem qe{R:aF}(hR:R.Ok):g9 R.n (d5 R).2/\(d5 R).1=cf R (d5 R).2/\(∀c,g9 R.n c->cf R c<=(d5 R).1)/\0<=(d5 R).1:=by
 have hlo:=hR.lo;obtain⟨h1,h2,h3⟩:=zY R (zX R.n) (0,(0,0));refine⟨?_,?_,λc hc=>h2 c (xN.mpr hc),h1⟩
 .
  rcases h3 with h3|⟨h3,_⟩
  . unfold d5;rw[h3];exact⟨YN _,by show 0<R.n;omega⟩
  . exact xN.mp h3
 .
  rcases h3 with h3|⟨_,h4⟩
  . unfold d5;rw[h3];exact(BC R).symm
  . exact h4
theorem xP{R:aF}(hR:R.Ok):RB 1667 (d5 R).1:=by obtain⟨h1,h2,_⟩:=qe hR;rw[h2];exact Dp hR h1
noncomputable def bu(R:aF)(ps:List Rat)(t:Nat):Rat:=aV R.n R.asks ps t / R.room t
noncomputable def BD(n:Nat)(f:Nat->Rat):Nat:=(List.range n).foldl (λb t=>if f b<f t then t else b) 0
theorem Dq(f:Nat->Rat):∀(ts:List Nat)(b:Nat),(∀t∈ts,f t<=f (ts.foldl (λb t=>if f b<f t then t else b) b))/\f b<=f (ts.foldl (λb t=>if f b<f t then t else b) b)/\(ts.foldl (λb t=>if f b<f t then t else b) b=b∨ts.foldl (λb t=>if f b<f t then t else b) b∈ts)
 |[],b=>⟨λt ht=>by simp at ht,Zs,.inl rfl⟩
 | s::ts,b=>by
  obtain⟨h1,h2,h3⟩:=Dq f ts (if f b<f s then s else b)
  rw[aag]
  have g:f b<=f (if f b<f s then s else b)/\f s<=f (if f b<f s then s else b):=by
   split
   . rename_i h;exact⟨ZS h,Zs⟩
   . rename_i h;exact⟨Zs,ZH.mp h⟩
  refine⟨λt ht=>?_,Zx g.1 h2,?_⟩
  .
   rcases YK.mp ht with rfl|ht
   . exact Zx g.2 h2
   . exact h1 t ht
  .
   rcases h3 with h3|h3
   .
    rw[h3];split
    . exact .inr k5
    . exact .inl rfl
   . exact .inr (fI _ h3)
theorem BE{n:Nat}(hn:0<n)(f:Nat->Rat):BD n f<n/\∀t,t<n->f t<=f (BD n f):=by
 obtain⟨h1,_,h3⟩:=Dq f (List.range n) 0;refine⟨?_,λt ht=>h1 t (YO.mpr ht)⟩;rcases h3 with h3|h3
 . unfold BD;rw[h3];exact hn
 . exact YO.mp h3
theorem G6(n:Nat)(f:Nat->Rat):dA (VL n f)=(List.range n).map λ(t:Nat)=>D.tup [.int (t:Int),Vp (f t)]:=by unfold dA VL;refine ZI x_ λj h1 h2=>?_;simp
theorem Dr(qs:List Rat):dA (qs.map Vp)=(List.range qs.length).map λ(t:Nat)=>D.tup [.int (t:Int),Vp (qs.getD t 0)]:=by
 unfold dA;refine ZI x_ λj h1 h2=>?_;have hj:j<qs.length:=by simpa using h1
 simp[hj]
theorem KA(R:aF):R.rooms.map Vp=VL R.n R.room:=by
 rw[GP]
 congr 1
 refine ZI (by simp[aF.n]) λj h1 h2=>?_;simp[aF.room,h1]
theorem N2(n:Nat)(f g:Nat->Rat):Bl (VL n f) (VL n g)=(List.range n).map λ(t:Nat)=>D.tup [Vp (f t),Vp (g t)]:=by unfold Bl VL;refine ZI x_ λj h1 h2=>?_;simp
theorem qf{n : Nat}{a : VJ}(h : gK n a){t : Nat}(ht : t<n) : iS n a t = ((decide (a.one <= t) != decide (a.other <= t)) != decide (a.other<a.one)) := by
  have h1 := h.one;have h2 := h.other;have hne := h.ne;unfold iS;rw[my h1 ht, my h1 h2];by_cases a1 : a.one <= t<;>by_cases a2 : a.other <= t<;>by_cases a3 : a.other<a.one<;>by_cases a4 : a.one <= a.other
  all_goals
    simp only[a1, a2, a3, a4, aad, aaa, decide_true, decide_false]
  all_goals first
    |omega
    | (first
        |(rw[Zg xL];rfl)
        |(rw[YZ xL];rfl))
theorem t5{n:Nat}{a:VJ}(h:gK n a){c:Nat×Nat}(hc:g9 n c):apart c a.one a.other=(iS n a c.1 != iS n a c.2):=by
 have h1:=hc.1;have h2:=hc.2;rw[qf h xL,qf h h2];unfold apart ki
 have e:∀p:Nat,decide (c.1<p/\p<=c.2)=(decide (p<=c.1) != decide (p<=c.2)):=λp=>by
  by_cases q1:p<=c.1<;>by_cases q2:p<=c.2
  . rw[YZ xL];simp[q1,q2]
  . omega
  . rw[Zg xL];simp[q1,q2]
  . rw[YZ xL];simp[q1,q2]
 rw[e,e];cases decide (a.one<=c.1)<;>cases decide (a.one<=c.2)<;>cases decide (a.other<=c.1)<;>cases decide (a.other<=c.2)<;>cases decide (a.other<a.one)<;>rfl
theorem KB{n:Nat}{a:VJ}(h:gK n a){c:Nat×Nat}(hc:g9 n c)(p:Rat)(ha:apart c a.one a.other=true):kd n a p c.1+kd n a p c.2=a.size:=by
 rw[t5 h hc]at ha;unfold kd
 revert ha
 cases iS n a c.1<;>cases iS n a c.2<;>intro ha
 . cases ha
 . simp only[Zd,aaa,aad];grind
 . simp only[Zd,aaa,aad];grind
 . cases ha
theorem EF{as:List VJ}{ps:List Rat}(hl:as.length<=ps.length)(c:Nat×Nat):cO as c=eX ((as.zip ps).map λx=>if apart c x.1.one x.1.other=true then x.1.size else 0):=by
 rw[N1 (λa:VJ=>if apart c a.one a.other=true then a.size else 0) hl]
 unfold cO
 induction as with
 |nil=>rfl
 | cons a as ih =>
  have ih:=ih (YH x_ hl);rw[YQ,aS,<- ih,Zu];split
  . rw[YQ,aS]
  . rw[Rat.zero_add]
theorem KC{R:aF}(hR:R.Ok){ps:List Rat}{b:Nat}(hp:xK R ps b){c:Nat×Nat}(hc:g9 R.n c):cO R.asks c<=aV R.n R.asks ps c.1+aV R.n R.asks ps c.2:=by
 have hl:=hp.len;rw[EF (ps:=ps) xL];unfold aV;rw[Do];refine N0 _ _ _ λx hx=>?_;obtain⟨h1,_⟩:=aaX (a:=x.1) (b:=x.2) hx;obtain⟨a1,a2⟩:=hp.lo x hx;have b1:=(m9 (n:=R.n) a1 a2 c.1).1;have b2:=(m9 (n:=R.n) a1 a2 c.2).1;split
 . rename_i e;rw[KB (hR.ask _ h1) hc x.2 e];exact Zs
 . grind
theorem ng{a b c:Rat}(hb:0<b):a / b<=c↔a<=c*b:=by rw[<- ZH,<- ZH,Rat.lt_div_iff hb]
theorem wM{R:aF}(hR:R.Ok){ps:List Rat}{t:Nat}(ht:t<R.n):aV R.n R.asks ps t<=bu R ps (BD R.n (bu R ps))*R.room t:=by have hlo:=hR.lo;have h:=(BE (n:=R.n) xL (bu R ps)).2 t ht;have hr:=(eY hR ht).1;exact(ng hr).mp h
theorem N4{R:aF}(hR:R.Ok){ps:List Rat}{b:Nat}(hp:xK R ps b){c:Nat×Nat}(hc:g9 R.n c):cf R c<=bu R ps (BD R.n (bu R ps)):=by
 have h1:c.1<R.n:=by have:=hc.1;have:=hc.2;omega
 have e1:=wM hR (ps:=ps) h1;have e2:=wM hR (ps:=ps) hc.2;have e3:=KC hR hp hc;have r:=(gL hR hc).1;refine(ng r).mpr ?_;unfold oS;generalize bu R ps (BD R.n (bu R ps))=T at e1 e2 ⊢;rw[Rat.mul_add];grind
noncomputable def aF.sz(R:aF)(k:Nat):Rat:=(R.asks.map (·.size)).getD k 0
theorem G7{R:aF}{k:Nat}(h:k<R.asks.length):R.sz k=R.asks[k].size:=by unfold aF.sz;rw[YC,YS,gV h];rfl
theorem qg{qs:List Rat}{k:Nat}(h:k<qs.length):qs.getD k 0=qs[k]:=by rw[YC,gV h];rfl
end L2
namespace My
open PySem L2
noncomputable def aM(R:aF)(j:Nat):VJ:=(R.asks[j]?).getD ⟨"",0,0,0⟩
noncomputable def VO(R:aF)(j t:Nat):Bool:=iS R.n (aM R j) t
noncomputable def dI(R:aF)(w:Nat->Int)(k g h:Nat):Int:=((List.range (R.asks.length-k)).map λi=>if VO R (k+i) g != VO R (k+i) h then w (k+i)else 0).sum
theorem jo{R:aF}(hR:R.Ok){j:Nat}(h:j<R.asks.length):gK R.n (aM R j):=by unfold aM;rw[gV h];exact hR.ask _ (YB h)
theorem jq{R:aF}{j:Nat}(h:j<R.asks.length):aM R j=R.asks[j]:=by unfold aM;rw[gV h];rfl
theorem qh(R:aF)(w:Nat->Int)(k g h:Nat):dI R w k g h=dI R w k h g:=by
 unfold dI
 congr 1
 refine ZD λi _=>?_;cases VO R (k+i) g<;>cases VO R (k+i) h<;>rfl
theorem qj(R:aF)(w:Nat->Int){k:Nat}(hk:k<R.asks.length)(g h:Nat):dI R w k g h=(if VO R k g != VO R k h then w k else 0)+dI R w (k+1) g h:=by
 unfold dI;have e:R.asks.length-k=(R.asks.length-(k+1))+1:=by omega
 rw[e,List.range_succ_eq_map,YQ,aaE,Y3]
 congr 2
 refine ZD λi _=>?_
 show(if VO R (k+(i+1)) g != VO R (k+(i+1)) h then w (k+(i+1))else 0)=_
 rw[show k+(i+1)=k+1+i by omega]
theorem Qx(R:aF)(w:Nat->Int)(g h:Nat):dI R w R.asks.length g h=0:=by unfold dI;rw[Nat.sub_self];rfl
theorem xQ{α:Type}(f1 f2 g1 g2:α->Int):∀(xs:List α),(∀x∈xs,f1 x+f2 x<=g1 x+g2 x)->(xs.map f1).sum+(xs.map f2).sum<=(xs.map g1).sum+(xs.map g2).sum
 |[],_=>by simp
 | x::xs,h=>by have h1:=h x k5;have h2:=xQ f1 f2 g1 g2 xs λy hy=>h y (fI _ hy);simp only[YQ,aaE];omega
theorem G8:∀(u1 u2 u3 u4 v1 v2 v3 v4 c:Bool),(u1->u2)->(u2->u3)->(u3->u4)->(v1->v2)->(v2->v3)->(v3->v4) ->
  ((((u1 != v1) != c) != ((u2 != v2) != c)).toNat+(((u3 != v3) != c) != ((u4 != v4) != c)).toNat<=(((u1 != v1) != c) != ((u3 != v3) != c)).toNat+(((u2 != v2) != c) != ((u4 != v4) != c)).toNat) /\
  ((((u1 != v1) != c) != ((u4 != v4) != c)).toNat+(((u2 != v2) != c) != ((u3 != v3) != c)).toNat<=(((u1 != v1) != c) != ((u3 != v3) != c)).toNat+(((u2 != v2) != c) != ((u4 != v4) != c)).toNat) /\
  (((u1 != v1) != c)=((u3 != v3) != c)->((u2 != v2) != c)=((u4 != v4) != c)->((u1 != v1) != c)=((u2 != v2) != c)):=by decide
theorem G9{w:Int}(hw:0<=w){b1 b2 b3 b4:Bool}(h:b1.toNat+b2.toNat<=b3.toNat+b4.toNat):(if b1 then w else 0)+(if b2 then w else 0)<=(if b3 then w else 0)+(if b4 then w else 0):=by cases b1<;>cases b2<;>cases b3<;>cases b4<;>simp at h⊢<;> omega
theorem BF{R:aF}(hR:R.Ok){j:Nat}(hj:j<R.asks.length){p1 p2 p3 p4:Nat}(h12:p1<=p2)(h23:p2<=p3)(h34:p3<=p4)(h4:p4<R.n) :
  ((VO R j p1 != VO R j p2).toNat+(VO R j p3 != VO R j p4).toNat<=(VO R j p1 != VO R j p3).toNat+(VO R j p2 != VO R j p4).toNat) /\
  ((VO R j p1 != VO R j p4).toNat+(VO R j p2 != VO R j p3).toNat<=(VO R j p1 != VO R j p3).toNat+(VO R j p2 != VO R j p4).toNat) /\
  (VO R j p1=VO R j p3->VO R j p2=VO R j p4->VO R j p1=VO R j p2):=by
 have ha:=jo hR hj;unfold VO;rw[qf ha (show p1<R.n by omega),qf ha (show p2<R.n by omega),qf ha (show p3<R.n by omega),qf ha h4];exact G8 _ _ _ _ _ _ _ _ _ (by simp only[YJ];omega) (by simp only[YJ];omega) (by simp only[YJ];omega) (by simp only[YJ];omega) (by simp only[YJ];omega) (by simp only[YJ];omega)
theorem sO{R:aF}(hR:R.Ok){w:Nat->Int}(hw:∀j,j<R.asks.length->0<=w j)(k:Nat){p1 p2 p3 p4:Nat}(h12:p1<=p2)(h23:p2<=p3)(h34:p3<=p4)(h4:p4<R.n) :
  dI R w k p1 p2+dI R w k p3 p4<=dI R w k p1 p3+dI R w k p2 p4/\dI R w k p1 p4+dI R w k p2 p3<=dI R w k p1 p3+dI R w k p2 p4:=by
 unfold dI;refine⟨xQ _ _ _ _ _ λi hi=>?_,xQ _ _ _ _ _ λi hi=>?_⟩
 all_goals
  have hj:k+i<R.asks.length:=by have:=YO.mp hi;omega
  have h:=BF hR hj h12 h23 h34 h4
 . exact G9 (hw _ hj) h.1
 . exact G9 (hw _ hj) h.2.1
def xR(R:aF)(w f:Nat->Int)(k:Nat):Prop:=∀g h,g<R.n->h<R.n->dI R w k g h<=f g+f h/\(f g+f h-dI R w k g h) % 2=0
noncomputable def t6(R:aF)(w f:Nat->Int)(k:Nat)(p:Int)(t:Nat):Int:=f t-if VO R k t then p else w k-p
theorem KD{R:aF}(hR:R.Ok){w f:Nat->Int}(hw:∀j,j<R.asks.length->0<=w j){k:Nat}(hk:k<R.asks.length)(hc:xR R w f k){p:Int}
  (hp:∀g h,g<R.n->h<R.n->VO R k g=true->VO R k h=true->g<=h->2*p<=f g+f h-dI R w (k+1) g h)
  (hq:p=w k∨∃a b,a<R.n/\b<R.n/\VO R k a=true/\VO R k b=true/\a<=b/\2*p=f a+f b-dI R w (k+1) a b):xR R w (t6 R w f k p) (k+1):=by
 have main:∀g h,g<R.n->h<R.n->g<=h->dI R w (k+1) g h<=t6 R w f k p g+t6 R w f k p h/\(t6 R w f k p g+t6 R w f k p h-dI R w (k+1) g h) % 2=0:=by
  intro g h hg hh hgh;obtain⟨c1,c2⟩:=hc g h hg hh;have st:=qj R w hk g h;unfold t6;cases eg:VO R k g<;>cases eh:VO R k h<;>rw[eg,eh]at st
  .
   simp only[bne_self_eq_false,Zd,aaa]at st ⊢;refine⟨?_,xL⟩;rcases hq with hq|⟨a,b,ha,hb,ea,eb,hab,e2⟩
   . omega
   .
    have sag:dI R w k a g=w k+dI R w (k+1) a g:=by rw[qj R w hk,ea,eg];rfl
    have sbh:dI R w k b h=w k+dI R w (k+1) b h:=by rw[qj R w hk,eb,eh];rfl
    have sah:dI R w k a h=w k+dI R w (k+1) a h:=by rw[qj R w hk,ea,eh];rfl
    have sbg:dI R w k b g=w k+dI R w (k+1) b g:=by rw[qj R w hk,eb,eg];rfl
    have cag:=(hc a g ha hg).1;have cbh:=(hc b h hb hh).1;have cah:=(hc a h ha hh).1;have cbg:=(hc b g hb hg).1;by_cases o1:b<=g
    . have:=(sO hR hw (k+1) hab o1 hgh hh).1;omega
    .
     by_cases o2:h<=a
     . have:=(sO hR hw (k+1) hgh o2 hab hb).1;rw[qh R w (k+1) g a,qh R w (k+1) h b]at this;omega
     .
      by_cases o3:g<=a
      .
       by_cases o4:b<=h
       . have:=(sO hR hw (k+1) o3 hab o4 hh).2;rw[qh R w (k+1) g b]at this;omega
       . exfalso;have:=(BF hR hk o3 (show a<=h by omega) (show h<=b by omega) hb).2.2;rw[eg,ea,eh,eb]at this;exact absurd (this rfl rfl) xp
      .
       by_cases o4:h<=b
       . have:=(sO hR hw (k+1) (show a<=g by omega) hgh o4 hb).2;rw[qh R w (k+1) g b]at this;omega
       . exfalso;have:=(BF hR hk (show a<=g by omega) (show g<=b by omega) (show b<=h by omega) hh).2.2;rw[eg,ea,eh,eb]at this;exact absurd (this rfl rfl) xp
  . simp only[Bool.false_bne,aad,aaa,Zd]at st ⊢;exact⟨xL,xL⟩
  . simp only[Bool.bne_false,aad,aaa,Zd]at st ⊢;exact⟨xL,xL⟩
  . simp only[bne_self_eq_false,Zd,aaa,aad]at st ⊢;have:=hp g h hg hh eg eh hgh;exact⟨xL,xL⟩
 intro g h hg hh;by_cases hgh:g<=h
 . exact main g h hg hh hgh
 . have:=main h g hh hg xL;rw[qh R w (k+1) h g]at this;exact⟨xL,xL⟩
noncomputable def VP(i j:Int):Int:=if j<i then j else i
theorem Ha{α:Type}(c:α->Bool)(v:α->Int):∀(xs:List α)(acc r:Int),xs.foldl (λt x=>if c x then VP t (v x)else t) acc=r ->
  r<=acc/\(∀x∈xs,c x=true->r<=v x)/\(r=acc∨∃x∈xs,c x=true/\r=v x)
 | [],acc,r,e=>by rw[List.foldl_nil]at e;subst e;exact⟨Int.le_refl _,λx hx=>by simp at hx,.inl rfl⟩
 | x::xs,acc,r,e=>by
  rw[aag]at e;obtain⟨h1,h2,h3⟩:=Ha c v xs _ r e;unfold VP at h1 h3;by_cases hc:c x=true
  .
   rw[if_pos hc]at h1 h3;by_cases hl:v x<acc
   .
    rw[if_pos hl]at h1 h3;refine⟨xL,λy hy hy'=>?_,?_⟩
    .
     rcases YK.mp hy with rfl|hy
     . exact h1
     . exact h2 y hy hy'
    .
     rcases h3 with h3|⟨y,hy,hc',e⟩
     . exact .inr ⟨x,k5,hc,h3⟩
     . exact .inr ⟨y,fI _ hy,hc',e⟩
   .
    rw[if_neg hl]at h1 h3;refine⟨xL,λy hy hy'=>?_,?_⟩
    .
     rcases YK.mp hy with rfl|hy
     . omega
     . exact h2 y hy hy'
    .
     rcases h3 with h3|⟨y,hy,hc',e⟩
     . exact .inl h3
     . exact .inr ⟨y,fI _ hy,hc',e⟩
  .
   rw[if_neg hc]at h1 h3;refine⟨h1,λy hy hy'=>?_,?_⟩
   .
    rcases YK.mp hy with rfl|hy
    . exact absurd hy' hc
    . exact h2 y hy hy'
   .
    rcases h3 with h3|⟨y,hy,hc',e⟩
    . exact .inl h3
    . exact .inr ⟨y,fI _ hy,hc',e⟩
noncomputable def VQ(R:aF)(k:Nat):List Nat:=(W.sortI ((wJ R.n (aM R k) true).map λ(t:Nat)=>(t:Int))).map Int.toNat
theorem KF(R:aF)(k:Nat):W.sortI ((wJ R.n (aM R k) true).map λ(t:Nat)=>(t:Int))=(VQ R k).map λ(t:Nat)=>(t:Int):=by
 unfold VQ;rw[Y3];have:∀x∈W.sortI ((wJ R.n (aM R k) true).map λ(t:Nat)=>(t:Int)),((λ(t:Nat)=>(t:Int)) ∘ Int.toNat) x=x:=λx hx=>by obtain⟨t,_,rfl⟩:=YU.mp ((W.sortI_perm _).mem_iff.mp hx);rfl
 exact((ZD this).trans (List.map_id' _)).symm
theorem N5{R:aF}{k t:Nat}:t∈VQ R k↔t∈wJ R.n (aM R k) true:=by
 unfold VQ;constructor
 . intro h;obtain⟨x,hx,rfl⟩:=YU.mp h;obtain⟨s,hs,rfl⟩:=YU.mp ((W.sortI_perm _).mem_iff.mp hx);exact hs
 . intro h;exact YU.mpr ⟨(t:Int),(W.sortI_perm _).mem_iff.mpr (YU.mpr ⟨t,h,rfl⟩),rfl⟩
theorem Qy{n:Nat}{a:VJ}(h:gK n a){t:Nat}(ht:t∈wJ n a true):t<n:=by have h1:=h.one;unfold wJ VM at ht;simp only[aad]at ht;obtain⟨s,_,rfl⟩:=YU.mp ht;exact aaL _ xL
theorem nh{R:aF}(hR:R.Ok){k:Nat}(hk:k<R.asks.length){t:Nat}:t∈VQ R k↔t<R.n/\VO R k t=true:=by
 have ha:=jo hR hk;rw[N5];constructor
 . intro h;have ht:=Qy ha h;have:=(kE ha true ht).mp h;exact⟨ht,by unfold VO;simpa using this⟩
 . rintro⟨ht,h⟩;refine(kE ha true ht).mpr ?_;unfold VO at h;rw[h];rfl
noncomputable def KG(R:aF)(w f:Nat->Int)(k g h:Nat):Int:=f g+f h-dI R w (k+1) g h
noncomputable def kF(R:aF)(w f:Nat->Int)(k:Nat)(acc:Int)(g:Nat)(hs:List Nat):Int:=hs.foldl (λt h=>if decide (g<=h)then VP t (KG R w f k g h)else t) acc
noncomputable def mz(R:aF)(w f:Nat->Int)(k:Nat)(gs:List Nat):Int:=gs.foldl (λt g=>kF R w f k t g (VQ R k)) (2*w k)
noncomputable def xS(R:aF)(w f:Nat->Int)(k:Nat):Int:=(mz R w f k (VQ R k)).fdiv 2
theorem Ds(R:aF)(w f:Nat->Int)(k:Nat):∀(gs:List Nat)(acc r:Int),gs.foldl (λt g=>kF R w f k t g (VQ R k)) acc=r ->
  r<=acc/\(∀g∈gs,∀h∈VQ R k,g<=h->r<=KG R w f k g h)/\(r=acc∨∃g∈gs,∃h∈VQ R k,g<=h/\r=KG R w f k g h)
 | [],acc,r,e=>by rw[List.foldl_nil]at e;subst e;exact⟨Int.le_refl _,λx hx=>by simp at hx,.inl rfl⟩
 | g::gs,acc,r,e=>by
  rw[aag]at e;obtain⟨i1,i2,i3⟩:=Ha (λh=>decide (g<=h)) (KG R w f k g) (VQ R k) acc _ rfl;obtain⟨h1,h2,h3⟩:=Ds R w f k gs _ r e;unfold kF at h1 h3
  generalize (VQ R k).foldl (λt h=>if decide (g<=h)then VP t (KG R w f k g h)else t) acc=z at *
  refine⟨xL,λy hy h hh hyh=>?_,?_⟩
  .
   rcases YK.mp hy with rfl|hy
   . have:=i2 h hh (Zg hyh);omega
   . exact h2 y hy h hh hyh
  .
   rcases h3 with h3|⟨y,hy,h,hh,c,e⟩
   .
    rcases i3 with i3|⟨h,hh,c,e⟩
    . exact .inl (h3.trans i3)
    . exact .inr ⟨g,k5,h,hh,aaw c,h3.trans e⟩
   . exact .inr ⟨y,fI _ hy,h,hh,c,e⟩
theorem Hb{R:aF}(hR:R.Ok){w f:Nat->Int}(hw:∀j,j<R.asks.length->0<=w j){k:Nat}(hk:k<R.asks.length)(hc:xR R w f k) :
  0<=xS R w f k/\xS R w f k<=w k/\xR R w (t6 R w f k (xS R w f k)) (k+1):=by
 obtain⟨h1,h2,h3⟩:=Ds R w f k (VQ R k) (2*w k) _ rfl;have e:mz R w f k (VQ R k)=(VQ R k).foldl (λt g=>kF R w f k t g (VQ R k)) (2*w k):=rfl;have hwk:=hw k hk;have hv:∀g h,g∈VQ R k->h∈VQ R k->0<=KG R w f k g h/\KG R w f k g h % 2=0:=λg h hg hh=>by obtain⟨g1,g2⟩:=(nh hR hk).mp hg;obtain⟨k1,k2⟩:=(nh hR hk).mp hh;obtain⟨c1,c2⟩:=hc g h g1 k1;have st:=qj R w hk g h;rw[g2,k2]at st;simp only[bne_self_eq_false,Zd,aaa]at st;unfold KG;exact⟨xL,xL⟩
 unfold xS;rw[e,ZP _ xp];generalize (VQ R k).foldl (λt g=>kF R w f k t g (VQ R k)) (2*w k)=r at *
 have hr:0<=r/\r % 2=0:=by
  rcases h3 with rfl|⟨g,hg,h,hh,_,rfl⟩
  . omega
  . exact hv g h hg hh
 have hp:2*(r / 2)=r:=by omega
 refine⟨xL,xL,KD hR hw hk hc (λg h hg hh eg eh hgh=>?_) ?_⟩
 . rw[hp];exact h2 g ((nh hR hk).mpr ⟨hg,eg⟩) h ((nh hR hk).mpr ⟨hh,eh⟩) hgh
 .
  rcases h3 with h3|⟨g,hg,h,hh,hgh,h3⟩
  . exact .inl xL
  . obtain⟨g1,g2⟩:=(nh hR hk).mp hg;obtain⟨k1,k2⟩:=(nh hR hk).mp hh;exact .inr ⟨g,h,g1,k1,g2,k2,hgh,by rw[hp];exact h3⟩
noncomputable def VR(R:aF)(w f:Nat->Int):Nat->Nat->Int
 |0=>f
 |k+1=>t6 R w (VR R w f k) k (xS R w (VR R w f k) k)
noncomputable def VS(R:aF)(w f:Nat->Int)(k:Nat):Int:=xS R w (VR R w f k) k
theorem Hc{R:aF}(hR:R.Ok){w f:Nat->Int}(hw:∀j,j<R.asks.length->0<=w j)(hc:xR R w f 0):∀k,k<=R.asks.length->xR R w (VR R w f k) k
 |0,_=>hc
 |k+1,h=>(Hb hR hw xL (Hc hR hw hc k xL)).2.2
theorem KH{R:aF}(hR:R.Ok){w f:Nat->Int}(hw:∀j,j<R.asks.length->0<=w j)(hc:xR R w f 0){k:Nat}(hk:k<R.asks.length):0<=VS R w f k/\VS R w f k<=w k :=
 let h:=Hb hR hw hk (Hc hR hw hc k xL)
 ⟨h.1,h.2.1⟩
theorem Qz{R:aF}(hR:R.Ok){w f:Nat->Int}(hw:∀j,j<R.asks.length->0<=w j)(hc:xR R w f 0){t:Nat}(ht:t<R.n):0<=VR R w f R.asks.length t:=by have:=(Hc hR hw hc _ (YN _) t t ht ht).1;rw[Qx]at this;omega
theorem He(R:aF)(w f:Nat->Int)(t:Nat):∀k,VR R w f k t=f t-((List.range k).map λj=>if VO R j t then VS R w f j else w j-VS R w f j).sum
 |0=>by simp[VR]
 | k+1=>by
  show VR R w f k t-(if VO R k t then xS R w (VR R w f k) k else w k-xS R w (VR R w f k) k)=_
  rw[He R w f t k,List.range_succ,Y9,List.sum_append]
  show _=f t-(_+([if VO R k t then VS R w f k else w k-VS R w f k]).sum)
  rw[aaE,List.sum_nil];unfold VS;omega
theorem BG{t b:Int}(h:b≠0):(Rat.divInt t b).den∣b.natAbs:=by rw[Rat.den_divInt,if_neg h];exact Nat.div_dvd_of_dvd (by rw[Int.gcd];exact Nat.gcd_dvd_left _ _)
theorem nj(p q:Rat):(p*q).den∣p.den*q.den:=by
 have e:p*q=Rat.divInt (p.num*q.num) ((p.den:Int)*q.den):=by rw[<- ZV,Zk,Zk]
 rw[e];have:=BG (t:=p.num*q.num) (b:=(p.den:Int)*q.den) (ZN (iy _) (iy _));rwa [Zn,YI,YI]at this
theorem KI(q:Rat):(q.num:Rat)=q*(q.den:Rat):=by
 have h:((q.den:Int):Rat)≠0:=λe=>iy q (by
  have:((q.den:Int):Rat)=((0:Int):Rat):=e
  exact Rat.intCast_inj.mp this)
 have e:q=(q.num:Rat) / ((q.den:Int):Rat):=by
  conv=>lhs;rw[<- Zk q,Rat.divInt_eq_div]
 have:=Rat.div_mul_cancel (a:=(q.num:Rat)) h;rw[<- e]at this;exact this.symm
noncomputable def VT(qs:List Rat):Nat:=qs.foldl (λb q=>Nat.lcm b q.den) 1
theorem BH:∀(qs:List Rat)(b:Nat),b∣qs.foldl (λb q=>Nat.lcm b q.den) b/\(∀q∈qs,q.den∣qs.foldl (λb q=>Nat.lcm b q.den) b)/\∀P,b∣P->(∀q∈qs,q.den∣P)->qs.foldl (λb q=>Nat.lcm b q.den) b∣P
 |[],b=>⟨Nat.dvd_refl _,λq hq=>by simp at hq,λP h _=>h⟩
 | q::qs,b=>by
  obtain⟨h1,h2,h3⟩:=BH qs (Nat.lcm b q.den);rw[aag];refine⟨ZK (Nat.dvd_lcm_left _ _) h1,λp hp=>?_,λP hb hP=>h3 P (Nat.lcm_dvd hb (hP q k5)) λp hp=>hP p (fI _ hp)⟩;rcases YK.mp hp with rfl|hp
  . exact ZK (Nat.dvd_lcm_right _ _) h1
  . exact h2 p hp
theorem Hf{qs:List Rat}{q:Rat}(h:q∈qs):q.den∣VT qs:=(BH qs 1).2.1 q h
theorem KJ{qs:List Rat}{P:Nat}(h:∀q∈qs,q.den∣P):VT qs∣P:=(BH qs 1).2.2 P (Nat.one_dvd _) h
noncomputable def mf(u:Nat)(q:Rat):Int:=q.num*((u / q.den:Nat):Int)
theorem oT{u:Nat}{q:Rat}(h:q.den∣u):((mf u q:Int):Rat)=q*(u:Rat):=by obtain⟨c,rfl⟩:=h;unfold mf;rw[Nat.mul_div_cancel_left _ (den_pos q),Rat.intCast_mul,KI,Rat.intCast_natCast,Rat.natCast_mul,Rat.mul_assoc]
theorem t7{B:Nat}{q:Rat}(h:q.den∣B):mf (2*B) q % 2=0:=by obtain⟨c,rfl⟩:=h;unfold mf;rw[show 2*(q.den*c)=q.den*(2*c) by rw[<- Nat.mul_assoc,<- Nat.mul_assoc,Nat.mul_comm 2],Nat.mul_div_cancel_left _ (den_pos q)];rw[show((2*c:Nat):Int)=2*(c:Int) by omega,<- Int.mul_assoc,Int.mul_comm q.num 2,Int.mul_assoc];exact Int.mul_emod_right _ _
theorem BI{u:Nat}{q:Rat}(h:0<=q):0<=mf u q:=Int.mul_nonneg (Rat.num_nonneg.mpr h) (Int.natCast_nonneg _)
noncomputable def mB(R:aF):List Rat:=R.asks.map (·.size)
noncomputable def vE(R:aF)(q:Rat):List Rat:=R.rooms.map λr=>q*r
noncomputable def VU(R:aF)(q:Rat):Nat:=VT (mB R++vE R q)
noncomputable def bh(R:aF)(q:Rat):Nat:=2*VU R q
noncomputable def wI(R:aF)(q:Rat)(j:Nat):Int:=mf (bh R q) (aM R j).size
noncomputable def VV(R:aF)(q:Rat)(t:Nat):Int:=mf (bh R q) (q*R.room t)
theorem xT{R:aF}{j:Nat}(h:j<R.asks.length)(q:Rat):(aM R j).size.den∣VU R q:=by refine Hf (Y1 _ (YU.mpr ⟨aM R j,?_,rfl⟩));rw[jq h];exact YB h
theorem Dt{R:aF}{t:Nat}(h:t<R.n):R.room t∈R.rooms:=by unfold aF.room;have h':t<R.rooms.length:=h;rw[YC,gV h'];exact YB h'
theorem xU{R:aF}{t:Nat}(h:t<R.n)(q:Rat):(q*R.room t).den∣VU R q :=
 Hf (YW _ (YU.mpr ⟨R.room t,Dt h,rfl⟩))
theorem Hg{a b:Nat}(h:a∣b):a∣2*b:=ZK h (aaH _ _)
theorem Hh{R:aF}{q:Rat}{j:Nat}(h:j<R.asks.length):((wI R q j:Int):Rat)=(aM R j).size*(bh R q:Rat):=oT (Hg (xT h q))
theorem Hi{R:aF}{q:Rat}{t:Nat}(h:t<R.n):((VV R q t:Int):Rat)=q*R.room t*(bh R q:Rat):=oT (Hg (xU h q))
theorem Du{R:aF}(hR:R.Ok)(q:Rat):∀j,j<R.asks.length->0<=wI R q j:=λj h=>BI (jo hR h).size
theorem sP:∀{qs:List Rat}{q:Rat},q∈qs->q.den∣wD qs
 | p::qs,q,h=>by
  show q.den∣p.den*wD qs;rcases YK.mp h with rfl|h
  . exact aax _ _
  . exact ZK (sP h) (aaH _ _)
theorem BJ:∀{qs:List Rat},(∀q∈qs,RB 60 q)->wD qs<=2^(60*qs.length)
 |[],_=>YN 1
 | q::qs,h=>by have h1:=(h q k5).2;have h2:=BJ λp hp=>h p (fI _ hp);show q.den*wD qs<=2^(60*(qs.length+1));rw[Nat.mul_add,Nat.mul_one,aaq,Nat.mul_comm (2^_)];exact aaN (ZX h1) h2
theorem Hj(R:aF)(q:Rat):0<VU R q:=by have hd:VU R q∣wD (mB R++vE R q):=KJ λp hp=>sP hp;exact Nat.pos_of_dvd_of_pos hd (oN _)
theorem hW{R:aF}(hR:R.Ok){q:Rat}(hq:RB 1750 q):0<bh R q/\bh R q<2^3750:=by
 obtain⟨D,d0,d1,hD⟩:=hR.cd
 have hd:VU R q∣D*(q.den*wD R.rooms):=by
  refine KJ λp hp=>?_;rcases YY.mp hp with hp|hp
  . obtain⟨a,ha,rfl⟩:=YU.mp hp;exact ZK (hD a ha) (aax _ _)
  . obtain⟨r,hr,rfl⟩:=YU.mp hp;refine ZK (nj q r) (ZK (Nat.mul_dvd_mul_left _ (sP hr)) (aaH _ _))
 have h1:D<=2^1240:=ZX d1;have h2:wD R.rooms<=2^720:=by refine YH (BJ λp hp=>(hR.room p hp).2) (YF xp ?_);have:R.rooms.length<=12:=hR.hi;omega
 have h3:q.den<=2^1750:=ZX hq.2;have h4:VU R q<=D*(q.den*wD R.rooms):=ZU (Nat.mul_pos d0 (Nat.mul_pos (den_pos _) (oN _))) hd;have h5:D*(q.den*wD R.rooms)<=2^1240*(2^1750*2^720):=aaN h1 (aaN h3 h2);have h6:2^1240*(2^1750*2^720)=2^3710:=by rw[<- aaq,<- aaq]
 rw[h6]at h5;have h0:=Hj R q;have h7:(2:Nat)^3711=2*2^3710:=by rw[Nat.pow_succ,Nat.mul_comm]
 have h8:(2:Nat)^3711<2^3750:=aaU xp xp;unfold bh;refine⟨xL,?_⟩;generalize (2:Nat)^3750=z at *;generalize (2:Nat)^3710=y at *;generalize (2:Nat)^3711=x at *;omega
theorem qk(R:aF):R.asks=(List.range R.asks.length).map (aM R):=by refine ZI x_ λj h1 h2=>?_;rw[Z8,aaM,jq h1]
theorem nq{α:Type}(p:α->Bool)(f:α->Rat):∀xs:List α,eX ((xs.filter p).map f)=eX (xs.map λa=>if p a then f a else 0)
 |[]=>rfl
 | x::xs=>by
  rw[Zu,YQ,aS,<- nq p f xs];cases p x
  . simp[Rat.zero_add]
  . simp[aS]
theorem zZ(R:aF)(c:Nat×Nat):cO R.asks c=eX ((List.range R.asks.length).map λj=>if apart c (aM R j).one (aM R j).other then(aM R j).size else 0):=by
 unfold cO;rw[nq]
 conv=>lhs;rw[qk R,Y3]
 rfl
theorem xV(F:Nat->Int)(G:Nat->Rat)(u:Rat):∀xs:List Nat,(∀j∈xs,((F j:Int):Rat)=G j*u)->(((xs.map F).sum:Int):Rat)=eX (xs.map G)*u
 | [],_=>by show((0:Int):Rat)=0*u;rw[Rat.zero_mul];rfl
 | x::xs,h=>by rw[YQ,aaE,Rat.intCast_add,h x k5,xV F G u xs λj hj=>h j (fI _ hj),YQ,aS,Rat.add_mul]
theorem N6{R:aF}(hR:R.Ok){q:Rat}{g h:Nat}(hc:g9 R.n (g,h)):((dI R (wI R q) 0 g h:Int):Rat)=cO R.asks (g,h)*(bh R q:Rat):=by
 rw[zZ];unfold dI;rw[Nat.sub_zero];refine xV _ _ _ _ λj hj=>?_;have hj:=YO.mp hj;rw[Nat.zero_add,t5 (jo hR hj) hc]
 show(((if VO R j g != VO R j h then wI R q j else 0:Int)):Rat)=(if VO R j g != VO R j h then(aM R j).size else 0)*_
 cases(VO R j g != VO R j h)
 . simp only[Zd,aaa];rw[Rat.zero_mul];rfl
 . simp only[aad];exact Hh hj
theorem Dv(F:Nat->Int):∀xs:List Nat,(∀j∈xs,F j % 2=0)->(xs.map F).sum % 2=0
 |[],_=>rfl
 | x::xs,h=>by have h1:=h x k5;have h2:=Dv F xs λj hj=>h j (fI _ hj);rw[YQ,aaE];omega
theorem Dw{R:aF}(hR:R.Ok){q:Rat}(hq:RB 1750 q)(hs:∀c,g9 R.n c->cf R c<=q):xR R (wI R q) (VV R q) 0:=by
 have u0:0<bh R q:=(hW hR hq).1;have uQ:(0:Rat)<(bh R q:Rat):=aaj.mpr u0
 have main:∀g h,g<R.n->h<R.n->g<=h->dI R (wI R q) 0 g h<=VV R q g+VV R q h:=by
  intro g h hg hh hgh;have hc:g9 R.n (g,h):=⟨hgh,hh⟩;refine Rat.intCast_le_intCast.mp ?_;rw[N6 hR hc,Rat.intCast_add,Hi hg,Hi hh];have h1:=hs (g,h) hc;unfold cf at h1;rw[ng (gL hR hc).1]at h1;have h2:=aat h1 (ZS uQ);have e:q*oS R (g,h)*(bh R q:Rat)=q*R.room g*(bh R q:Rat)+q*R.room h*(bh R q:Rat):=by show q*(R.room g+R.room h)*_=_;rw[Rat.mul_add,Rat.add_mul]
  rw[<- e];exact h2
 have ev:∀g h,g<R.n->h<R.n->(VV R q g+VV R q h-dI R (wI R q) 0 g h) % 2=0:=by
  intro g h hg hh;have e1:VV R q g % 2=0:=t7 (xU hg q);have e2:VV R q h % 2=0:=t7 (xU hh q)
  have e3:dI R (wI R q) 0 g h % 2=0:=by
   unfold dI;refine Dv _ _ λj hj=>?_;have hj:j<R.asks.length:=by have:=YO.mp hj;omega
   rw[Nat.zero_add];split
   . exact t7 (xT hj q)
   . rfl
  omega
 intro g h hg hh;refine⟨?_,ev g h hg hh⟩;by_cases hgh:g<=h
 . exact main g h hg hh hgh
 . have:=main h g hh hg xL;rw[qh]at this;omega
noncomputable def pI(R:aF)(q:Rat)(k:Nat):Int:=VS R (wI R q) (VV R q) k
noncomputable def vF(R:aF)(q:Rat)(k:Nat):Rat:=Rat.divInt (pI R q k) (bh R q:Int)
noncomputable def b9(R:aF)(q:Rat):List Rat:=(List.range R.asks.length).map (vF R q)
theorem kG{R:aF}(hR:R.Ok){q:Rat}(hq:RB 1750 q)(k:Nat):vF R q k*(bh R q:Rat)=((pI R q k:Int):Rat):=by have u0:0<bh R q:=(hW hR hq).1;have uQ:(0:Rat)<(bh R q:Rat):=aaj.mpr u0;unfold vF;rw[Rat.divInt_eq_div,Rat.intCast_natCast];exact Rat.div_mul_cancel (by grind)
theorem N7{R:aF}(hR:R.Ok){q:Rat}(hq:RB 1750 q)(hs:∀c,g9 R.n c->cf R c<=q){k:Nat}(hk:k<R.asks.length):0<=vF R q k/\vF R q k<=(aM R k).size:=by
 have u0:0<bh R q:=(hW hR hq).1;have uQ:(0:Rat)<(bh R q:Rat):=aaj.mpr u0;obtain⟨h1,h2⟩:=KH hR (Du hR q) (Dw hR hq hs) hk;constructor
 . refine Rat.le_of_mul_le_mul_right (c:=(bh R q:Rat)) ?_ uQ;rw[Rat.zero_mul,kG hR hq];exact Rat.intCast_nonneg.mpr h1
 . refine Rat.le_of_mul_le_mul_right (c:=(bh R q:Rat)) ?_ uQ;rw[kG hR hq,<- Hh hk];exact Rat.intCast_le_intCast.mpr h2
theorem zG{α β:Type}(f:Nat->α)(g:Nat->β)(m:Nat):((List.range m).map f).zip ((List.range m).map g)=(List.range m).map λk=>(f k,g k):=by rw[List.zip_map']
theorem Hl{R:aF}(hR:R.Ok){q:Rat}(hq:RB 1750 q)(hs:∀c,g9 R.n c->cf R c<=q){t:Nat}(ht:t<R.n):aV R.n R.asks (b9 R q) t<=q*R.room t:=by
 have u0:0<bh R q:=(hW hR hq).1;have uQ:(0:Rat)<(bh R q:Rat):=aaj.mpr u0;have he:=Qz hR (Du hR q) (Dw hR hq hs) ht;rw[He]at he;refine Rat.le_of_mul_le_mul_right (c:=(bh R q:Rat)) ?_ uQ;rw[<- Hi ht]
 have e:aV R.n R.asks (b9 R q) t=eX ((List.range R.asks.length).map λk=>kd R.n (aM R k) (vF R q k) t):=by
  unfold aV b9
  conv=>lhs;rw[qk R]
  rw[YD,Y0,zG,Y3];rfl
 rw[e,<- xV (λj=>if VO R j t then pI R q j else wI R q j-pI R q j) _ _ _ λj hj=>?_]
 .
  refine Rat.intCast_le_intCast.mpr ?_
  have:((List.range R.asks.length).map λj=>if VO R j t then pI R q j else wI R q j-pI R q j).sum<=VV R q t:=by unfold pI;omega
  exact this
 .
  have hj:=YO.mp hj;unfold kd
  show((if VO R j t then pI R q j else wI R q j-pI R q j:Int):Rat)=(if VO R j t then vF R q j else(aM R j).size-vF R q j)*_
  cases VO R j t
  . simp only[Zd,aaa];rw[Rat.intCast_sub,Hh hj,<- kG hR hq];grind
  . simp only[aad];exact(kG hR hq j).symm
noncomputable def t8(n:Nat)(f:Nat->Int):List D:=(List.range n).map λ(t:Nat)=>D.int (f t)
theorem xW{n:Nat}{f:Nat->Int}{t:Nat}(h:t<n):UJ (t8 n f) (t:Int)=some (.int (f t)):=by refine jb ?_;unfold t8;rw[YS,ZE h];rfl
theorem N8{a b:Nat}(h:0<b):((a:Int).fdiv (Int.gcd a b:Int))*(b:Int)=((Nat.lcm a b:Nat):Int):=by rw[ZP _ xL];show((a:Int) / ((Nat.gcd a b:Nat):Int))*(b:Int)=_;rw[<- Int.natCast_ediv,<- Int.natCast_mul,Nat.div_mul_right_comm (Nat.gcd_dvd_left a b)];rfl
theorem QA(R:aF)(q:Rat):(mB R).map (λp=>D.int (mf (bh R q) p))=t8 R.asks.length (wI R q):=by
 unfold mB t8
 conv=>lhs;rw[qk R,Y3,Y3]
 rfl
theorem BK(R:aF):R.rooms=(List.range R.n).map R.room:=by refine ZI (by simp[aF.n]) λj h1 h2=>?_;rw[Z8,aaM];unfold aF.room;rw[YC,gV h1];rfl
theorem QB(R:aF)(q:Rat):(vE R q).map (λp=>D.int (mf (bh R q) p))=t8 R.n (VV R q):=by
 unfold vE t8
 conv=>lhs;rw[BK R,Y3,Y3]
 rfl
theorem jr(p:Nat->Bool)(g:Nat->Int):∀xs:List Nat,xs.filterMap (λi=>if p i=true then some (D.int (g i))else none)=((xs.filter p).map g).map D.int
 |[]=>rfl
 | x::xs=>by
  rw[ZF,Zu];cases e:p x
  . simp[jr p g xs]
  . simp[jr p g xs]
theorem t9(p:Nat->Bool)(g:Nat->Int):∀xs:List Nat,((xs.filter p).map g).sum=(xs.map λi=>if p i=true then g i else 0).sum
 |[]=>rfl
 | x::xs=>by
  rw[Zu,YQ,aaE,<- t9 p g xs];cases e:p x
  . simp
  . simp
theorem Dx(R:aF)(q:Rat):(b9 R q).length=R.asks.length:=by unfold b9;simp
noncomputable def Dy(f:Nat->Rat)(ts:List Nat):Rat:=ts.foldl (λb t=>if b<f t then f t else b) 0
theorem z4(f:Nat->Rat):∀(ts:List Nat)(acc r:Rat),ts.foldl (λb t=>if b<f t then f t else b) acc=r->acc<=r/\(∀t∈ts,f t<=r)/\(r=acc∨∃t∈ts,r=f t)
 | [],acc,r,e=>by rw[List.foldl_nil]at e;subst e;exact⟨Zs,λt ht=>by simp at ht,.inl rfl⟩
 | t::ts,acc,r,e=>by
  rw[aag]at e;obtain⟨h1,h2,h3⟩:=z4 f ts _ r e;by_cases hl:acc<f t
  .
   rw[if_pos hl]at h1 h3;refine⟨by grind,λs hs=>?_,?_⟩
   .
    rcases YK.mp hs with rfl|hs
    . exact h1
    . exact h2 s hs
   .
    rcases h3 with h3|⟨s,hs,h3⟩
    . exact .inr ⟨t,k5,h3⟩
    . exact .inr ⟨s,fI _ hs,h3⟩
  .
   rw[if_neg hl]at h1 h3;refine⟨h1,λs hs=>?_,?_⟩
   .
    rcases YK.mp hs with rfl|hs
    . grind
    . exact h2 s hs
   .
    rcases h3 with h3|⟨s,hs,h3⟩
    . exact .inl h3
    . exact .inr ⟨s,fI _ hs,h3⟩
noncomputable def TB(R:aF)(ps:List Rat):Rat:=Dy (bu R ps) (List.range R.n)
end My
set_option exponentiation.threshold 2000
namespace L2
open PySem
noncomputable def y1(w:Bool):D:=.str (eO w)
theorem qm{g:Tg}{b:W Fl}{k4:Fl->Ev->Prop}{enc:Nat->D}(n:Nat)(I:Nat->Ev->Prop)(Z:Ev)(h0:I 0 Z)
  (step:∀j Z,j<n->I j Z->∀Q:Fl->Ev->Prop,(∀Z',I (j+1) Z'->Q .nx Z')->(∀Z',I (j+1) Z'->Q .ct Z')->(∀Z',k4 .nx Z'->Q .bk Z')->(∀r Z',k4 (.rt r) Z'->Q (.rt r) Z')->g (enc j) Z λZ1=>b Z1 Q)
  (done:∀Z,I n Z->k4 .nx Z):ck g b ((List.range n).map enc) Z k4:=by
 refine fB _ (λj Z=>I j Z) Z h0 ?_ ?_
 .
  intro j x Z hj hI Q h1 h2 h3 h4;have hj':j<n:=by have:=(YA.mp hj).1;simpa using this
  have ex:x=enc j:=by rw[YS,ZE hj']at hj;exact(Y5 hj).symm
  subst ex;exact step j Z hj' hI Q h1 h2 h3 h4
 .
  intro Z hI;have e:((List.range n).map enc).length=n:=by simp
  rw[e]at hI;exact done Z hI
end L2
set_option exponentiation.threshold 5000
namespace My
open PySem L2
structure LB (R:aF) (ps:List Rat):Prop where
 p:∀p∈ps,RB 4100 p
 ld:∀k t,RB 4100 (aV R.n (R.asks.take k) (ps.take k) t)
 st:∀(k:Nat)(h1:k<R.asks.length)(h2:k<ps.length)(t:Nat),RB 4100 (kd R.n R.asks[k] ps[k] t)
 sm:∀t,Qw ((R.asks.zip ps).map λx=>kd R.n x.1 x.2 t)
theorem LB.all{R:aF}{ps:List Rat}(h:LB R ps)(hl:ps.length=R.asks.length)(t:Nat):RB 4100 (aV R.n R.asks ps t):=by have:=h.ld R.asks.length t;rwa [Y8 (YN _),Y8 xL]at this
theorem RO{R:aF}(hR:R.Ok){q:Rat}(hq:RB 1750 q){j:Nat}(h:j<R.asks.length):(wI R q j).natAbs<2^4050:=by
 have h1:=(hW hR hq).2;have h2:=zO (V:=2^300) (jo hR h).size (jo hR h).lt;unfold wI mf;rw[Zn,YI];have h3:(aM R j).size.den*(bh R q / (aM R j).size.den)<=bh R q:=Nat.mul_div_le _ _;have e:(2:Nat)^4050=2^300*2^3750:=by rw[<- aaq]
 have h4:(aM R j).size.num.natAbs*(bh R q / (aM R j).size.den)<=2^300*bh R q:=by refine YH (Nat.mul_le_mul_right _ (ZX h2)) ?_;rw[Nat.mul_assoc];exact aap _ h3
 rw[e];exact YL h4 (Nat.mul_lt_mul_of_pos_left h1 (Nat.pow_pos xp))
theorem N9{R:aF}{q:Rat}{k:Nat}(h:k<(b9 R q).length):(b9 R q)[k]=vF R q k:=by simp[b9]
noncomputable def zI(R:aF)(q:Rat)(t j:Nat):Int:=if iS R.n (aM R j) t then pI R q j else wI R q j-pI R q j
theorem Oa{R:aF}(hR:R.Ok){q:Rat}(hq:RB 1750 q)(hs:∀c,g9 R.n c->cf R c<=q):∀k,k<(b9 R q).length->0<=(b9 R q).getD k 0/\(b9 R q).getD k 0<=R.sz k:=λk hk=>by
 have hk':k<R.asks.length:=by rw[Dx]at hk;exact hk
 rw[qg hk,N9,G7 hk',<- jq hk'];exact N7 hR hq hs hk'
noncomputable def BL:D->Bool
 |.tup [.int i,.int j]=>decide (1<=j) && decide ((Int.gcd i j:Int)=1)
 |_=>false
theorem Hm{d:D}(h:∀i j,d≠.tup [.int i,.int j]):BL d=false:=by
 unfold BL;split
 . rename_i i j;exact absurd rfl (h i j)
 . rfl
mutual
noncomputable def Ft:D->Nat
 |.tup xs=>max xs.length (BM xs)
 |.lst xs=>max xs.length (BM xs)
 |_=>0
noncomputable def BM:List D->Nat
 |[]=>0
 |x::xs=>max (Ft x) (BM xs)
end
theorem Dz{n:Nat}:∀{xs:List D},(∀x∈xs,Ft x<=n)->BM xs<=n
 |[],_=>aae _
 | y::ys,h=>by simp only[BM];have:=h y k5;have:=Dz (xs:=ys) λx hx=>h x (fI _ hx);omega
theorem QC{n:Nat}(h:n<=99):n<=sizeLine:=YH h xp
theorem Ob(q:Rat):Ft (Vp q)=2:=by simp[Vp,Ft,BM]
theorem KL(a:VJ):Ft (j3 a)=4:=by have:=Ob a.size;simp[j3,Ft,BM,this]
theorem Hn{as:List VJ}{n:Nat}(h:as.length<=n)(h2:4<=n):Ft (.lst (as.map j3))<=n:=by
 simp only[Ft,YD];have:=Dz (n:=4) (xs:=as.map j3) λx hx=>by obtain⟨q,_,rfl⟩:=YU.mp hx;rw[KL];exact YN _
 omega
structure VW (n:Nat) (d:D):Prop where
 dep:C5 d<n
 wid:Ft d<=99
theorem Oc(q:Rat):C5 (Vp q)=1:=by simp[Vp,C5,Bq]
theorem KM(a:VJ):C5 (j3 a)=2:=by have:=Oc a.size;simp[j3,C5,Bq,this]
theorem KN{xs:List D}{n:Nat}(h:∀x∈xs,C5 x<=n):C5 (.lst xs)<=n+1:=by simp only[C5];have:=C6 h;omega
theorem Ho(as:List VJ):C5 (.lst (as.map j3))<=3:=KN λx hx=>by obtain⟨q,_,rfl⟩:=YU.mp hx;rw[KM];exact YN _
theorem VW.asks{as:List VJ}(h:as.length<=99):VW 4 (.lst (as.map j3)):=⟨by have:=Ho as;omega,Hn h xp⟩
def VX(m:Nat)(R:aF):Prop:=R.rooms.length<=12/\R.asks.length<=20/\(∀q∈R.rooms,RB m q)/\(∀a∈R.asks,RB m a.size)/\∀a∈R.asks,PyData.strOk a.nm=true
end My
set_option exponentiation.threshold 5000
namespace My
open PySem L2
def Tw(R:aF)(ps:List Rat):Prop:=∀k,k<R.asks.length->∃v:Int,0<=v/\v<=12/\ps.getD k 0=R.sz k*Rat.divInt v 12
end My
set_option exponentiation.threshold 5000
namespace My
open PySem L2
structure TC where
 top:Rat
 strict:Bool
 elder:List (Option Bool)
 most:Nat
noncomputable def eZ(ws:List Bool):D:=.lst (ws.map λw=>D.str (eO w))
noncomputable def QD(x:Option Bool×Option Bool):Bool:=match x.1 with
 |none=>false
 |some a=>x.2 == some (!a)
noncomputable def RP(el ws:List (Option Bool)):List Nat:=((el.zip ws).zipIdx.filter λx=>QD x.1).map (·.2)
theorem Od{a b:Bool}:eO a=eO b↔a=b:=by cases a<;>cases b<;>simp[eO]<;>decide
noncomputable def RQ(st:Bool)(load bound:Int):Bool:=decide (bound<load) ||(st && decide (load=bound))
noncomputable def fS(as:List VJ)(ws:List Bool):List Rat:=(as.zip ws).map λx=>if x.2 then x.1.size else 0
end My
set_option exponentiation.threshold 5000
namespace My
open PySem L2
noncomputable def SC:Nat->(Nat->Int)->Int
 |0,_=>0
 |n+1,f=>SC n f+f n
inductive Tr where
 |turned
 |cut (c:Nat×Nat)
 |split (k:Nat) (a b:Tr)
noncomputable def VY(R:aF)(fixed:List (Option Bool))(c:Nat×Nat)(i:Nat):Int:=match fixed.getD i none with
 |none=>if apart c (aM R i).one (aM R i).other then 1 else 0
 |some b=>(if VO R i c.1 == b then 1 else 0)+if VO R i c.2 == b then 1 else 0
noncomputable def RR(R:aF)(q:Rat)(fixed:List (Option Bool))(c:Nat×Nat):Int:=SC R.asks.length λi=>wI R q i*VY R fixed c i
def Tr.Ok(R:aF)(w:TC):List (Option Bool)->Tr->Prop
 |fixed,.turned=>w.most<(RP w.elder fixed).length
 |fixed,.cut c=>g9 R.n c/\RQ w.strict (RR R w.top fixed c) (VV R w.top c.1+VV R w.top c.2)=true
 |fixed,.split k a b=>k<fixed.length/\fixed.getD k none=none/\Tr.Ok R w (fixed.set k (some true)) a/\Tr.Ok R w (fixed.set k (some false)) b
end My
set_option exponentiation.threshold 5000
namespace My
open PySem L2
noncomputable def Tr.size:Tr->Nat
 |.turned=>1
 |.cut _=>1
 |.split _ a b=>a.size+b.size+1
end My
set_option exponentiation.threshold 5000
namespace My
open PySem L2
noncomputable abbrev Md(R:aF)(ws:List Bool):Nat->Rat:=bu R (fS R.asks ws)
noncomputable def AZ(R:aF)(ws:List Bool):Rat:=Md R ws (BD R.n (Md R ws))
theorem Hq{R:aF}(hR:R.Ok)(ws:List Bool):BD R.n (Md R ws)<R.n:=(BE (by have:=hR.lo;omega) (Md R ws)).1
end My
set_option exponentiation.threshold 5000
namespace My
open PySem L2
def VZ(R:aF):Prop:=∀a∈R.asks,RB 61 a.size
theorem DA{as:List VJ}{ws:List Bool}{x:VJ×Rat}(h:x∈as.zip (fS as ws)):x.1∈as/\(x.2=x.1.size∨x.2=0):=by
 obtain⟨k,hk,rfl⟩:=aaR.mp h;have h1:k<as.length:=by simp at hk;omega
 refine⟨x_,?_⟩;simp only[ZJ,fS,Z8];split
 . exact .inl rfl
 . exact .inr rfl
theorem xX{n:Nat}{x:VJ×Rat}{b:Nat}(hs:RB b x.1.size)(hx:x.2=x.1.size∨x.2=0)(hb:1<=b)(t:Nat):RB b (kd n x.1 x.2 t):=by
 have z:RB b (0:Rat):=RB.zero.mono hb;unfold kd;rcases hx with h|h<;>rw[h]<;>split
 . exact hs
 . rw[Rat.sub_self];exact z
 . exact z
 . rw[show x.1.size-0=x.1.size by grind];exact hs
theorem KO(as:List VJ)(ws:List Bool)(k:Nat):(fS as ws).take k=fS (as.take k) (ws.take k):=by unfold fS;rw[<- List.map_take,List.zip,List.take_zipWith]
def SB(R:aF):Prop:=∃b,1<=b/\(b+1)*R.asks.length<=1340/\∀a∈R.asks,RB b a.size
theorem kH{n b:Nat}{as:List VJ}(hb:1<=b)(ha:∀a∈as,RB b a.size)(hl:(b+1)*as.length<=1340)(ws:List Bool)(t:Nat):RB 1341 (aV n as (fS as ws) t):=by
 refine(RB.sum (b:=b) _ λq hq=>?_).mono ?_
 . obtain⟨x,hx,rfl⟩:=YU.mp hq;obtain⟨h1,h2⟩:=DA hx;exact xX (ha _ h1) h2 hb t
 . rw[YD,Zh];have h1:min as.length (fS as ws).length<=as.length:=Nat.min_le_left _ _;have h2:=aap (b+1) h1;omega
theorem LB.waysB{R:aF}(hT:SB R)(ws:List Bool):LB R (fS R.asks ws):=by
 obtain⟨b,hb,hl,hT⟩:=hT
 have b1:R.asks≠[]->b<=1340:=λz=>by
  have h1:1<=R.asks.length:=by cases e:R.asks with|nil=>exact absurd e z|cons a as=>simp
  have:=aap (b+1) h1;omega
 refine⟨λp hp=>?_,λk t=>?_,λk h1 h2 t=>?_,λt=>.inl ?_⟩
 .
  obtain⟨x,hx,rfl⟩:=YU.mp hp;obtain⟨h1,_⟩:=aaX (a:=x.1) (b:=x.2) hx;have:=b1 (List.ne_nil_of_mem h1);split
  . exact(hT _ h1).mono xL
  . exact RB.zero.mono xp
 . rw[KO];refine(kH hb (λa ha=>hT a (List.mem_of_mem_take ha)) ?_ _ t).mono xp;rw[Zz];have h1:min k R.asks.length<=R.asks.length:=Nat.min_le_right _ _;have h2:=aap (b+1) h1;omega
 . have hm:(R.asks[k],(fS R.asks ws)[k])∈R.asks.zip (fS R.asks ws):=aaR.mpr ⟨k,by rw[Zh];omega,by rw[ZJ]⟩;obtain⟨g1,g2⟩:=DA hm;have:=b1 (List.ne_nil_of_mem (YB h1));exact(xX (x:=(R.asks[k],(fS R.asks ws)[k])) (hT _ g1) g2 hb t).mono xL
 .
  refine YL (GZ (b:=b) _ λq hq=>?_) (aaU xp ?_)
  . obtain⟨x,hx,rfl⟩:=YU.mp hq;obtain⟨h1,h2⟩:=DA hx;exact xX (hT _ h1) h2 hb t
  . rw[YD,Zh];have h1:min R.asks.length (fS R.asks ws).length<=R.asks.length:=Nat.min_le_left _ _;have h2:=aap b h1;have h3:b*R.asks.length<=(b+1)*R.asks.length:=Nat.mul_le_mul_right _ xL;omega
theorem sQ{R:aF}(hR:R.Ok)(hT:SB R)(ws:List Bool):RB 1401 (AZ R ws):=by obtain⟨b,hb,hl,hT⟩:=hT;have ht:=Hq hR ws;obtain⟨r1,r2⟩:=eY hR ht;unfold AZ Md bu;exact((kH hb hT hl ws _).div r2 (by grind)).mono xp
theorem sR{as:List VJ}{ws:List Bool}(h:ws.length=as.length):(fS as ws).length=as.length:=by simp[fS,h]
theorem EG(n:Nat)(a:VJ)(as:List VJ)(w:Bool)(ws:List Bool)(t:Nat):aV n (a::as) (fS (a::as) (w::ws)) t=(if iS n a t == w then a.size else 0)+aV n as (fS as ws) t:=by
 unfold aV fS;rw[ZR,YQ,ZR,YQ,aS]
 congr 1
 unfold kd;cases iS n a t<;>cases w<;>simp<;>grind
theorem Hr(n:Nat)(as:List VJ)(t:Nat):aV n as (fS as []) t=0:=by simp[aV,fS,eX]
theorem EH(n:Nat)(ws:List Bool)(t:Nat):aV n [] (fS [] ws) t=0:=by simp[aV,fS,eX]
theorem DB{n t:Nat}:∀{as:List VJ}{ws:List Bool},(∀a∈as,0<=a.size)->0<=aV n as (fS as ws) t
 |[],ws,h=>by rw[EH];exact Zs
 |a::as,[],h=>by rw[Hr];exact Zs
 | a::as,w::ws,h=>by rw[EG];have h1:=DB (n:=n) (t:=t) (ws:=ws) λb hb=>h b (fI _ hb);have h2:=h a k5;split<;>grind
end My
set_option exponentiation.threshold 5000
namespace My
open PySem L2
theorem z5:∀(as bs:List Bool),PyData.eqvAll (gy (as.map λw=>D.str (eO w))) (gy (bs.map λw=>D.str (eO w)))=decide (as=bs)
 |[],[]=>by simp[xu]
 |[],b::bs=>by simp[gy,PyData.eqvAll]
 |a::as,[]=>by simp[gy,PyData.eqvAll]
 | a::as,b::bs=>by rw[YQ,YQ,kB,z5 as bs,Gk];simp[Od]
theorem DC(as bs:List Bool):Vf (eZ as) (eZ bs)=decide (as=bs):=by unfold eZ;rw[Nj,z5]
theorem DD(ws:List Bool):Vq 1 (eZ ws)=true:=by unfold eZ;simp only[Vq];exact xD ws λw _=>by cases w<;>decide +kernel
theorem lW(ws:List Bool):gE (eZ ws):=ji (DD ws) xp
end My
set_option exponentiation.threshold 5000
namespace My
open PySem L2
theorem KP{R:aF}(hR:R.Ok){ps:List Rat}(h0:∀t,t<R.n->0<=bu R ps t):TB R ps=bu R ps (BD R.n (bu R ps)):=by
 have lo:=hR.lo;obtain⟨i1,i2⟩:=BE (show 0<R.n by omega) (bu R ps);obtain⟨_,h2,h3⟩:=z4 (bu R ps) (List.range R.n) 0 _ rfl;refine Rat.le_antisymm ?_ (h2 _ (YO.mpr i1));rcases h3 with h3|⟨t,ht,h3⟩
 . show Dy _ _<=_;unfold Dy;rw[h3];exact h0 _ i1
 . show Dy _ _<=_;unfold Dy;rw[h3];exact i2 t (YO.mp ht)
end My
set_option exponentiation.threshold 5000
namespace My
open PySem L2
end My
set_option exponentiation.threshold 5000
namespace My
open PySem L2
structure gn where
 k:Nat
 kw:Bool
 l:Nat
 lw:Bool
 am:Rat
noncomputable def V0(s:gn):D:=.tup [.int (s.k:Int),.str (eO s.kw),.int (s.l:Int),.str (eO s.lw),Vp s.am]
noncomputable def V1(R:aF)(ps:List Rat)(k:Nat)(w:Bool):Rat:=if w then R.sz k-ps.getD k 0 else ps.getD k 0
noncomputable def V2(R:aF)(ps:List Rat)(k:Nat)(kw:Bool)(l:Nat)(lw:Bool):Rat:=if V1 R ps l lw<V1 R ps k kw then V1 R ps l lw else V1 R ps k kw
noncomputable def V3(p:Rat)(w:Bool)(am:Rat):Rat:=if w then p+am else p-am
noncomputable def V4(ps:List Rat)(s:gn):List Rat:=(ps.set s.k (V3 (ps.getD s.k 0) s.kw s.am)).set s.l (V3 ((ps.set s.k (V3 (ps.getD s.k 0) s.kw s.am)).getD s.l 0) s.lw s.am)
noncomputable def ke(n:Nat)(a:VJ)(aw:Bool)(b:VJ)(bw:Bool):Bool:=!((wJ n a aw).any λt=>decide (t∈wJ n b bw))
noncomputable def bW(n:Nat)(a b:VJ):Bool×Bool:=if ke n a true b true then(true,true)else if ke n a true b false then(true,false)else if ke n a false b true then(false,true)else(false,false)
structure d6 (R:aF) (ps:List Rat):Prop where
 ok:R.Ok
 len:ps.length=R.asks.length
 lo:∀k,k<ps.length->0<=ps.getD k 0/\ps.getD k 0<=R.sz k
 cd:∃D:Nat,0<D/\D<2^1500/\(∀a∈R.asks,a.size.den∣D)/\∀p∈ps,p.den∣D
theorem nu{R:aF}{k:Nat}(h:k<R.asks.length):R.sz k=R.asks[k].size:=by unfold aF.sz;rw[YC,YS,gV h];rfl
theorem bP{ps:List Rat}{k:Nat}(h:k<ps.length):ps.getD k 0=ps[k]:=by rw[YC,gV h];rfl
theorem V5{a b c:Rat}(h1:a<=b)(h2:b<c):a<c:=by rw[<- Rat.not_le]at h2 ⊢;exact λz=>h2 (Zx z h1)
theorem KQ{q:Rat}{D:Nat}(h0:0<=q)(h1:q<((2^300:Nat):Rat))(d0:0<D)(d1:D<2^1500)(hd:q.den∣D):RB 1800 q:=RB.of_val (v:=300) (d:=1500) h0 (YL (ZU d0 hd) d1) h1
theorem d6.sz_rb{R:aF}{ps:List Rat}(h:d6 R ps){k:Nat}(hk:k<ps.length):RB 1800 (R.sz k):=by
 have hk':k<R.asks.length:=by rw[<- h.len];exact hk
 rw[nu hk'];exact(h.ok.rb (YB hk')).mono xp
theorem d6.rb{R:aF}{ps:List Rat}(h:d6 R ps){k:Nat}(hk:k<ps.length):RB 1800 (ps.getD k 0):=by
 obtain⟨D,d0,d1,_,hd⟩:=h.cd;have hk':k<R.asks.length:=by rw[<- h.len];exact hk
 obtain⟨h1,h2⟩:=h.lo k hk;refine KQ h1 (V5 h2 ?_) d0 d1 (hd _ (by rw[bP hk];exact YB hk));rw[nu hk'];exact(h.ok.ask _ (YB hk')).lt
theorem xY{p q:Rat}{D:Nat}(d0:0<D)(h1:p.den∣D)(h2:q.den∣D):(p+q).den∣D:=by
 have e:p+q=Rat.divInt (mf D p+mf D q) (D:Int):=by
  have hD:((D:Int):Rat)≠0:=by have:(0:Rat)<(D:Rat):=aaj.mpr d0;intro z;rw[show((D:Int):Rat)=(D:Rat)from rfl]at z;rw[z]at this;exact absurd this xp
  rw[Rat.divInt_eq_div,Rat.intCast_add,oT h1,oT h2,<- Rat.add_mul,aav,Rat.mul_assoc,show((D:Nat):Rat)=((D:Int):Rat)from rfl,Rat.mul_inv_cancel _ hD,Rat.mul_one]
 rw[e];have:=BG (t:=mf D p+mf D q) (b:=(D:Int)) xL;simpa using this
theorem qn{p q:Rat}{D:Nat}(d0:0<D)(h1:p.den∣D)(h2:q.den∣D):(p-q).den∣D:=by rw[ZY];exact xY d0 h1 (by rw[Rat.neg_den];exact h2)
theorem d6.ns{R:aF}{ps:List Rat}(h:d6 R ps){k:Nat}(hk:k<ps.length)(w:Bool):0<=V1 R ps k w/\V1 R ps k w<=R.sz k:=by
 obtain⟨h1,h2⟩:=h.lo k hk;unfold V1;cases w
 . exact⟨h1,h2⟩
 .
  have h3:=(Rat.le_iff_sub_nonneg _ _).mp h2;refine⟨h3,?_⟩;show R.sz k-ps.getD k 0<=R.sz k;rw[Rat.le_iff_sub_nonneg];have:R.sz k-(R.sz k-ps.getD k 0)=ps.getD k 0:=by rw[ZY,ZY,Rat.neg_add,Rat.neg_neg,<- Rat.add_assoc,Rat.add_neg_cancel,Rat.zero_add]
  rw[this];exact h1
noncomputable def rA(a:VJ):Nat:=min a.one a.other
noncomputable def gp(a:VJ):Nat:=max a.one a.other
noncomputable def V6(a:VJ):Bool:=decide (a.one<a.other)
theorem wN{n:Nat}{a:VJ}(h:gK n a){t:Nat}(ht:t<n):(iS n a t == V6 a)=true↔rA a<=t/\t<gp a:=by
 have h1:=h.one;have h2:=h.other;have h3:=h.ne;unfold iS rA gp V6;rw[my h1 ht,my h1 h2];rw[beq_iff_eq,aas];by_cases h4:a.one<a.other
 .
  rw[if_pos (show a.one<=a.other by omega)];by_cases h5:a.one<=t
  . rw[if_pos h5];omega
  . rw[if_neg h5];omega
 .
  rw[if_neg (show ¬a.one<=a.other by omega)];by_cases h5:a.one<=t
  . rw[if_pos h5];omega
  . rw[if_neg h5];omega
theorem xZ{n:Nat}{a b:VJ}(ha:gK n a)(hb:gK n b){aw bw:Bool}(h:∀t,t<n->(iS n a t == aw)=true->(iS n b t == bw)=true->False):ke n a aw b bw=true:=by
 unfold ke;rw[Bool.not_eq_true',List.any_eq_false];intro t ht;rw[decide_eq_true_iff];intro hb'
 have htn:t<n:=by
  cases aw
  . exact((Dk ha.one ha.other ha.ne).mp ht).1
  . exact((Mc ha.one).mp ht).1
 exact h t htn ((kE ha aw htn).mp ht) ((kE hb bw htn).mp hb')
theorem Hs{n:Nat}{a b:VJ}(ha:gK n a)(hb:gK n b){aw bw:Bool}(h:ke n a aw b bw=true):∀t,t∈wJ n a aw->t∉wJ n b bw:=by unfold ke at h;rw[Bool.not_eq_true',List.any_eq_false]at h;intro t ht hb';exact h t ht (by simpa using hb')
theorem z6{n:Nat}{a:VJ}(h:gK n a){t:Nat}(ht:t<n):(iS n a t == !V6 a)=true↔¬(rA a<=t/\t<gp a):=by rw[<- wN h ht];cases iS n a t<;>cases V6 a<;>simp
noncomputable def Rf(a b:VJ):Bool:=decide (rA a<rA b/\rA b<gp a/\gp a<gp b) ||decide (rA b<rA a/\rA a<gp b/\gp b<gp a)
theorem KR{n:Nat}{a b:VJ}(ha:gK n a)(hb:gK n b)(h:Rf a b=false):ke n a (bW n a b).1 b (bW n a b).2=true:=by
 have ex:∃aw bw,ke n a aw b bw=true:=by
  unfold Rf at h;rw[Bool.or_eq_false_iff,aak,aak]at h;have la:rA a<gp a:=by have:=ha.ne;unfold rA gp;omega
  have lb:rA b<gp b:=by have:=hb.ne;unfold rA gp;omega
  by_cases h1:gp a<=rA b∨gp b<=rA a
  . refine⟨V6 a,V6 b,xZ ha hb λt ht p q=>?_⟩;have p:=(wN ha ht).mp p;have q:=(wN hb ht).mp q;omega
  .
   by_cases h2:rA b<=rA a/\gp a<=gp b
   . refine⟨V6 a,!V6 b,xZ ha hb λt ht p q=>?_⟩;have p:=(wN ha ht).mp p;have q:=(z6 hb ht).mp q;omega
   . refine⟨!V6 a,V6 b,xZ ha hb λt ht p q=>?_⟩;have p:=(z6 ha ht).mp p;have q:=(wN hb ht).mp q;omega
 unfold bW;split
 . assumption
 .
  split
  . assumption
  .
   split
   . assumption
   .
    obtain⟨aw,bw,e⟩:=ex
    cases aw<;>cases bw<;>first|exact e|contradiction
noncomputable def V7(R:aF)(ps:List Rat)(k l:Nat)(w:Bool×Bool):gn:=⟨k,w.1,l,w.2,V2 R ps k w.1 l w.2⟩
theorem d6.ms{R:aF}{ps:List Rat}(h:d6 R ps){k l:Nat}(hk:k<ps.length)(hl:l<ps.length)(kw lw:Bool):0<=V2 R ps k kw l lw/\V2 R ps k kw l lw<=V1 R ps k kw/\V2 R ps k kw l lw<=V1 R ps l lw/\(V2 R ps k kw l lw=V1 R ps k kw∨V2 R ps k kw l lw=V1 R ps l lw):=by
 have h1:=h.ns hk kw;have h2:=h.ns hl lw;unfold V2;split
 . rename_i hlt;exact⟨h2.1,ZS hlt,Zs,.inr rfl⟩
 . rename_i hlt;exact⟨h1.1,Zs,ZH.mp hlt,.inl rfl⟩
noncomputable def V8(R:aF)(k l:Nat):Bool:=Rf (aM R k) (aM R l)
noncomputable def V9(cr:Nat->Nat->Bool):List Nat->Option (Nat×Nat)
 |[]=>none
 | k::ks=>match ks.find? (λl=>!cr k l)with
  |some l=>some (k,l)
  |none=>V9 cr ks
noncomputable def Ht:Option (Nat×Nat)->D
 |none=>.non
 |some (k,l)=>.tup [.int (k:Int),.int (l:Int)]
theorem cG{R:aF}{k:Nat}(h:k<R.asks.length):aM R k=R.asks[k]:=by unfold aM;rw[gV h];rfl
end My
set_option exponentiation.threshold 5000
namespace My
open PySem L2
noncomputable def Wa(R:aF)(ps:List Rat)(k:Nat):Bool:=decide (0<ps.getD k 0) && decide (ps.getD k 0<R.sz k)
noncomputable def Wb(R:aF)(ps:List Rat):List Nat:=(List.range ps.length).filter (Wa R ps)
theorem iY{R:aF}{ps:List Rat}{k:Nat}(h:k∈Wb R ps):k<ps.length/\Wa R ps k=true:=by obtain⟨h1,h2⟩:=Zv.mp h;exact⟨YO.mp h1,h2⟩
theorem wO(R:aF)(ps:List Rat):(Wb R ps).Pairwise (· < ·):=List.Pairwise.filter _ List.pairwise_lt_range
theorem sS{cr:Nat->Nat->Bool}:∀{ks:List Nat}{k l:Nat},ks.Pairwise (· < ·)->V9 cr ks=some (k,l)->k∈ks/\l∈ks/\k<l/\cr k l=false
 |[],_,_,_,h=>by cases h
 | a::ks,k,l,hp,h=>by
  obtain⟨p1,p2⟩:=List.pairwise_cons.mp hp;unfold V9 at h
  cases e:ks.find? (λl=>!cr a l)with
  | none =>
   rw[e]at h;obtain⟨h1,h2,h3,h4⟩:=sS p2 h;exact⟨fI _ h1,fI _ h2,h3,h4⟩
  | some m =>
   rw[e]at h;cases h;have hm:=List.mem_of_find?_eq_some e;have hc:=List.find?_some e;exact⟨k5,fI _ hm,p1 _ hm,by simpa using hc⟩
theorem DE{cr:Nat->Nat->Bool}:∀{ks:List Nat},ks.Pairwise (· < ·)->V9 cr ks=none->∀k l,k∈ks->l∈ks->k<l->cr k l=true
 |[],_,_,_,_,hk,_,_=>by cases hk
 | a::ks,hp,h,k,l,hk,hl,hkl=>by
  obtain⟨p1,p2⟩:=List.pairwise_cons.mp hp;unfold V9 at h
  cases e:ks.find? (λl=>!cr a l)with
  |some m=>rw[e]at h;cases h
  | none =>
   rw[e]at h;rcases YK.mp hk with ek|hk'
   .
    subst ek;rcases YK.mp hl with el|hl'
    . omega
    . have:=List.find?_eq_none.mp e l hl';simpa using this
   .
    rcases YK.mp hl with el|hl'
    . have:=p1 k hk';omega
    . exact DE p2 h k l hk' hl' hkl
theorem Oe(p s:Rat):p+(s-p)=s:=by rw[ZY,<- Rat.add_assoc,Rat.add_comm p s,Rat.add_assoc,Rat.add_neg_cancel,Rat.add_zero]
theorem Hu(p:Rat):p-p=0:=by rw[ZY,Rat.add_neg_cancel]
theorem Of{p a:Rat}(h:a<=p):0<=p-a:=(Rat.le_iff_sub_nonneg _ _).mp h
theorem KS{p a:Rat}(h:0<=a):p-a<=p:=by rw[Rat.le_iff_sub_nonneg,ZY,ZY,Rat.neg_add,Rat.neg_neg,<- Rat.add_assoc,Rat.add_neg_cancel,Rat.zero_add];exact h
theorem Og{p a:Rat}(h1:0<=p)(h2:0<=a):0<=p+a:=Rat.add_nonneg h1 h2
structure QE (R:aF) (ps:List Rat) (s:gn):Prop where
 k:s.k<ps.length
 l:s.l<ps.length
 kl:s.k≠s.l
 nn:0<=s.am
 kn:s.am<=V1 R ps s.k s.kw
 ln:s.am<=V1 R ps s.l s.lw
theorem kI(ps:List Rat)(s:gn):(V4 ps s).length=ps.length:=by simp[V4]
theorem z7{ps:List Rat}{s:gn}(hk:s.k<ps.length)(hl:s.l<ps.length)(hkl:s.k≠s.l)(i:Nat):(V4 ps s).getD i 0=if i=s.k then V3 (ps.getD s.k 0) s.kw s.am else if i=s.l then V3 (ps.getD s.l 0) s.lw s.am else ps.getD i 0:=by
 have e0:(ps.set s.k (V3 (ps.getD s.k 0) s.kw s.am)).getD s.l 0=ps.getD s.l 0:=by rw[YC,Zr hkl,<- YC]
 unfold V4;rw[e0,YC];by_cases h1:i=s.k
 . subst h1;rw[if_pos rfl,Zr (Z4 hkl),Zq hk];rfl
 .
  rw[if_neg h1];by_cases h2:i=s.l
  . subst h2;rw[if_pos rfl,Zq (by simpa using hl)];rfl
  . rw[if_neg h2,Zr (Z4 h2),Zr (Z4 h1),YC]
theorem DF{R:aF}{ps:List Rat}{k:Nat}{w:Bool}{am:Rat}(h1:0<=ps.getD k 0)(h2:ps.getD k 0<=R.sz k)(a0:0<=am)(a1:am<=V1 R ps k w):0<=V3 (ps.getD k 0) w am/\V3 (ps.getD k 0) w am<=R.sz k:=by
 unfold V1 at a1;unfold V3
 cases w with
 | true =>
  simp only[aad]at a1 ⊢;refine⟨Og h1 a0,?_⟩;have:=(Rat.add_le_add_left (c:=ps.getD k 0)).mpr a1;rwa [Oe]at this
 | false =>
  simp only[Zd,aaa]at a1 ⊢;exact⟨Of a1,Zx (KS a0) h2⟩
theorem d6.slid{R:aF}{ps:List Rat}{s:gn}(h:d6 R ps)(hs:QE R ps s)(hd:∀D:Nat,0<D->(∀a∈R.asks,a.size.den∣D)->(∀p∈ps,p.den∣D)->s.am.den∣D):d6 R (V4 ps s):=by
 refine⟨h.ok,by rw[kI];exact h.len,λi hi=>?_,?_⟩
 .
  rw[kI]at hi;rw[z7 hs.k hs.l hs.kl];split
  . rename_i e;subst e;exact DF (h.lo _ hs.k).1 (h.lo _ hs.k).2 hs.nn hs.kn
  .
   split
   . rename_i e;subst e;exact DF (h.lo _ hs.l).1 (h.lo _ hs.l).2 hs.nn hs.ln
   . exact h.lo i hi
 .
  obtain⟨D,d0,d1,da,dp⟩:=h.cd;have dm:=hd D d0 da dp;have dk:∀k,k<ps.length->(ps.getD k 0).den∣D:=λk hk=>dp _ (by rw[bP hk];exact YB hk)
  have db:∀(k:Nat)(w:Bool),k<ps.length->(V3 (ps.getD k 0) w s.am).den∣D:=λk w hk=>by
   unfold V3;cases w
   . exact qn d0 (dk k hk) dm
   . exact xY d0 (dk k hk) dm
  refine⟨D,d0,d1,da,λp hp=>?_⟩;obtain⟨i,hi,rfl⟩:=ZM hp;rw[<- bP hi,z7 hs.k hs.l hs.kl];rw[kI]at hi;split
  . exact db _ _ hs.k
  .
   split
   . exact db _ _ hs.l
   . exact dk i hi
theorem DG{R:aF}{ps:List Rat}(h:d6 R ps){k:Nat}(hk:k<ps.length)(w:Bool){D:Nat}(d0:0<D)(da:∀a∈R.asks,a.size.den∣D)(dp:∀p∈ps,p.den∣D):(V1 R ps k w).den∣D:=by
 have hk':k<R.asks.length:=by rw[<- h.len];exact hk
 have e1:(ps.getD k 0).den∣D:=dp _ (by rw[bP hk];exact YB hk);unfold V1;cases w
 . exact e1
 . refine qn d0 ?_ e1;rw[nu hk'];exact da _ (YB hk')
theorem Me{R:aF}{ps:List Rat}(h:d6 R ps){k l:Nat}(hk:k<ps.length)(hl:l<ps.length)(hkl:k≠l)(w:Bool×Bool):QE R ps (V7 R ps k l w):=by obtain⟨m1,m2,m3,_⟩:=h.ms hk hl w.1 w.2;exact⟨hk,hl,hkl,m1,m2,m3⟩
theorem Mf{R:aF}{ps:List Rat}(h:d6 R ps){k l:Nat}(hk:k<ps.length)(hl:l<ps.length)(hkl:k≠l)(w:Bool×Bool):d6 R (V4 ps (V7 R ps k l w)):=by
 refine h.slid (Me h hk hl hkl w) λD d0 da dp=>?_;show(V2 R ps k w.1 l w.2).den∣D;rcases(h.ms hk hl w.1 w.2).2.2.2 with e|e
 . rw[e];exact DG h hk _ d0 da dp
 . rw[e];exact DG h hl _ d0 da dp
theorem Mg{R:aF}{ps:List Rat}{k:Nat}{w:Bool}:¬(0<V3 (ps.getD k 0) w (V1 R ps k w)/\V3 (ps.getD k 0) w (V1 R ps k w)<R.sz k):=by
 unfold V3 V1
 cases w with
 | true =>
  simp only[aad];rw[Oe];exact λz=>Rat.lt_irrefl z.2
 | false =>
  simp only[Zd,aaa];rw[Hu];exact λz=>Rat.lt_irrefl z.1
theorem BN{p q:Nat->Bool}:∀{l:List Nat}{x:Nat},(∀y∈l,q y=true->p y=true)->x∈l->p x=true->q x=false->(l.filter q).length<(l.filter p).length
 |[],_,_,hx,_,_=>by cases hx
 | a::l,x,h,hx,hp,hq=>by
  have le:∀m:List Nat,(∀y∈m,q y=true->p y=true)->(m.filter q).length<=(m.filter p).length:=λm hm=>by
   induction m with
   |nil=>exact YN _
   | cons b m ih =>
    have ih:=ih λy hy=>hm y (fI _ hy);have hb:=hm b k5;rw[Zu,Zu];cases e1:q b<;>cases e2:p b<;>simp_all<;>omega
  have h':∀y∈l,q y=true->p y=true:=λy hy=>h y (fI _ hy);rw[Zu,Zu];rcases YK.mp hx with rfl|hx
  . rw[hp,hq];have:=le l h';simp;omega
  . have ih:=BN h' hx hp hq;have hb:=h a k5;cases e1:q a<;>cases e2:p a<;>simp_all<;>omega
theorem DH{R:aF}{ps:List Rat}(h:d6 R ps){k l:Nat}(hk:k∈Wb R ps)(hl:l∈Wb R ps)(hkl:k≠l)(w:Bool×Bool):(Wb R (V4 ps (V7 R ps k l w))).length<(Wb R ps).length:=by
 obtain⟨hk1,hk2⟩:=iY hk;obtain⟨hl1,hl2⟩:=iY hl;have at_:=z7 (s:=V7 R ps k l w) hk1 hl1 hkl;unfold Wb;rw[kI]
 have up:∀y∈List.range ps.length,Wa R (V4 ps (V7 R ps k l w)) y=true->Wa R ps y=true:=λy _ hy=>by
  unfold Wa at hy ⊢;rw[at_]at hy;by_cases e1:y=k
  . subst e1;exact hk2
  .
   by_cases e2:y=l
   . subst e2;exact hl2
   . rw[if_neg (show ¬y=(V7 R ps k l w).k from e1),if_neg (show ¬y=(V7 R ps k l w).l from e2)]at hy;exact hy
 rcases(h.ms hk1 hl1 w.1 w.2).2.2.2 with e|e
 . refine BN up (YO.mpr hk1) hk2 ?_;unfold Wa;rw[at_,if_pos (show k=(V7 R ps k l w).k from rfl)];show(decide (0<V3 (ps.getD k 0) w.1 (V2 R ps k w.1 l w.2)) && decide (V3 (ps.getD k 0) w.1 (V2 R ps k w.1 l w.2)<R.sz k))=false;rw[e];have:=Mg (R:=R) (ps:=ps) (k:=k) (w:=w.1);rw[<- Bool.not_eq_true,YV,YJ,YJ];exact this
 . refine BN up (YO.mpr hl1) hl2 ?_;unfold Wa;rw[at_,if_neg (show ¬l=(V7 R ps k l w).k from Z4 hkl),if_pos (show l=(V7 R ps k l w).l from rfl)];show(decide (0<V3 (ps.getD l 0) w.2 (V2 R ps k w.1 l w.2)) && decide (V3 (ps.getD l 0) w.2 (V2 R ps k w.1 l w.2)<R.sz l))=false;rw[e];have:=Mg (R:=R) (ps:=ps) (k:=l) (w:=w.2);rw[<- Bool.not_eq_true,YV,YJ,YJ];exact this
noncomputable def ya(R:aF)(ps:List Rat):Option gn:=(V9 (V8 R) (Wb R ps)).map λp=>V7 R ps p.1 p.2 (bW R.n (aM R p.1) (aM R p.2))
noncomputable def vG(R:aF):Nat->List Rat->List gn
 |0,_=>[]
 | n+1,ps=>match ya R ps with
  |none=>[]
  |some s=>s::vG R n (V4 ps s)
theorem z8{R:aF}{ps:List Rat}(h:d6 R ps){k:Nat}(hk:k<ps.length)(w:Bool):RB 3700 (V1 R ps k w):=by
 unfold V1;cases w
 . exact(h.rb hk).mono xp
 . exact((h.sz_rb hk).sub (h.rb hk)).mono xp
end My
set_option exponentiation.threshold 5000
namespace My
open PySem L2
noncomputable def Vl(R:aF)(ps:List Rat)(s:gn):Bool:=!decide (s.k=s.l) && (ke R.n (aM R s.k) s.kw (aM R s.l) s.lw && (decide (0<s.am) && !decide (V2 R ps s.k s.kw s.l s.lw<s.am)))
theorem Mh{R:aF}{ps:List Rat}{k:Nat}(h:Wa R ps k=true)(w:Bool):0<V1 R ps k w:=by
 unfold Wa at h;rw[YV,YJ,YJ]at h;unfold V1;cases w
 . exact h.1
 . show 0<R.sz k-ps.getD k 0;have:=h.2;rw[<- Rat.not_le]at this ⊢;intro z;apply this;have:=(Rat.add_le_add_left (c:=ps.getD k 0)).mpr z;rw[Oe,Rat.add_zero]at this;exact this
theorem jt{R:aF}{ps:List Rat}{s:gn}(h:d6 R ps)(e:ya R ps=some s):QE R ps s/\Vl R ps s=true/\d6 R (V4 ps s)/\(Wb R (V4 ps s)).length<(Wb R ps).length/\RB 4000 s.am/\s.k∈Wb R ps/\s.l∈Wb R ps:=by
 unfold ya at e
 cases e1:V9 (V8 R) (Wb R ps)with
 |none=>rw[e1]at e;cases e
 | some p =>
  obtain⟨k,l⟩:=p;rw[e1]at e;obtain⟨hk,hl,hkl,hc⟩:=sS (wO R ps) e1;obtain⟨hk1,hk2⟩:=iY hk;obtain⟨hl1,hl2⟩:=iY hl;have hk':k<R.asks.length:=by rw[<- h.len];exact hk1
  have hl':l<R.asks.length:=by rw[<- h.len];exact hl1
  have hkl':k≠l:=by omega
  have ee:V7 R ps k l (bW R.n (aM R k) (aM R l))=s:=Y5 e;subst ee;refine⟨Me h hk1 hl1 hkl' _,?_,Mf h hk1 hl1 hkl' _,DH h hk hl hkl' _,?_,hk,hl⟩
  .
   unfold Vl;show(!decide (k=l) && (ke R.n (aM R k) (bW R.n (aM R k) (aM R l)).1 (aM R l) (bW R.n (aM R k) (aM R l)).2 && (decide (0<V2 R ps k (bW R.n (aM R k) (aM R l)).1 l (bW R.n (aM R k) (aM R l)).2) && !decide (V2 R ps k (bW R.n (aM R k) (aM R l)).1 l (bW R.n (aM R k) (aM R l)).2<V2 R ps k (bW R.n (aM R k) (aM R l)).1 l (bW R.n (aM R k) (aM R l)).2))))=true;rw[YZ hkl',KR (by rw[cG hk'];exact h.ok.ask _ (YB hk')) (by rw[cG hl'];exact h.ok.ask _ (YB hl')) hc,YZ (Rat.lt_irrefl),Zg]
   . rfl
   .
    rcases(h.ms hk1 hl1 (bW R.n (aM R k) (aM R l)).1 (bW R.n (aM R k) (aM R l)).2).2.2.2 with z|z
    . rw[z];exact Mh hk2 _
    . rw[z];exact Mh hl2 _
  .
   show RB 4000 (V2 R ps k _ l _);rcases(h.ms hk1 hl1 (bW R.n (aM R k) (aM R l)).1 (bW R.n (aM R k) (aM R l)).2).2.2.2 with z|z
   . rw[z];exact(z8 h hk1 _).mono xp
   . rw[z];exact(z8 h hl1 _).mono xp
theorem KU{R:aF}{ps:List Rat}(e:ya R ps=none):V9 (V8 R) (Wb R ps)=none:=by
 unfold ya at e
 cases e1:V9 (V8 R) (Wb R ps)with
 |none=>rfl
 |some p=>rw[e1]at e;cases e
theorem Hv{R:aF}:∀(m:Nat)(ps:List Rat),d6 R ps->(vG R m ps).length<=(Wb R ps).length
 |0,_,_=>aae _
 | m+1,ps,h=>by
  unfold vG
  cases e:ya R ps with
  |none=>exact aae _
  | some s =>
   obtain⟨_,_,h2,h3,_⟩:=jt h e;have:=Hv m (V4 ps s) h2;simp only[Zy];omega
end My
set_option exponentiation.threshold 5000
namespace My
open PySem L2
end My
set_option exponentiation.threshold 5000
namespace My
open PySem L2
theorem KW{n V W:Nat}(h:n*W<V):(n:Rat)*(W:Rat)<(V:Rat):=by
 have h1:(((n*W:Nat):Int):Rat)<((V:Int):Rat):=Rat.intCast_lt_intCast.mpr xL;have h2:(((n*W:Nat):Int):Rat)=(n:Rat)*(W:Rat):=by push_cast;rfl
 rw[<- h2];exact h1
theorem Hw(R:aF):dA (R.asks.map j3)=(List.range R.asks.length).map λ(k:Nat)=>D.tup [.int (k:Int),j3 (aM R k)]:=by
 apply List.ext_getElem?;intro k;by_cases hk:k<R.asks.length
 . rw[YS,ZE hk];simp[dA,hk,aM]
 . rw[List.getElem?_eq_none (by simp[dA];omega),List.getElem?_eq_none (by simp;omega)]
theorem RS(i j:Nat):(W.sortI [(i:Int),(j:Int)])=[((min i j:Nat):Int),((max i j:Nat):Int)]:=by
 show(if(j:Int)<i then[(j:Int),(i:Int)]else[(i:Int),(j:Int)])=_
 by_cases h:j<i
 . rw[if_pos (by omega),Nat.min_eq_right xL,Nat.max_eq_left xL]
 . rw[if_neg (by omega),Nat.min_eq_left xL,Nat.max_eq_right xL]
theorem QF{R:aF}{ps:List Rat}(h:d6 R ps):(∀k t,RB 1900 (aV R.n (R.asks.take k) (ps.take k) t))/\∀t,RB 1900 (aV R.n R.asks ps t):=by
 obtain⟨D,d0,d1,da,dp⟩:=h.cd
 have key:∀k t,RB 1900 (aV R.n (R.asks.take k) (ps.take k) t):=λk t=>by
  unfold aV;have hz:∀ x∈(R.asks.take k).zip (ps.take k),∃ i,i < R.asks.length/\x=(R.asks.getD i ⟨"",0,0,0⟩,ps.getD i 0):=λx hx=>by obtain⟨i,hi,rfl⟩:=ZM hx;rw[Zh,Zz,Zz,h.len]at hi;refine⟨i,xL,?_⟩;rw[ZJ,List.getElem_take,List.getElem_take,YC,gV xL,bP (by rw[h.len];omega)];rfl
  have hs:∀x∈(R.asks.take k).zip (ps.take k),0<=kd R.n x.1 x.2 t/\kd R.n x.1 x.2 t<((2^300:Nat):Rat)/\(kd R.n x.1 x.2 t).den∣D:=λx hx=>by
   obtain⟨i,hi,rfl⟩:=hz x hx;obtain⟨l0,l1⟩:=h.lo i (by rw[h.len];exact hi);rw[nu hi]at l1;have e:R.asks.getD i ⟨"",0,0,0⟩=R.asks[i]:=by rw[YC,gV hi]; rfl
   rw[e];have hd1:=da _ (YB hi);have hd2:(ps.getD i 0).den∣D:=by rw[bP (by rw[h.len];exact hi)];exact dp _ (YB _)
   have b:=m9 (n:=R.n) (a:=R.asks[i]) l0 l1 t;refine⟨b.1,V5 b.2 (h.ok.ask _ (YB hi)).lt,?_⟩;show(kd R.n R.asks[i] (ps.getD i 0) t).den∣D;unfold kd;split
   . exact hd2
   . exact qn d0 hd1 hd2
  refine RB.of_val (v:=400) (d:=1500) (jn _ _ λx hx=>(hs x hx).1) ?_ ?_
  . refine YL (ZU d0 (xO d0 _ λq hq=>?_)) d1;obtain⟨x,hx,rfl⟩:=YU.mp hq;exact(hs x hx).2.2
  .
   refine Rat.not_le.mp λhge=>?_;have h1:=BB (V:=((2^300:Nat):Rat)) xp (((R.asks.take k).zip (ps.take k)).map λx=>kd R.n x.1 x.2 t) λq hq=>by obtain⟨x,hx,rfl⟩:=YU.mp hq;exact(hs x hx).2.1
   rw[YD]at h1
   have h2:=KW (n:=((R.asks.take k).zip (ps.take k)).length) (V:=2^400) (W:=2^300) (by
    have:=h.ok.few;have hl:((R.asks.take k).zip (ps.take k)).length<=20:=by rw[Zh,Zz];omega
    exact YL (Nat.mul_le_mul_right _ hl) xp)
   exact absurd (Zx hge h1) (Rat.not_le.mpr h2)
 refine⟨key,λt=>?_⟩;have:=key R.asks.length t;rwa [Y8 (YN _),Y8 (by rw[h.len];exact YN _)]at this
noncomputable def Fu:D->Bool
 |.str z=>decide (z=Str.ofString "on") ||decide (z=Str.ofString "back")
 |_=>false
theorem Oh(z:Str):UT (.str z) [.str (Str.ofString "on"),.str (Str.ofString "back")]=Fu (.str z):=by
 have e1:(Str.ofString "on" == z)=decide (z=Str.ofString "on"):=by rw[Bool.eq_iff_iff,beq_iff_eq,decide_eq_true_iff]; exact eq_comm
 have e2:(Str.ofString "back" == z)=decide (z=Str.ofString "back"):=by rw[Bool.eq_iff_iff,beq_iff_eq,decide_eq_true_iff]; exact eq_comm
 show(Str.ofString "on" == z ||(Str.ofString "back" == z ||false))=_;rw[e1,e2,Bool.or_false];rfl
structure Pt (n:Nat) (d:D):Prop where
 dep:C5 d<=n
 wid:Ft d<=99
 same:C8 (20+n) d=true
theorem Pt.int(i:Int):Pt 0 (.int i):=⟨by simp[C5],by simp[Ft],by simp[C8]⟩
theorem Pt.str(z:Str):Pt 0 (.str z):=⟨by simp[C5],by simp[Ft],by simp[C8]⟩
end My
set_option exponentiation.threshold 5000
namespace My
open PySem L2
noncomputable def ua:D->Option Bool
 |.str z=>if z=eO true then some true else if z=eO false then some false else none
 |_=>none
noncomputable def ub:D->Option Nat
 |.int i=>if 0<=i then some i.toNat else none
 |_=>none
noncomputable def z9(d:D):Option Rat:=match d with
 |.tup [.int i,.int j]=>if BL (.tup [.int i,.int j])then some (Rat.divInt i j)else none
 |_=>none
noncomputable def A0:D->Option gn
 | .tup [a,b,c,d,e]=>match ub a,ua b,ub c,ua d,z9 e with
  |some k,some kw,some l,some lw,some am=>some ⟨k,kw,l,lw,am⟩
  |_,_,_,_,_=>none
 |_=>none
theorem DI{d:D}{w:Bool}(h:ua d=some w):d=.str (eO w):=by
 unfold ua at h;split at h
 .
  split at h
  . rename_i e;cases h;rw[e]
  .
   split at h
   . rename_i e;cases h;rw[e]
   . cases h
 . cases h
theorem Hx(w:Bool):ua (.str (eO w))=some w:=by cases w<;>decide +kernel
theorem Hy(d:D):Fu d=(ua d).isSome:=by
 unfold Fu ua
 cases d with
 | str z =>
  have e1:eO true=Str.ofString "on":=rfl;have e2:eO false=Str.ofString "back":=rfl;rw[<- e1,<- e2];by_cases h1:z=eO true
  . simp[h1]
  .
   by_cases h2:z=eO false
   . simp[h1,h2];split<;>rfl
   . simp[h1,h2]
 |_=>rfl
theorem DJ{d:D}{k:Nat}(h:ub d=some k):d=.int (k:Int):=by
 unfold ub at h;split at h
 .
  split at h
  .
   cases h
   congr 1
   omega
  . cases h
 . cases h
theorem Hz(k:Nat):ub (.int (k:Int))=some k:=by
 show(if(0:Int)<=(k:Int)then some ((k:Int)).toNat else none)=_
 rw[if_pos (by omega)];rfl
theorem KY{d:D}{q:Rat}(h:z9 d=some q):d=Vp q:=by
 unfold z9 at h;split at h
 .
  rename_i i j;split at h
  .
   rename_i e;cases h;show D.tup [.int i,.int j]=_;have e':(decide (1<=j) && decide ((Int.gcd i j:Int)=1))=true:=e;rw[YV,YJ,YJ]at e';obtain⟨h1,h2⟩:=e';have h3:Nat.gcd i.natAbs j.natAbs=1:=Int.ofNat_inj.mp h2;obtain⟨m,rfl⟩:=ZO (show 0<=j by omega);have hm:m≠0:=by omega
   have h3':i.natAbs.Coprime m:=by rw[YI]at h3;exact h3
   have em:Rat.divInt i (m:Int)=Rat.mk' i m hm h3':=by rw[Rat.mk_eq_divInt]
   rw[em];rfl
  . cases h
 . cases h
theorem KZ(q:Rat):BL (Vp q)=true:=by unfold Vp BL;have h1:=q.den_pos;have h2:=q.reduced;unfold Nat.Coprime at h2;rw[YV,YJ,YJ];refine⟨xL,?_⟩;show((Nat.gcd q.num.natAbs ((q.den:Int)).natAbs:Nat):Int)=1;rw[YI,h2];rfl
theorem K0(q:Rat):z9 (Vp q)=some q:=by
 show(if BL (.tup [.int q.num,.int (q.den:Int)])then some (Rat.divInt q.num (q.den:Int))else none)=_
 rw[show BL (.tup [.int q.num,.int (q.den:Int)])=true from KZ q,if_pos rfl,Zk]
theorem Oi(d:D):BL d=(z9 d).isSome:=by
 by_cases h:∃i j,d=.tup [.int i,.int j]
 .
  obtain⟨i,j,rfl⟩:=h
  show _=(if BL (.tup [.int i,.int j])then some (Rat.divInt i j)else none).isSome
  cases e:BL (.tup [.int i,.int j])<;>rfl
 .
  have hn:∀i j,d≠.tup [.int i,.int j]:=λi j e=>h ⟨i,j,e⟩;rw[Hm hn];unfold z9;split
  . exact absurd rfl (hn _ _)
  . rfl
theorem yb(s:gn):A0 (V0 s)=some s:=by simp only[V0,A0,Hz,Hx,K0]
theorem HD{d:D}{s:gn}(h:A0 d=some s):d=V0 s:=by
 unfold A0 at h;split at h
 .
  split at h
  . rename_i h1 h2 h3 h4 h5;cases h;rw[DJ h1,DI h2,DJ h3,DI h4,KY h5];rfl
  . cases h
 . cases h
noncomputable def vH(n:Nat)(d:D):Bool:=match A0 d with
 |some s=>decide (s.k<n) && decide (s.l<n)
 |none=>false
noncomputable def uc(d:D)(n:Int):Bool:=match d with
 |.int i=>decide (0<=i/\i<n)
 |_=>false
theorem DK(d:D)(n:Nat):uc d (n:Int)=match ub d with|some k=>decide (k<n)|none=>false:=by
 unfold uc ub
 cases d with
 | int i =>
  by_cases h:0<=i
  . simp only[h,aad,true_and];rw[aas];omega
  . simp only[h,aaa,false_and,decide_false]
 |_=>rfl
theorem Oj(n:Nat)(a b c d e:D):vH n (.tup [a,b,c,d,e])=(uc a n && (uc c n && (Fu b && (Fu d && BL e)))):=by
 rw[DK,DK,Hy,Hy,Oi];unfold vH
 have e0:A0 (.tup [a,b,c,d,e])=match ub a,ua b,ub c,ua d,z9 e with
  |some k,some kw,some l,some lw,some am=>some ⟨k,kw,l,lw,am⟩
  |_,_,_,_,_=>none:=rfl
 rw[e0];cases ub a<;>cases ua b<;>cases ub c<;>cases ua d<;>cases z9 e<;>simp
theorem HE{n:Nat}{xs:List D}(h:xs.length≠5):vH n (.tup xs)=false:=by
 have:A0 (.tup xs)=none:=by
  unfold A0;split
  . rename_i eq;cases eq;exact absurd rfl h
  . rfl
 unfold vH;rw[this]
theorem K1{n:Nat}{d:D}(h:∀xs,d≠.tup xs):vH n d=false:=by
 have:A0 d=none:=by
  unfold A0;split
  . exact absurd rfl (h _)
  . rfl
 unfold vH;rw[this]
theorem TF{xs:List D}(h:xs.length=5):∃a b c d e,xs=[a,b,c,d,e]:=by
 match xs,h with
 |[a,b,c,d,e],_=>exact⟨a,b,c,d,e,rfl⟩
noncomputable def Wc(R:aF)(ps:List Rat)(d:D):Bool:=match A0 d with
 |some s=>decide (s.k<ps.length) && (decide (s.l<ps.length) && Vl R ps s)
 |none=>false
theorem Mi{R:aF}{ps:List Rat}{s:gn}(hk:s.k<ps.length)(hl:s.l<ps.length):Wc R ps (V0 s)=Vl R ps s:=by unfold Wc;rw[yb];simp[hk,hl]
theorem QG{R:aF}{ps:List Rat}{d:D}(h:Wc R ps d=true):∃s,d=V0 s/\s.k<ps.length/\s.l<ps.length/\Vl R ps s=true:=by
 unfold Wc at h;split at h
 . rename_i s e;rw[YV,YV,YJ,YJ]at h;exact⟨s,HD e,h.1,h.2.1,h.2.2⟩
 . cases h
end My
set_option exponentiation.threshold 5000
namespace My
open PySem L2
noncomputable def Wd(b:Bool)(q:Rat):Rat:=if b then q else -q
theorem DL{n t:Nat}:∀(as:List VJ)(ps:List Rat)(k:Nat)(x:Rat)(h1:k<as.length)(h2:k<ps.length),aV n as (ps.set k x) t+kd n as[k] ps[k] t=aV n as ps t+kd n as[k] x t
 | a::as,p::ps,0,x,_,_=>by unfold aV;simp only[List.set_cons_zero,ZR,YQ,aS,List.getElem_cons_zero];grind
 | a::as,p::ps,k+1,x,h1,h2=>by have ih:=DL (n:=n) (t:=t) as ps k x (by simpa using h1) (by simpa using h2);unfold aV at ih ⊢;simp only[List.set_cons_succ,ZR,YQ,aS,List.getElem_cons_succ];grind
 |[],_,k,_,h1,_=>by simp at h1
 |_::_,[],k,_,_,h2=>by simp at h2
theorem Ol(n:Nat)(a:VJ)(p:Rat)(w:Bool)(am:Rat)(t:Nat):kd n a (V3 p w am) t=kd n a p t+Wd (iS n a t == w) am:=by unfold kd V3 Wd;cases iS n a t<;>cases w<;>simp<;>grind
theorem HF{n t:Nat}{as:List VJ}{ps:List Rat}{k:Nat}(h1:k<as.length)(h2:k<ps.length)(w:Bool)(am:Rat):aV n as (ps.set k (V3 (ps.getD k 0) w am)) t=aV n as ps t+Wd (iS n as[k] t == w) am:=by have h:=DL (n:=n) (t:=t) as ps k (V3 (ps.getD k 0) w am) h1 h2;rw[Ol,bP h2]at h;rw[bP h2];grind
theorem Om{n t:Nat}{as:List VJ}{ps:List Rat}{s:gn}(hk:s.k<as.length)(hl:s.l<as.length)(hp:ps.length=as.length):aV n as (V4 ps s) t=aV n as ps t+Wd (iS n as[s.k] t == s.kw) s.am+Wd (iS n as[s.l] t == s.lw) s.am:=by unfold V4;rw[HF hl (by simpa[hp]using hl),HF hk (by rw[hp];exact hk)]
theorem K2{R:aF}{ps:List Rat}{s:gn}(hS:d6 R ps)(hk:s.k<R.asks.length)(hl:s.l<R.asks.length)(hb:Vl R ps s=true){t:Nat}(ht:t<R.n) :
  aV R.n R.asks (V4 ps s) t=if(iS R.n R.asks[s.k] t == s.kw)=true∨(iS R.n R.asks[s.l] t == s.lw)=true then aV R.n R.asks ps t else aV R.n R.asks ps t-(s.am+s.am):=by
 unfold Vl at hb;rw[cG hk,cG hl]at hb;simp only[YV,Bool.not_eq_true',aak,YJ]at hb;obtain⟨_,hn,_⟩:=hb;have ak:=hS.ok.ask _ (YB hk);have al:=hS.ok.ask _ (YB hl);have no:=Hs ak al hn t;rw[kE ak s.kw ht,kE al s.lw ht]at no;rw[Om hk hl hS.len];cases e1:(iS R.n R.asks[s.k] t == s.kw)<;>cases e2:(iS R.n R.asks[s.l] t == s.lw)
 . simp[Wd];grind
 . simp[Wd];grind
 . simp[Wd];grind
 . exact absurd e2 (no e1)
theorem HG{R:aF}{ps:List Rat}{s:gn}(hS:d6 R ps)(hk:s.k<R.asks.length)(hl:s.l<R.asks.length)(hb:Vl R ps s=true){t:Nat}(ht:t<R.n):¬aV R.n R.asks ps t<aV R.n R.asks (V4 ps s) t:=by
 rw[K2 hS hk hl hb ht];have ha:0<s.am:=by unfold Vl at hb;simp only[YV,YJ]at hb;exact hb.2.2.1
 split
 . exact Rat.lt_irrefl
 . grind
theorem HH{R:aF}{ps:List Rat}{s:gn}(h:d6 R ps)(e:ya R ps=some s){D:Nat}(d0:0<D)(da:∀a∈R.asks,a.size.den∣D)(dp:∀p∈ps,p.den∣D):s.am.den∣D:=by
 unfold ya at e
 cases e1:V9 (V8 R) (Wb R ps)with
 |none=>rw[e1]at e;cases e
 | some p =>
  obtain⟨k,l⟩:=p;rw[e1]at e;obtain⟨hk,hl,hkl,hc⟩:=sS (wO R ps) e1;obtain⟨hk1,hk2⟩:=iY hk;obtain⟨hl1,hl2⟩:=iY hl;have ee:V7 R ps k l (bW R.n (aM R k) (aM R l))=s:=Y5 e;subst ee;show(V2 R ps k _ l _).den∣D;rcases(h.ms hk1 hl1 (bW R.n (aM R k) (aM R l)).1 (bW R.n (aM R k) (aM R l)).2).2.2.2 with z|z
  . rw[z];exact DG h hk1 _ d0 da dp
  . rw[z];exact DG h hl1 _ d0 da dp
end My
set_option exponentiation.threshold 5000
namespace My
open PySem L2
structure Mj (R:aF):Prop where
 ok:R.Ok
 hi:R.n<=12
 few:R.asks.length<=20
 nms:(∀a∈R.asks,Jm a.nm)/\(R.asks.map (·.nm)).Nodup
 tt:∀a∈R.asks,RB 60 a.size
theorem Mj.all{R:aF}(h:Mj R):∀a∈R.asks,gK R.rooms.length a/\Jm a.nm/\RB 60 a.size:=λa ha=>⟨h.ok.ask a ha,h.nms.1 a ha,h.tt a ha⟩
def We(xs:List D):Prop:=∀x∈xs,x=.non∨∃w,x=.str (eO w)
theorem We.ok{xs:List D}(h:We xs):Vq 1 (.lst xs)=true:=by
 simp only[Vq]
 have:=xD (f:=id) (n:=0) xs λx hx=>by
  rcases h x hx with rfl|⟨w,rfl⟩
  . rfl
  . cases w<;>decide +kernel
 rwa [List.map_id]at this
end My
set_option exponentiation.threshold 5000
namespace My
open PySem L2
noncomputable def lX(R:aF):Nat->List Rat->List Rat
 |0,ps=>ps
 | m+1,ps=>match ya R ps with
  |none=>ps
  |some s=>lX R m (V4 ps s)
theorem DM{R:aF}:∀(m:Nat)(ps:List Rat),d6 R ps->(Wb R ps).length<=m->ya R (lX R m ps)=none
 | 0,ps,h,hm=>by
  cases e:ya R (lX R 0 ps)with
  |none=>rfl
  | some s =>
   have:=(jt h e).2.2.2.1;omega
 | m+1,ps,h,hm=>by
  unfold lX
  cases e:ya R ps with
  |none=>exact e
  | some s =>
   obtain⟨_,_,h3,h4,_⟩:=jt h e;exact DM m (V4 ps s) h3 xL
theorem DN{R:aF}:∀(m:Nat)(ps:List Rat),d6 R ps->d6 R (lX R m ps)
 |0,ps,h=>h
 | m+1,ps,h=>by
  unfold lX
  cases e:ya R ps with
  |none=>exact h
  |some s=>exact DN m (V4 ps s) (jt h e).2.2.1
end My
set_option exponentiation.threshold 5000
namespace My
open PySem L2
structure WK (n s:Nat) (d:D):Prop where
 ok:VF d=true
 sh:hU d=true
 dp:(Ve d).depth<=n
 sg:Et d<=s
theorem WK.all{n s:Nat}:∀{ds:List D},(∀d∈ds,WK n s d)->NC ds=true/\jj ds=true/\PyData.depthAll (gy ds)<=n/\zH ds<=(s+2)*ds.length
 |[],_=>⟨rfl,rfl,aae _,YN _⟩
 | d::ds,h=>by have h0:=h d k5;obtain⟨h1,h2,h3,h4⟩:=WK.all λx hx=>h x (fI _ hx);have dp:=h0.dp;have sg:=h0.sg;refine⟨by simp only[NC,h0.ok,h1,Bool.and_self],by simp only[jj,h0.sh,h2,Bool.and_self],by simp only[gy,PyData.depthAll];omega,?_⟩;simp only[zH,Zy,Nat.mul_add,Nat.mul_one];omega
theorem WK.int{i:Int}(h:i.natAbs<2^60):WK 0 602 (.int i):=⟨rfl,by simp only[hU];exact Zg (so h (YF xp xp)),YN 0,YN _⟩
end My
set_option exponentiation.threshold 5000
namespace My
open PySem L2
structure EP (N:Nat) (x:D):Prop where
 ok:Vq 3 x=true
 wk:WK 1 1300 x
 q:∀q,x=Vp q->q.den∣N
theorem K3{R:aF}(hR:R.Ok)(hT:∀a∈R.asks,RB 60 a.size)(h6:R.asks.length<=6):(d5 R).1.den<=2^482:=by
 obtain⟨h1,h2,_⟩:=qe hR;rw[h2];obtain⟨r0,rb⟩:=gL hR h1;have hr:oS R (d5 R).2≠0:=by grind
 have hd:(cO R.asks (d5 R).2).den∣GV R.asks:=xO (oQ _) _ λq hq=>by obtain⟨a,ha,rfl⟩:=YU.mp hq;exact sL (Zv.mp ha).1
 have h3:(cO R.asks (d5 R).2).den<=2^360:=YH (ZU (oQ _) hd) (YH (xH hT) (YF xp xL));unfold cf;rw[<- zN _ hr];refine YH (C1 (ZN (iy _) (wB hr))) ?_;rw[Zn,YI];have e:(2:Nat)^482=2^360*2^122:=by rw[<- aaq]
 rw[e];exact aaN h3 (YH (ZX rb.1) (YF xp xp))
structure Wf (R:aF) (N:Nat):Prop where
 n0:0<N
 n1:N<2^1340
 d36:36∣N
 da:∀a∈R.asks,a.size.den*12∣N
 sp:∀p∈b9 R (d5 R).1,p.den∣N
theorem Wf.ask{R:aF}{N:Nat}(h:Wf R N):∀a∈R.asks,a.size.den∣N:=λa ha=>ZK (aax _ _) (h.da a ha)
theorem BO{R:aF}(hR:R.Ok)(hT:∀a∈R.asks,RB 60 a.size)(h6:R.asks.length<=6)(n6:R.n<=6):∃N,Wf R N:=by
 have hq:=(xP hR).mono (show 1667<=1750 by decide);have hq1:=K3 hR hT h6;obtain⟨_,_,hs,_⟩:=qe hR;have hsp:∀p∈b9 R (d5 R).1,p.den∣bh R (d5 R).1:=λp hp=>by obtain⟨j,hj,rfl⟩:=YU.mp hp;exact wK (hW hR hq).1 (kG hR hq j)
 obtain⟨q,eq⟩:∃q,q=(d5 R).1:=⟨_,rfl⟩;rw[<- eq]at hq hq1 hsp
 have hd:VU R q∣GV R.asks*(q.den*wD R.rooms):=by
  refine KJ λp hp=>?_;rcases YY.mp hp with hp|hp
  . obtain⟨a,ha,rfl⟩:=YU.mp hp;exact ZK (sL ha) (aax _ _)
  . obtain⟨r,hr,rfl⟩:=YU.mp hp;refine ZK (nj q r) (ZK (Nat.mul_dvd_mul_left _ (sP hr)) (aaH _ _))
 have h1:GV R.asks<=2^360:=YH (xH hT) (YF xp xL);have h2:wD R.rooms<=2^360:=by refine YH (BJ λp hp=>(hR.room p hp).2) (YF xp ?_);have:R.rooms.length<=6:=n6;omega
 have h4:VU R q<=GV R.asks*(q.den*wD R.rooms):=ZU (Nat.mul_pos (oQ _) (Nat.mul_pos (den_pos _) (oN _))) hd;have h5:GV R.asks*(q.den*wD R.rooms)<=2^360*(2^482*2^360):=aaN h1 (aaN hq1 h2);have h6':2^360*(2^482*2^360)=2^1202:=by rw[<- aaq,<- aaq]
 rw[h6']at h5;have h0:=Hj R q;refine⟨36*bh R q,?_⟩;refine⟨by unfold bh;omega,?_,aax _ _,λa ha=>?_,λp hp=>?_⟩
 .
  have h7:(2:Nat)^1340=2^138*2^1202:=by rw[<- aaq]
  have hp:0<(2:Nat)^1202:=Nat.pow_pos xp;rw[h7];unfold bh;have h8:72<2^138:=by decide
  have:36*(2*VU R q)<=72*2^1202:=by generalize (2:Nat)^1202=y at *;omega
  exact YL this (Nat.mul_lt_mul_of_pos_right h8 hp)
 . obtain⟨j,hj,e⟩:=aaR.mp ha;have:=xT hj q;rw[jq hj,e]at this;rw[Nat.mul_comm,show 36*bh R q=12*(6*VU R q) by unfold bh;omega];exact Nat.mul_dvd_mul_left 12 (ZK this (aaH _ _))
 . rw[<- eq]at hp;exact ZK (hsp p hp) (aaH _ _)
end My
set_option exponentiation.threshold 5000
namespace My
open PySem L2
noncomputable def Wg(a:VJ):Nat:=min a.one a.other
noncomputable def Wh(R:aF)(k:Nat):Nat:=Wg (R.asks.getD k ⟨"",0,0,0⟩)
noncomputable def vI(R:aF)(k:Nat):Bool:=decide ((R.asks.getD k ⟨"",0,0,0⟩).one < (R.asks.getD k ⟨"",0,0,0⟩).other)
noncomputable def Wi(R:aF)(ks:List Nat)(g:Rat):Rat:=ks.foldl (λg k=>if g<R.sz k then R.sz k else g) g
noncomputable def fV(R:aF)(ks:List Nat):Rat:=Wi R ks 0*(1 / 2)
noncomputable def dM(R:aF)(ps:List Rat)(k:Nat)(w:Bool):Rat:=(if w=vI R k then R.sz k else 0)-(if vI R k=true then ps.getD k 0 else R.sz k-ps.getD k 0)
noncomputable def Wj(R:aF)(ps:List Rat)(hf t:Rat)(k:Nat):Bool:=if hf<t+dM R ps k (vI R k)then !vI R k else vI R k
noncomputable def Wk(R:aF)(ps:List Rat)(hf:Rat):Rat->List Bool->List Nat->List Bool
 |_,ws,[]=>ws
 |t,ws,k::os=>Wk R ps hf (t+dM R ps k (Wj R ps hf t k)) (ws.set k (Wj R ps hf t k)) os
noncomputable def Wl(R:aF)(ps:List Rat):List Bool:=(R.asks.zip ps).map λx=>decide (x.2=x.1.size)
noncomputable def Wm(R:aF)(ps:List Rat)(ks:List Nat)(ws:List Bool)(k:Nat):Bool:=decide (k∈ks) ||decide (R.sz k=0) ||decide (ws.getD k true=decide (ps.getD k 0=R.sz k))
noncomputable def Wn(hf:Rat):Rat->List Rat->Bool
 |_,[]=>true
 |t,g::gs=>!(decide (hf<t+g) ||decide (t+g<0-hf)) && Wn hf (t+g) gs
noncomputable def Wo(R:aF)(ps:List Rat)(ws:List Bool)(os:List Nat):List Rat:=os.map λk=>dM R ps k (ws.getD k true)
theorem HI(R:aF)(k:Nat):R.asks.getD k ⟨"",0,0,0⟩=aM R k:=by unfold aM;rw[YC]
theorem HJ(R:aF)(k:Nat):Wh R k=rA (aM R k):=by unfold Wh Wg rA;rw[HI]
theorem On(R:aF)(k:Nat):vI R k=V6 (aM R k):=by unfold vI V6;rw[HI]
theorem HK(R:aF):∀(ks:List Nat)(g:Rat),g<=Wi R ks g/\∀k∈ks,R.sz k<=Wi R ks g
 |[],g=>⟨Zs,λk h=>by cases h⟩
 | k::ks,g=>by
  obtain⟨h1,h2⟩:=HK R ks (if g<R.sz k then R.sz k else g)
  have e:Wi R (k::ks) g=Wi R ks (if g<R.sz k then R.sz k else g):=rfl
  rw[e]
  have a:g<=(if g<R.sz k then R.sz k else g)/\R.sz k<=(if g<R.sz k then R.sz k else g):=by
   split
   . rename_i h;exact⟨ZS h,Zs⟩
   . rename_i h;exact⟨Zs,ZH.mp h⟩
  refine⟨Zx a.1 h1,λx hx=>?_⟩;rcases YK.mp hx with rfl|hx
  . exact Zx a.2 h1
  . exact h2 x hx
theorem yc(R:aF)(ks:List Nat):fV R ks+fV R ks=Wi R ks 0:=by unfold fV;grind
theorem HL(R:aF)(ks:List Nat):0<=fV R ks:=by have:=(HK R ks 0).1;have:=yc R ks;grind
theorem Oo(R:aF)(ks:List Nat){k:Nat}(h:k∈ks):R.sz k<=fV R ks+fV R ks:=by rw[yc];exact(HK R ks 0).2 k h
theorem Ml{R:aF}{ps:List Rat}{hf:Rat}:∀(os:List Nat)(t:Rat)(ws:List Bool),(Wk R ps hf t ws os).length=ws.length
 |[],_,_=>rfl
 | k::os,t,ws=>by show(Wk R ps hf _ (ws.set k _) os).length=_;rw[Ml,aah]
theorem HM{R:aF}{ps:List Rat}{hf:Rat}:∀(os:List Nat)(t:Rat)(ws:List Bool){j:Nat},j∉os->(Wk R ps hf t ws os).getD j true=ws.getD j true
 |[],_,_,_,_=>rfl
 | k::os,t,ws,j,h=>by show(Wk R ps hf _ (ws.set k _) os).getD j true=_;rw[HM os _ _ (λz=>h (fI _ z)),YC,Zr (λz=>h (by simp[z])),YC]
theorem Oq{R:aF}{ps:List Rat}{k:Nat}(h0:0<=ps.getD k 0)(h1:ps.getD k 0<=R.sz k):0<=dM R ps k (vI R k)/\dM R ps k (!vI R k)=dM R ps k (vI R k)-R.sz k/\dM R ps k (!vI R k)<=0:=by unfold dM;cases vI R k<;>simp<;>grind
theorem QH{R:aF}{ps:List Rat}{hf:Rat}:∀(os:List Nat)(t:Rat)(ws:List Bool),os.Nodup->(∀k∈os,k<ws.length/\0<=ps.getD k 0/\ps.getD k 0<=R.sz k/\R.sz k<=hf+hf)->0-hf<=t->t<=hf->Wn hf t (Wo R ps (Wk R ps hf t ws os) os)=true
 |[],_,_,_,_,_,_=>rfl
 | k::os,t,ws,hn,h,t0,t1=>by
  obtain⟨n1,n2⟩:=Zc.mp hn;obtain⟨hk,p0,p1,s1⟩:=h k k5;obtain⟨g0,g1,g2⟩:=Oq p0 p1;have ew:(Wk R ps hf t ws (k::os)).getD k true=Wj R ps hf t k:=by show(Wk R ps hf _ (ws.set k _) os).getD k true=_;rw[HM os _ _ n1,YC,Zq hk];rfl
  have eg:Wo R ps (Wk R ps hf t ws (k::os)) (k::os)=dM R ps k (Wj R ps hf t k)::Wo R ps (Wk R ps hf (t+dM R ps k (Wj R ps hf t k)) (ws.set k (Wj R ps hf t k)) os) os:=by show dM R ps k _::_=_;rw[ew];rfl
  rw[eg]
  have b:0-hf<=t+dM R ps k (Wj R ps hf t k)/\t+dM R ps k (Wj R ps hf t k)<=hf:=by
   unfold Wj;split
   . grind
   . rename_i c;have:=ZH.mp c;grind
  show(!(decide (hf<t+dM R ps k (Wj R ps hf t k)) ||decide (t+dM R ps k (Wj R ps hf t k)<0-hf)) && _)=true;rw[YZ (ZH.mpr b.2),YZ (ZH.mpr b.1)];exact QH os _ _ n2 (λj hj=>by rw[aah];exact h j (fI _ hj)) b.1 b.2
theorem HN{hf:Rat}:∀(as:List Rat)(t:Rat),0-hf<=t->t<=hf->Wn hf t as=true->0-hf<=t+eX as/\t+eX as<=hf
 | [],t,a,b,_=>by have:eX ([]:List Rat)=0:=rfl;grind
 | g::as,t,a,b,h=>by unfold Wn at h;rw[YV,Bool.not_eq_true',Bool.or_eq_false_iff,aak,aak]at h;obtain⟨⟨h1,h2⟩,h3⟩:=h;have:=HN as (t+g) (ZH.mp h2) (ZH.mp h1) h3;rw[aS];grind
theorem Mm{hf:Rat}:∀(as bs:List Rat)(t:Rat),Wn hf t (as++bs)=true->Wn hf t as=true
 |[],_,_,_=>rfl
 | g::as,bs,t,h=>by rw[List.cons_append]at h;unfold Wn at h ⊢;rw[YV]at h ⊢;exact⟨h.1,Mm as bs _ h.2⟩
theorem HP(f:Nat->Nat)(t:Nat):∀(l:List Nat),l.Pairwise (λi j=>f i<f j)->∃l1 l2,l=l1++l2/\(∀k∈l1,f k<=t)/\∀k∈l2,t<f k
 |[],_=>⟨[],[],rfl,x_,x_⟩
 | k::l,h=>by
  obtain⟨h1,h2⟩:=List.pairwise_cons.mp h;by_cases c:f k<=t
  .
   obtain⟨l1,l2,e,a,b⟩:=HP f t l h2;refine⟨k::l1,l2,by rw[e];rfl,λx hx=>?_,b⟩;rcases YK.mp hx with rfl|hx
   . exact c
   . exact a x hx
  .
   refine⟨[],k::l,rfl,x_,λx hx=>?_⟩;rcases YK.mp hx with rfl|hx
   . omega
   . have:=h1 x hx;omega
theorem K4{hf:Rat}{g:Nat->Rat}{lo hi:Nat->Nat}(t:Nat)(os:List Nat)(h0:0<=hf)(hlh:∀k∈os,lo k<hi k)(hp:os.Pairwise λi j=>lo i<lo j/\lo j<hi i/\hi i<hi j)(hw:Wn hf 0 (os.map g)=true) :
  eX (os.map λk=>if lo k<=t/\t<hi k then g k else-g k)<=hf+hf+hf:=by
 have two:∀(l1 l2:List Nat),os=l1++l2->(0-hf<=eX (l1.map g)/\eX (l1.map g)<=hf)/\(0-hf<=eX (l1.map g)+eX (l2.map g)/\eX (l1.map g)+eX (l2.map g)<=hf):=λl1 l2 e=>by rw[e,Y9]at hw;have a:=HN _ 0 (by grind) h0 (Mm _ _ _ hw);have b:=HN _ 0 (by grind) h0 hw;rw[sI]at b;grind
 have neg:∀l:List Nat,eX (l.map λk=>- g k)=- eX (l.map g):=λl=>by rw[<- Kd,Y3];rfl
 cases os with
 | nil =>
  show(0:Rat)<=_;grind
 | cons k0 l =>
  obtain⟨p1,_⟩:=List.pairwise_cons.mp hp;by_cases c:t<hi k0
  .
   obtain⟨l1,l2,e,a,b⟩:=HP lo t (k0::l) (hp.imp λh=>h.1)
   have hh:∀k∈k0::l,t<hi k:=λk hk=>by
    rcases YK.mp hk with rfl|hk
    . exact c
    . have:=(p1 k hk).2.2;omega
   obtain⟨q1,q2⟩:=two l1 l2 e;rw[e]at hh;rw[e,Y9,sI,iX (g:=g) (xs:=l1) λk hk=>if_pos ⟨a k hk,hh k (Y1 _ hk)⟩,iX (g:=λk=>- g k) (xs:=l2) λk hk=>if_neg (by have:=b k hk;omega),neg];grind
  .
   obtain⟨l1,l2,e,a,b⟩:=HP hi t (k0::l) (hp.imp λh=>h.2.2)
   have hh:∀k∈k0::l,lo k<=t:=λk hk=>by
    rcases YK.mp hk with rfl|hk
    . have:=hlh k k5;omega
    . have:=(p1 k hk).2.1;omega
   obtain⟨q1,q2⟩:=two l1 l2 e;rw[e]at hh;rw[e,Y9,sI,iX (g:=λk=>- g k) (xs:=l1) λk hk=>if_neg (by have:=a k hk;omega),iX (g:=g) (xs:=l2) λk hk=>if_pos ⟨hh k (YW _ hk),b k hk⟩,neg];grind
theorem HQ{as bs:List Rat}(h:as.Perm bs):eX as=eX bs:=by
 induction h with
 |nil=>rfl
 |cons x _ ih=>rw[aS,aS,ih]
 |swap x y l=>rw[aS,aS,aS,aS];grind
 |trans _ _ a b=>rw[a,b]
theorem DO{R:aF}{ps:List Rat}(h:ps.length=R.asks.length)(t:Nat):aV R.n R.asks ps t=eX ((List.range R.asks.length).map λk=>kd R.n (aM R k) (ps.getD k 0) t):=by
 unfold aV
 congr 1
 refine ZI (by simp[h]) λj h1 h2=>?_;have hj:j<R.asks.length:=by simpa using h2
 rw[Z8,ZJ,Z8,aaM,cG hj,bP xL]
theorem K5{R:aF}{qs:List Rat}{os:List Nat}(hc:V9 (V8 R) (Wb R qs)=none)(op:os.Perm (Wb R qs))(ow:os.Pairwise λi j=>Wh R i<=Wh R j) :
  os.Pairwise λi j=>rA (aM R i)<rA (aM R j)/\rA (aM R j)<gp (aM R i)/\gp (aM R i)<gp (aM R j):=by
 have hn:os.Nodup:=op.nodup_iff.mpr ((wO R qs).imp λh=>Zb h);have cr:=DE (wO R qs) hc;have ow2:os.Pairwise λi j=>Wh R i<=Wh R j/\i≠j:=List.Pairwise.and ow hn;refine List.Pairwise.imp_of_mem (λ{i j} hi hj h=>?_) ow2;obtain⟨h1,h2⟩:=h;rw[HJ,HJ]at h1
 have c:V8 R i j=true∨V8 R j i=true:=by
  rcases Nat.lt_or_gt_of_ne h2 with q|q
  . exact .inl (cr i j (op.mem_iff.mp hi) (op.mem_iff.mp hj) q)
  . exact .inr (cr j i (op.mem_iff.mp hj) (op.mem_iff.mp hi) q)
 unfold V8 Rf at c;simp only[Bool.or_eq_true,YJ]at c;omega
theorem K6{R:aF}{qs xs:List Rat}{ws:List Bool}{os:List Nat}(hS:d6 R qs)(hx:xs.length=R.asks.length)(hxk:∀k,k<R.asks.length->xs.getD k 0=if ws.getD k true then R.sz k else 0)
  (hc:V9 (V8 R) (Wb R qs)=none) (kw:(List.range R.asks.length).all (Wm R qs (Wb R qs) ws)=true) (op:os.Perm (Wb R qs)) (ow:os.Pairwise λi j=>Wh R i<=Wh R j) (wi:Wn (fV R (Wb R qs)) 0 (Wo R qs ws os)=true) {t:Nat} (ht:t<R.n) :
  aV R.n R.asks xs t<=aV R.n R.asks qs t+(fV R (Wb R qs)+fV R (Wb R qs)+fV R (Wb R qs)):=by
 have ql:=hS.len;have pw:=K5 hc op ow;have hk:∀k∈os,k<R.asks.length:=λk m=>by have:=(iY (op.mem_iff.mp m)).1;omega
 have lh:∀k∈os,rA (aM R k)<gp (aM R k):=λk m=>by have:=(hS.ok.ask _ (YB (hk k m))).ne;rw[cG (hk k m)];unfold rA gp;omega
 have key:=K4 (g:=λk=>dM R qs k (ws.getD k true)) t os (HL R (Wb R qs)) lh pw wi
 have df:aV R.n R.asks xs t-aV R.n R.asks qs t=eX (os.map λk=>if rA (aM R k)<=t/\t<gp (aM R k)then dM R qs k (ws.getD k true)else-dM R qs k (ws.getD k true)):=by
  rw[DO hx,DO ql,xM,HQ (op.map _)];unfold Wb;rw[nq,ql];refine iX λk hk=>?_;have hk:=YO.mp hk;have ha:=hS.ok.ask _ (YB hk);have oi:=wN ha ht;have lo:=hS.lo k xL;have sz:(aM R k).size=R.sz k:=by rw[cG hk,nu hk]
  rw[<- cG hk]at oi;rw[hxk k hk];by_cases c:Wa R qs k=true
  .
   rw[if_pos c];unfold kd dM;rw[On,sz];by_cases o:rA (aM R k)<=t/\t<gp (aM R k)
   . rw[if_pos o];have e:=oi.mpr o;rw[beq_iff_eq]at e;rw[e];cases V6 (aM R k)<;>cases ws.getD k true<;>simp<;>grind
   .
    rw[if_neg o];have e:iS R.n (aM R k) t=!V6 (aM R k):=by have:¬(iS R.n (aM R k) t == V6 (aM R k))=true:=λz=>o (oi.mp z);rw[beq_iff_eq]at this;exact Bool.eq_not_of_ne this
    rw[e];cases V6 (aM R k)<;>cases ws.getD k true<;>simp<;>grind
  .
   rw[if_neg c];have q:=aau.mp kw k (YO.mpr hk);unfold Wm at q;rw[Bool.or_eq_true,Bool.or_eq_true,YJ,YJ,YJ]at q;have np:k∉Wb R qs:=λm=>c (iY m).2
   have e:(if ws.getD k true then R.sz k else 0)=qs.getD k 0:=by
    unfold Wa at c;rw[YV,YJ,YJ]at c;rcases q with(q|q)|q
    . exact absurd q np
    . rw[q];rw[q]at lo;split<;>grind
    .
     rw[q];by_cases z:qs.getD k 0=R.sz k
     . rw[if_pos (Zg z),z]
     . rw[if_neg (by rw[YZ z];decide)];grind
   rw[e];grind
 rw[<- df]at key;grind
theorem Os{R:aF}{qs:List Rat}(hS:d6 R qs){os:List Nat}(op:os.Perm (Wb R qs))(hf:Rat):(List.range R.asks.length).all (Wm R qs (Wb R qs) (Wk R qs hf 0 (Wl R qs) os))=true:=by
 rw[aau];intro k hk;have hk:=YO.mp hk;have ql:=hS.len;unfold Wm;by_cases m:k∈Wb R qs
 . rw[Zg m];rfl
 .
  rw[HM os _ _ λz=>m (op.mem_iff.mp z)];have e:(Wl R qs).getD k true=decide (qs.getD k 0=R.sz k):=by unfold Wl;rw[YC,YS,gV (by rw[Zh];omega),ZJ,nu hk,bP xL];rfl
  rw[e,Zg (rfl:decide (qs.getD k 0=R.sz k)=decide (qs.getD k 0=R.sz k)),Bool.or_true]
theorem Mn{R:aF}{qs:List Rat}(hS:d6 R qs):(Wl R qs).length=R.asks.length:=by have:=hS.len;unfold Wl;rw[YD,Zh];omega
theorem Ot{R:aF}{qs:List Rat}(hS:d6 R qs){os:List Nat}(op:os.Perm (Wb R qs)):Wn (fV R (Wb R qs)) 0 (Wo R qs (Wk R qs (fV R (Wb R qs)) 0 (Wl R qs) os) os)=true:=by have hn:os.Nodup:=op.nodup_iff.mpr ((wO R qs).imp λh=>Zb h);have h0:=HL R (Wb R qs);refine QH os 0 _ hn (λk hk=>?_) (by grind) h0;have hk':=(iY (op.mem_iff.mp hk)).1;have lo:=hS.lo k hk';exact⟨by rw[Mn hS,<- hS.len];exact hk',lo.1,lo.2,Oo R _ (op.mem_iff.mp hk)⟩
end My
set_option exponentiation.threshold 5000
namespace My
open PySem L2
theorem QI{p q r:Rat}(h:p<=q)(hr:0<r):p / r<=q / r:=by rw[aav,aav];exact aat h (ZS (Rat.inv_pos.mpr hr))
inductive QJ:List VJ->List VJ->Prop
 |nil:QJ [] []
 |cons {a b:VJ} {as bs:List VJ} (h1:a.one=b.one) (h2:a.other=b.other) (h3:a.size<=b.size) (h:QJ as bs):QJ (a::as) (b::bs)
theorem QJ.len{as bs:List VJ}(h:QJ as bs):as.length=bs.length:=by
 induction h with
 |nil=>rfl
 |cons h1 h2 h3 h ih=>rw[Zy,Zy,ih]
theorem K7{p q r:Rat}(hp:0<=p)(hq:0<q)(h:q<=r):p / r<=p / q:=by
 have hr:0<r:=by grind
 have nr:r≠0:=by grind
 refine ZH.mp λz=>?_;rw[Rat.div_lt_iff hq]at z;have h1:0<=p / r:=by rw[aav];exact Rat.mul_nonneg hp (ZS (Rat.inv_pos.mpr hr))
 have h2:=Rat.mul_le_mul_of_nonneg_left h h1;rw[Rat.div_mul_cancel nr]at h2;exact absurd z (ZH.mpr h2)
end My
set_option exponentiation.threshold 5000
namespace My
open PySem L2
noncomputable def Wp(ps:List Rat)(d:D):List Rat:=match A0 d with
 |some s=>V4 ps s
 |none=>ps
noncomputable def Ou(R:aF)(ps:List Rat)(ss:List D):List Rat:=ss.foldl Wp ps
noncomputable def Mo(R:aF):Nat->List Rat->List D->Option Nat
 |_,_,[]=>none
 |i,ps,d::ss=>if Wc R ps d then Mo R (i+1) (Wp ps d) ss else some i
theorem Ov{R:aF}{ps:List Rat}{s:gn}(h:d6 R ps)(hk:s.k<ps.length)(hl:s.l<ps.length)(e:Vl R ps s=true):QE R ps s:=by unfold Vl at e;simp only[YV,Bool.not_eq_true',aak,YJ]at e;obtain⟨e1,_,e3,e4⟩:=e;obtain⟨m1,m2,m3,_⟩:=h.ms hk hl s.kw s.lw;have le:=ZH.mp e4;exact⟨hk,hl,e1,ZS e3,Zx le m2,Zx le m3⟩
structure Wq (R:aF) (ps:List Rat) (D:Nat):Prop where
 ok:d6 R ps
 d0:0<D
 d1:D<2^1500
 da:∀a∈R.asks,a.size.den∣D
 dp:∀p∈ps,p.den∣D
theorem Wq.slid{R:aF}{ps:List Rat}{D:Nat}{s:gn}(h:Wq R ps D)(hs:QE R ps s)(dm:s.am.den∣D):Wq R (V4 ps s) D:=by
 have dk:∀k,k<ps.length->(ps.getD k 0).den∣D:=λk hk=>h.dp _ (by rw[bP hk];exact YB hk)
 have db:∀(k:Nat)(w:Bool),k<ps.length->(V3 (ps.getD k 0) w s.am).den∣D:=λk w hk=>by
  unfold V3;cases w
  . exact qn h.d0 (dk k hk) dm
  . exact xY h.d0 (dk k hk) dm
 have dp':∀p∈V4 ps s,p.den∣D:=λp hp=>by
  obtain⟨i,hi,rfl⟩:=ZM hp;rw[<- bP hi,z7 hs.k hs.l hs.kl];rw[kI]at hi;split
  . exact db _ _ hs.k
  .
   split
   . exact db _ _ hs.l
   . exact dk i hi
 refine⟨⟨h.ok.ok,by rw[kI];exact h.ok.len,λi hi=>?_,D,h.d0,h.d1,h.da,dp'⟩,h.d0,h.d1,h.da,dp'⟩;rw[kI]at hi;rw[z7 hs.k hs.l hs.kl];split
 . rename_i e;subst e;exact DF (h.ok.lo _ hs.k).1 (h.ok.lo _ hs.k).2 hs.nn hs.kn
 .
  split
  . rename_i e;subst e;exact DF (h.ok.lo _ hs.l).1 (h.ok.lo _ hs.l).2 hs.nn hs.ln
  . exact h.ok.lo i hi
theorem QK{R:aF}{ps:List Rat}(h:d6 R ps):∀p∈ps,RB 4000 p:=λp hp=>by obtain⟨i,hi,rfl⟩:=ZM hp;rw[<- bP hi];exact(h.rb hi).mono xp
theorem HR{R:aF}{ss:List D}{j:Nat}{qs:List Rat}(h:j<ss.length):Mo R j qs (ss.drop j)=if Wc R qs ss[j]then Mo R (j+1) (Wp qs ss[j]) (ss.drop (j+1))else some j:=by rw[Zw h];rfl
theorem K8{ss:List D}{j:Nat}{x:D}(hj:(dA ss)[j]?=some x):∃h:j<ss.length,x=.tup [.int (j:Int),ss[j]]:=by
 have hj':j<ss.length:=by have:=(YA.mp hj).1;simpa[dA]using this
 refine⟨hj',?_⟩;have:(dA ss)[j]?=some (.tup [.int (j:Int),ss[j]]):=by simp[dA,hj']
 rw[this]at hj;exact(Y5 hj).symm
theorem HS{R:aF}{D:Nat}:∀(m i:Nat)(qs:List Rat),Wq R qs D->Mo R i qs ((vG R m qs).map V0)=none/\Ou R qs ((vG R m qs).map V0)=lX R m qs/\Wq R (lX R m qs) D
 |0,_,_,h=>⟨rfl,rfl,h⟩
 | m+1,i,qs,h=>by
  unfold vG lX
  cases e:ya R qs with
  |none=>exact⟨rfl,rfl,h⟩
  | some u =>
   obtain⟨h1,h2,_⟩:=jt h.ok e;have ha:=HH h.ok e h.d0 h.da h.dp;have st:Wp qs (V0 u)=V4 qs u:=by unfold Wp;rw[yb]
   obtain⟨r1,r2,r3⟩:=HS m (i+1) (V4 qs u) (h.slid h1 ha);refine⟨?_,?_,r3⟩
   .
    show(if Wc R qs (V0 u)then Mo R (i+1) (Wp qs (V0 u)) _ else some i)=none
    rw[Mi h1.k h1.l,h2,if_pos rfl,st];exact r1
   . show Ou R (Wp qs (V0 u)) _=_;rw[st];exact r2
theorem Mp{R:aF}{D:Nat}:∀(m:Nat)(qs:List Rat),Wq R qs D->∀s∈vG R m qs,RB 4000 s.am/\s.am.den∣D
 |0,_,_,s,hs=>by cases hs
 | m+1,qs,h,s,hs=>by
  unfold vG at hs
  cases e:ya R qs with
  |none=>rw[e]at hs;cases hs
  | some u =>
   rw[e]at hs;obtain⟨h1,_,_,_,h5,_⟩:=jt h.ok e;have ha:=HH h.ok e h.d0 h.da h.dp;rcases YK.mp hs with rfl|hs
   . exact⟨h5,ha⟩
   . exact Mp m (V4 qs u) (h.slid h1 ha) s hs
theorem HU{R:aF}{ps:List Rat}(hS:d6 R ps):V9 (V8 R) (Wb R (lX R 20 ps))=none:=by refine KU (DM 20 ps hS ?_);refine YH (aaf _ _) ?_;rw[Y0,hS.len];exact hS.ok.few
end My
set_option exponentiation.threshold 5000
namespace My
open PySem L2
theorem RT{R:aF}{ws:List Bool}(h:ws.length=R.asks.length):∀k,k<R.asks.length->(fS R.asks ws).getD k 0=if ws.getD k true then R.sz k else 0:=λk hk=>by unfold fS;rw[YC,YS,gV (by rw[Zh];omega),ZJ,nu hk,YC,gV (show k<ws.length by omega)];rfl
noncomputable def vJ(R:aF)(ps:List Rat)(os:List Nat):List Bool:=Wk R (lX R 20 ps) (fV R (Wb R (lX R 20 ps))) 0 (Wl R (lX R 20 ps)) os
theorem ud{R:aF}{ps:List Rat}(hS:d6 R ps)(os:List Nat):(vJ R ps os).length=R.asks.length:=by unfold vJ;rw[Ml,Mn (DN 20 ps hS)]
theorem DP{R:aF}{t:Nat}(ht:t<R.n):∀(m:Nat)(ps:List Rat),d6 R ps->aV R.n R.asks (lX R m ps) t<=aV R.n R.asks ps t
 |0,_,_=>Zs
 | m+1,ps,h=>by
  unfold lX
  cases e:ya R ps with
  |none=>exact Zs
  | some s =>
   obtain⟨h1,h2,h3,_⟩:=jt h e;have ln:=h.len;have k1:=h1.k;have k2:=h1.l;exact Zx (DP ht m _ h3) (ZH.mp (HG h xL xL h2 ht))
theorem DQ{R:aF}{ps:List Rat}{M:Nat}(hD:Wq R ps M){os:List Nat}(op:os.Perm (Wb R (lX R 20 ps)))(ow:os.Pairwise λi j=>Wh R i<=Wh R j){t:Nat}(ht:t<R.n) :
  aV R.n R.asks (fS R.asks (vJ R ps os)) t<=aV R.n R.asks ps t+(fV R (Wb R (lX R 20 ps))+fV R (Wb R (lX R 20 ps))+fV R (Wb R (lX R 20 ps))):=by
 have hS:=DN 20 ps hD.ok;have hc:=HU hD.ok;have h1:=K6 hS (sR (ud hD.ok os)) (RT (ud hD.ok os)) hc (Os hS op _) op ow (Ot hS op) ht;exact Zx h1 (by have:=DP ht 20 ps hD.ok;grind)
theorem Aa{R:aF}{ks:List Nat}{m:Rat}(m0:0<=m)(h:∀k∈ks,R.sz k<=m):fV R ks+fV R ks<=m:=by
 rw[yc]
 have key:∀(ks:List Nat)(g:Rat),g<=m->(∀k∈ks,R.sz k<=m)->Wi R ks g<=m:=by
  intro ks
  induction ks with
  |nil=>exact λg hg _=>hg
  | cons k ks ih =>
   intro g hg h
   show Wi R ks (if g<R.sz k then R.sz k else g)<=m
   refine ih _ ?_ λj hj=>h j (fI _ hj);split
   . exact h k k5
   . exact hg
 exact key ks 0 m0 h
theorem HV{R:aF}{ps:List Rat}(hS:d6 R ps){m:Rat}(h:∀a∈R.asks,a.size<=m):∀k∈Wb R (lX R 20 ps),R.sz k<=m:=λk hk=>by have h1:=(iY hk).1;rw[(DN 20 ps hS).len]at h1;rw[nu h1];exact h _ (YB h1)
theorem K9{q r x:Rat}(h:r≠0):(q*r+x) / r=q+x / r:=by rw[aav,aav,Rat.add_mul,Rat.mul_assoc,Rat.mul_inv_cancel _ h,Rat.mul_one]
theorem La{R:aF}(hR:R.Ok){M:Nat}(hD:Wq R (b9 R (d5 R).1) M){os:List Nat}(op:os.Perm (Wb R (lX R 20 (b9 R (d5 R).1))))(ow:os.Pairwise λi j=>Wh R i<=Wh R j)
  {m r:Rat} (m0:0<=m) (hm:∀a∈R.asks,a.size<=m) (r0:0<r) (hr:∀t,t<R.n->r<=R.room t):AZ R (vJ R (b9 R (d5 R).1) os)<=(d5 R).1+3 / 2*m / r:=by
 have hq:=(xP hR).mono (show 1667<=1750 by decide);obtain⟨_,_,g3,_⟩:=qe hR;have ht:=Hq hR (vJ R (b9 R (d5 R).1) os);obtain⟨r1,_⟩:=eY hR ht;have l1:=DQ hD op ow ht;have l2:=Hl hR hq g3 ht;have l3:=Aa m0 (HV hD.ok hm);have nz:R.room (BD R.n (Md R (vJ R (b9 R (d5 R).1) os)))≠0:=by grind
 have l4:aV R.n R.asks (fS R.asks (vJ R (b9 R (d5 R).1) os)) (BD R.n (Md R (vJ R (b9 R (d5 R).1) os)))<=(d5 R).1*R.room (BD R.n (Md R (vJ R (b9 R (d5 R).1) os)))+3 / 2*m:=by grind
 have x0:0<=3 / 2*m:=Rat.mul_nonneg y_ m0;have a1:=K7 x0 r0 (hr _ ht);have a2:=QI l4 r1;rw[K9 nz]at a2;exact Zx a2 (by grind)
theorem EJ{R:aF}(hR:R.Ok)(ws:List Bool)(hw:ws.length=R.asks.length):(d5 R).1<=AZ R ws:=by
 obtain⟨g1,g2,_,_⟩:=qe hR;rw[g2];have hp:xK R (fS R.asks ws) 1540:=⟨sR hw,λx hx=>?_,λp hp=>?_⟩
 . exact N4 hR hp g1
 .
  obtain⟨h1,h2⟩:=DA hx;have:=(hR.ask _ h1).size;rcases h2 with e|e<;>rw[e]
  . exact⟨this,Zs⟩
  . exact⟨Zs,this⟩
 .
  obtain⟨x,hx,rfl⟩:=YU.mp hp;have h1:=(aaX (a:=x.1) (b:=x.2) hx).1;split
  . exact hR.rb h1
  . exact RB.zero.mono xp
end My
namespace L2
open PySem PySem.Spec PyProof.Rows PySem.Builtin.Str
section
variable{X:Cx}{es:List Expr}{pos:Pos}
theorem QL{is:List Nat}{k n:Nat}(hc:X.calm=true)(h:P9 X es n is)(hn:(assignEach es X.env).length=is.length:=by rfl)(hst:(assignEach es X.env).findIdx? (·.1)=none:=by rfl):Vj X (.Tuple es k pos) n (Br is):=by
 obtain⟨gg,hg,b0,q⟩:=h;refine⟨_,LV hc hg hn hst,λv σ H Pr Z x k hl E r h=>?_⟩
 cases r with
 |lst hs rs=>exact⟨_,_,rfl,hs.l,by rw[rs.length];exact gC h,q _ σ H Pr Z _ k hl E rs h⟩
 |_=>exact h.elim
end
end L2
namespace My
open PySem L2
noncomputable def DS(R:aF)(k:Nat)(vs:List Bool):D:=.lst [eZ vs,.lst (VL R.n (aV R.n (R.asks.take k) (fS (R.asks.take k) vs)))]
noncomputable def A1(R:aF)(vs:List Bool):D:=.lst [eZ vs,.lst (VL R.n (aV R.n R.asks (fS R.asks vs)))]
theorem Ow(R:aF)(vs:List Bool):DS R R.asks.length vs=A1 R vs:=by unfold DS A1;rw[List.take_length]
noncomputable def dZ:Nat->List (List Bool)
 |0=>[[]]
 |k+1=>(dZ k).flatMap λvs=>[vs++[true],vs++[false]]
theorem oU:∀{k:Nat}{vs:List Bool},vs∈dZ k->vs.length=k
 | 0,vs,h=>by rw[Za.mp h];rfl
 | k+1,vs,h=>by obtain⟨us,h1,h2⟩:=List.mem_flatMap.mp h;have:=oU h1;simp only[YK,aal,or_false]at h2;rcases h2 with rfl|rfl<;>simp[this]
theorem kJ:∀{k:Nat}{vs:List Bool},vs.length=k->vs∈dZ k
 | 0,vs,h=>by rw[aam.mp h];exact Za.mpr rfl
 | k+1,vs,h=>by
  have ne:vs≠[]:=λe=>by rw[e]at h;exact absurd h x_
  have e:=List.dropLast_concat_getLast ne;refine List.mem_flatMap.mpr ⟨vs.dropLast,kJ (by rw[List.length_dropLast,h];rfl),?_⟩;generalize vs.getLast ne=w at e;rw[<- e];cases w<;>simp
theorem ju:∀k,(dZ k).length=2^k
 |0=>rfl
 | k+1=>by
  have h:=ju k;unfold dZ;rw[List.length_flatMap]
  have:∀l:List (List Bool),(l.map λvs=>([vs++[true],vs++[false]]:List (List Bool)).length).sum=2*l.length:=λl=>by
   induction l with
   |nil=>rfl
   |cons a l ih=>rw[YQ,aaE,ih];simp only[Zy,List.length_nil];omega
  rw[this,h,Nat.pow_succ,Nat.mul_comm]
theorem nv:∀k,(dZ k).Nodup
 |0=>by simp[dZ]
 | k+1=>by
  have h:=nv k;unfold dZ;unfold List.Nodup;rw[List.pairwise_flatMap];refine⟨λvs _=>by simp,h.imp λ{a b} ne x hx y hy e=>?_⟩;simp only[YK,aal,or_false]at hx hy;refine ne ?_;have e1:x.dropLast=a:=by rcases hx with rfl|rfl<;>simp
  have e2:y.dropLast=b:=by rcases hy with rfl|rfl<;>simp
  rw[<- e1,<- e2,e]
theorem HW{as:List VJ}{vs:List Bool}{a:VJ}(h:vs.length=as.length)(w:Bool):fS (as++[a]) (vs++[w])=fS as vs++[if w then a.size else 0]:=by unfold fS;rw[ZA h.symm,Y9];rfl
theorem EK{n:Nat}{as:List VJ}{vs:List Bool}{a:VJ}(h:vs.length=as.length)(w:Bool)(t:Nat):aV n (as++[a]) (fS (as++[a]) (vs++[w])) t=aV n as (fS as vs) t+if(iS n a t == w)=true then a.size else 0:=by
 rw[HW h];unfold aV;rw[ZA (by rw[sR h]),Y9];refine Eq.trans (rq _ _) ?_
 congr 1
 unfold kd;dsimp only;cases iS n a t<;>cases w<;>simp<;>grind
end My
set_option exponentiation.threshold 1000
namespace Hd
open PySem PySem.W PyProof.Rows
noncomputable abbrev pr:Program:=PySem.Challenge.pw_ringloads_k41_whole_near_and_all_ways
noncomputable def top(i:Nat):Stmt:=pr.main.body.getD i (.Pass ⟨0,0,0,0⟩)
noncomputable def Lb(st:Stmt)(j:Nat):Stmt:=match st with
 |.ClassDef _ _ _ b ..=>b.getD j (.Pass ⟨0,0,0,0⟩)
 |_=>.Pass ⟨0,0,0,0⟩
noncomputable def HX(s:Stmt):Str:=match s with
 |.FunctionDef n ..=>n
 |_=>""
noncomputable def QM(s:Stmt):Arguments:=match s with
 |.FunctionDef _ a _ _ _ _ _ _ _ _=>a
 |_=>{posonlyargs:=[],args:=[],vararg:=none,kwonlyargs:=[],kw_defaults:=[],kwarg:=none,defaults:=[] }
noncomputable def RU(s:Stmt):List Stmt:=match s with
 |.FunctionDef _ _ b _ _ _ _ _ _ _=>b
 |_=>[]
noncomputable def QN(s:Stmt):Scope:=match s with
 |.FunctionDef _ _ _ _ _ _ sc _ _ _=>sc
 |_=>{kind:=.function,names:=[],isGenerator:=false,isCoroutine:=false}
noncomputable def SD(s:Stmt):Pos:=match s with
 |.FunctionDef _ _ _ _ _ _ _ _ _ p=>p
 |_=>⟨0,0,0,0⟩
noncomputable def Mq (st:Stmt) (q:Str) (g:Addr) (md cd:Value):FuncData:={ name:=HX st,qualname:=q,params:=QM st,body:=.stmts (RU st),scope:=QN st,globals:=g,closure:=[],defaults:=.none,kwdefaults:=.none,doc:=.none,pyModule:=md,annotations:=none,code:=cd,closureTuple:=.none,builtins:=0 }
noncomputable def kh(P:Params)(x:Str):Int:=PySem.PyData.keyHash P x
noncomputable abbrev acU(P:Params)(x:Str)(n:Nat)(v:Value):DictEntry:=⟨kh P x,.str x n,v⟩
noncomputable abbrev acV(l:Array Value):Obj:=⟨.type "tuple",none,.seq l 0,#[]⟩
noncomputable abbrev acW(x:String)(l:Array Value):Obj:=⟨.type x,none,.fields l,#[]⟩
noncomputable abbrev acX(l:Array Value):Obj:=⟨.none,none,.fields l,#[]⟩
noncomputable abbrev acY(l:Array DictEntry)(n:Nat):Obj:=⟨.type "dict",none,.dict l n,#[]⟩
noncomputable abbrev ada(n:Nat):Value:=.str "/claim/cut.py" n
noncomputable def QO(vs:List Value):Obj:=⟨.type "tuple",none,.seq vs.toArray 0,#[]⟩
noncomputable def DT(vs:List Value):Obj:=⟨.none,none,.fields vs.toArray,#[]⟩
noncomputable def SE:Nat->List Str->List Value
 |_,[]=>[]
 |t,x::r=>.str x t::SE (t+1) r
noncomputable def QP(st:Stmt)(a t:Nat)(v1 v2:Value)(tm u:Nat):Obj:=⟨.type "code",none,.fields #[.str (HX st) t,.str (HX st) (t+1),.str "/claim/cut.py" (t+2),.int (SD st).line 0,.int (QM st).args.length 0,.int 0 0,.int 0 0,.int 3 0,.ref a,.bool true,.int 181 0,.ref (a+1),.none,v1,v2,.ref tm,.int u 0,.int (SD st).line 0,.str "/claim/cut.py" (u+1)],#[]⟩
noncomputable def Wr(st:Stmt)(md:Value)(cd:Nat):Obj:=⟨.type "function",none,.func (Mq st (HX st) 3 md (.ref cd)),#[]⟩
noncomputable def Ws(st:Stmt):Obj:=⟨.none,none,.func (Mq st (HX st) 0 .none .none),#[]⟩
noncomputable def bg(st:Stmt)(a t:Nat)(vs:List Str)(md:Value):List Obj:=[QO [],DT [],QO (SE (t+3) vs),QO [],Ws st,QP st a t (.ref (a+2)) (.ref (a+3)) (a+4) (t+3+vs.length),Wr st md (a+5)]
noncomputable def kK(st:Stmt)(a t:Nat)(md:Value):List Obj:=[QO [],DT [],Ws st,QP st a t .none .none (a+2) (t+3),Wr st md (a+3)]
noncomputable def vK (P:Params) (nm:Value) (es:List DictEntry) (n:Nat):Obj:=⟨.type "dict",none,.dict (([⟨kh P "__name__",.str "__name__" 165,nm⟩,⟨kh P "__doc__",.str "__doc__" 166,.none⟩,⟨kh P "__package__",.str "__package__" 167,.none⟩,⟨kh P "__loader__",.str "__loader__" 168,.builtin "__main__.__loader__#opaque"⟩,⟨kh P "__spec__",.str "__spec__" 169,.none⟩,⟨kh P "__annotations__",.str "__annotations__" 170,.ref 6⟩,⟨kh P "__builtins__",.str "__builtins__" 171,.ref 4⟩,⟨kh P "__file__",.str "__file__" 173,.str "/claim/cut.py" 172⟩,⟨kh P "__cached__",.str "__cached__" 174,.none⟩]:List DictEntry)++es).toArray n,#[]⟩
noncomputable def TH:Obj:=⟨.type "code",none,.fields #[.str "<module>" 182,.str "<module>" 183,.str "/claim/cut.py" 184,.int 1 0,.int 0 0,.int 0 0,.int 0 0,.int 0 0,.ref 11,.bool false,.int 181 0,.ref 12,.none,.none,.none,.none,.int 185 0,.int 1 0,.str "/claim/cut.py" 186],#[]⟩
noncomputable def TJ:Obj:=⟨.type "frame",none,.plain,#[some (.ref 13),some (.ref 3),some (.ref 3),none,some (.str "__main__" 164),none,some (.ref 0)]⟩
noncomputable def Ox(P:Params):List Obj:=[boot_o_0 P,boot_o_1 P,boot_o_2 P,boot_o_3 P,boot_o_4 P,boot_o_5 P,boot_o_6 P,boot_o_7 P,boot_o_8 P,boot_o_9 P,boot_o_10 P,QO [],DT [],TH,TJ]
noncomputable def oV:Life:=⟨[],[],[],0,[],[],false,#[],[],0,false,false,false,0,[2000,10,10],false,0,true,[],[],0,false⟩
noncomputable def RV(l:List (Nat×Obj))(b:Nat):Option Obj:=@List.rec (Nat×Obj) (λ_=>Option Obj) none (λx _ ih=>bif Nat.beq x.1 b then some x.2 else ih) l
noncomputable def QQ(P:Params)(ob:Params->Nat->Obj)(b:Nat):Obj:=bif b.blt 15 then(Ox P).getD b default else ob P b
noncomputable def TK(l:List Nat)(b:Nat):Bool:=@List.rec Nat (λ_=>Bool) false (λx _ ih=>@Bool.rec (λ_=>Bool) ih true (Nat.beq x b)) l
noncomputable def HY(ks:List Nat)(P:Params)(ov:List (Nat×Obj))(ob:Params->Nat->Obj)(b j:Nat):Obj:=@Bool.rec (λ_=>Obj) (QQ P ob b) ((RV ov b).getD default) (TK ks b)
noncomputable def L0(n:Nat)(f:Nat->Obj)(a b j:Nat):BT:=.nil
noncomputable def adb(g:Nat->(Nat->Obj)->Nat->Nat->Nat->BT)(n:Nat)(f:Nat->Obj)(a b j:Nat):BT:=@Bool.rec (λ_=>BT) .nil (.node (f b) (g n f (2*a) (a+b) j) (g n f (2*a) (2*a+b) j)) (b.blt n)
noncomputable def L1:=adb L0
noncomputable def L2:=adb L1
noncomputable def L3:=adb L2
noncomputable def L4:=adb L3
noncomputable def L5:=adb L4
noncomputable def L6:=adb L5
noncomputable def L7:=adb L6
noncomputable def L8:=adb L7
noncomputable def L9:=adb L8
noncomputable def Wt:=adb L9
noncomputable def Wu:=adb Wt
noncomputable def Wv:=adb Wu
theorem mC{p:Program}{w:World}{m:Nat}{ann:Option Value}{b n:Nat}{s:SharedT}{t:Thread}{r:Option (Flow×SharedT×Code×Pos)}(h:Fast.tw10110043849684766642 Fast.tw14364793385576792824 p w m ann b n s t=r):segRunT treeTable p w m ann b n s t=r:=by rw[Fast.te10110043849684766642,aaD];exact h
theorem QR{p:Program}{w:World}{m:Nat}{ann:Option Value}{n:Nat}{s:Shared}{t:Thread}{r:Option Shared}(h:Fast.tw14082659384304107361 Fast.tw14364793385576792824 p w m ann n s t=r):topRun treeTable p w m ann n s t=r:=by rw[Fast.te14082659384304107361,aaD];exact h
theorem QS:denote treeTable=Fast.tw11892475500146522536 Fast.tw14364793385576792824:=by rw[<- Fast.te11892475500146522536,<- aaD]
theorem RW{p:Program}{w:World}{m:Nat}{ann:Option Value}{n:Nat}{s:Shared}{t:Thread}{r:Option (Shared×Thread)}(h:Fast.tw15667345088766844465 Fast.tw14364793385576792824 p w m ann n s t=r):topGo treeTable p w m ann n s t=r:=by rw[Fast.te15667345088766844465,aaD];exact h
theorem Oy{b b':List Stmt}(e:b=b'){tb:String->Option Builtin}{p:Program}{w:World}{m:Nat}{ann:Option Value}{n:Nat}{s:Shared}{env:Env}{c:Code}{ps:Pos}{B:List Frame}{r:Option Shared}(h:topRun tb p w m ann n s (restOf b' env c ps B)=r):topRun tb p w m ann n s (restOf b env c ps B)=r:=by rw[e];exact h
noncomputable def f1(P:Params):List Obj:=bg (top 1) 15 189 ["one","other","rest"] (.str "ringloads.divisors" 187)
noncomputable def f2(P:Params):List Obj:=bg (top 2) 22 198 ["one","other"] (.str "ringloads.divisors" 187)
noncomputable def f4(P:Params):List Obj:=[(acV #[(.type "ValueError")]),
 (acW "builtin_function_or_method" #[(.builtin "type.__prepare__"),(.type "type")]),
 (acY #[(acU P "__module__" 215 ac0),(acU P "__qualname__" 217 (.str "LoadError" 216)),(acU P "__firstlineno__" 219 (.int 11 218)),(acU P "__init__" 227 (.ref 42)),(acU P "__static_attributes__" 228 (.ref 43))] 5),
 (acV #[]),
 (acX #[(.int 13 0),(.int 4 0),(.ref 41)]),
 (acW "code" #[(.str "LoadError" 210),(.str "LoadError" 211),(ada 212),(.int 11 0),(.int 0 0),(.int 0 0),(.int 0 0),(.int 0 0),(.ref 32),(.bool false),(.int 181 0),(.ref 33),.none,.none,.none,.none,(.int 213 0),(.int 11 0),(ada 214)]),
 (.mk (.type "frame") none .plain #[(some (.ref 34)),(some (.ref 3)),(some (.ref 31)),none,(some ac0),none,(some (.ref 0))]),
 (acV #[]),
 (acX #[]),
 (acV #[(.str "self" 223),(.str "text" 224)]),
 (acV #[]),
 (.mk .none none (.func (Mq (Lb (top 4) 0) "LoadError.__init__" 0 .none .none)) #[]),
 (acW "code" #[(.str "__init__" 220),(.str "LoadError.__init__" 221),(ada 222),(.int 13 0),(.int 2 0),(.int 0 0),(.int 0 0),(.int 3 0),(.ref 36),(.bool true),(.int 181 0),(.ref 37),.none,(.ref 38),(.ref 39),(.ref 40),(.int 225 0),(.int 13 0),(ada 226)]),
 (.mk (.type "function") none (.func (Mq (Lb (top 4) 0) "LoadError.__init__" 3 ac0 (.ref 41))) #[]),
 (acV #[]),
 (acY #[(acU P "__module__" 215 ac0),(acU P "__firstlineno__" 219 (.int 11 218)),(acU P "__init__" 227 (.ref 42)),(acU P "__static_attributes__" 228 (.ref 43)),(acU P "__weakref__" 230 (.ref 46)),(acU P "__doc__" 231 .none)] 3),
 (.mk (.type "type") none (.cls (.mk "LoadError" [(.type "ValueError")] [(.ref 45),(.type "ValueError"),(.type "Exception"),(.type "BaseException"),(.type "object")] 44 "LoadError" true [] [(.ref 58),(.ref 77)] false none false)) #[(some (.ref 29)),none,(some (.str "LoadError" 208)),(some (.str "LoadError" 216)),(some (.builtin "ValueError.__new__")),(some (.bool true))]),
 (acW "getset_descriptor" #[(.str "__weakref__" 229),(.ref 45),(.builtin "ExceptionGroup.__weakref__"),.none]),
 (acW "super" #[(.ref 45),(.ref 45),(.ref 45)]),
 (acW "builtin_function_or_method" #[(.builtin "object.__init_subclass__"),(.ref 45)])]
noncomputable def f5(P:Params):List Obj:=[(acV #[(.ref 45)]),
 (acW "builtin_function_or_method" #[(.builtin "type.__prepare__"),(.type "type")]),
 (acY #[(acU P "__module__" 241 ac0),(acU P "__qualname__" 243 (.str "NoNumber" 242)),(acU P "__firstlineno__" 245 (.int 15 244)),(acU P "__static_attributes__" 246 (.ref 56))] 4),
 (acV #[]),
 (acX #[]),
 (acW "code" #[(.str "NoNumber" 236),(.str "NoNumber" 237),(ada 238),(.int 15 0),(.int 0 0),(.int 0 0),(.int 0 0),(.int 0 0),(.ref 52),(.bool false),(.int 181 0),(.ref 53),.none,.none,.none,.none,(.int 239 0),(.int 15 0),(ada 240)]),
 (.mk (.type "frame") none .plain #[(some (.ref 54)),(some (.ref 3)),(some (.ref 51)),none,(some ac0),none,(some (.ref 0))]),
 (acV #[]),
 (acY #[(acU P "__module__" 241 ac0),(acU P "__firstlineno__" 245 (.int 15 244)),(acU P "__static_attributes__" 246 (.ref 56)),(acU P "__doc__" 247 .none)] 2),
 (.mk (.type "type") none (.cls (.mk "NoNumber" [(.ref 45)] [(.ref 58),(.ref 45),(.type "ValueError"),(.type "Exception"),(.type "BaseException"),(.type "object")] 57 "NoNumber" true [] [] false none false)) #[(some (.ref 49)),none,(some (.str "NoNumber" 234)),(some (.str "NoNumber" 242)),(some (.builtin "ValueError.__new__")),(some (.bool true))]),
 (acW "super" #[(.ref 58),(.ref 58),(.ref 58)]),
 (acW "builtin_function_or_method" #[(.builtin "object.__init_subclass__"),(.ref 58)])]
noncomputable def f6(P:Params):List Obj:=[(acV #[(.ref 45)]),
 (acW "builtin_function_or_method" #[(.builtin "type.__prepare__"),(.type "type")]),
 (acY #[(acU P "__module__" 257 ac0),(acU P "__qualname__" 259 (.str "NoSlide" 258)),(acU P "__firstlineno__" 261 (.int 17 260)),(acU P "__init__" 269 (.ref 74)),(acU P "__static_attributes__" 271 (.ref 75))] 5),
 (acV #[]),
 (acX #[(.int 19 0),(.int 4 0),(.ref 73)]),
 (acW "code" #[(.str "NoSlide" 252),(.str "NoSlide" 253),(ada 254),(.int 17 0),(.int 0 0),(.int 0 0),(.int 0 0),(.int 0 0),(.ref 64),(.bool false),(.int 181 0),(.ref 65),.none,.none,.none,.none,(.int 255 0),(.int 17 0),(ada 256)]),
 (.mk (.type "frame") none .plain #[(some (.ref 66)),(some (.ref 3)),(some (.ref 63)),none,(some ac0),none,(some (.ref 0))]),
 (acV #[]),
 (acX #[]),
 (acV #[(.str "self" 265),(.str "number" 266)]),
 (acV #[]),
 (.mk .none none (.func (Mq (Lb (top 6) 0) "NoSlide.__init__" 0 .none .none)) #[]),
 (acW "code" #[(.str "__init__" 262),(.str "NoSlide.__init__" 263),(ada 264),(.int 19 0),(.int 2 0),(.int 0 0),(.int 0 0),(.int 3 0),(.ref 68),(.bool true),(.int 181 0),(.ref 69),.none,(.ref 70),(.ref 71),(.ref 72),(.int 267 0),(.int 19 0),(ada 268)]),
 (.mk (.type "function") none (.func (Mq (Lb (top 6) 0) "NoSlide.__init__" 3 ac0 (.ref 73))) #[]),
 (acV #[(.str "number" 270)]),
 (acY #[(acU P "__module__" 257 ac0),(acU P "__firstlineno__" 261 (.int 17 260)),(acU P "__init__" 269 (.ref 74)),(acU P "__static_attributes__" 271 (.ref 75)),(acU P "__doc__" 272 .none)] 2),
 (.mk (.type "type") none (.cls (.mk "NoSlide" [(.ref 45)] [(.ref 77),(.ref 45),(.type "ValueError"),(.type "Exception"),(.type "BaseException"),(.type "object")] 76 "NoSlide" true [] [] false none false)) #[(some (.ref 61)),none,(some (.str "NoSlide" 250)),(some (.str "NoSlide" 258)),(some (.builtin "ValueError.__new__")),(some (.bool true))]),
 (acW "super" #[(.ref 77),(.ref 77),(.ref 77)]),
 (acW "builtin_function_or_method" #[(.builtin "object.__init_subclass__"),(.ref 77)])]
noncomputable def f8(P:Params):List Obj:=bg (top 8) 80 277 ["thing"] ac9
noncomputable def f9(P:Params):List Obj:=bg (top 9) 87 284 ["thing","many"] ac9
noncomputable def Ww(P:Params):List Obj:=bg (top 10) 94 292 ["thing"] ac9
noncomputable def Wx(P:Params):List Obj:=bg (top 11) 101 299 ["thing"] ac9
noncomputable def Wy(P:Params):List Obj:=[(acV #[(.int 0 308),(.int 1 309)])]
noncomputable def Wz(P:Params):List Obj:=bg (top 14) 109 311 ["top","bottom","shared"] ac2
noncomputable def WA(P:Params):List Obj:=bg (top 15) 116 320 ["top","bottom"] ac2
noncomputable def WB(P:Params):List Obj:=bg (top 16) 123 328 ["one","other"] ac2
noncomputable def WC(P:Params):List Obj:=bg (top 17) 130 336 ["one","other"] ac2
noncomputable def WD(P:Params):List Obj:=bg (top 18) 137 344 ["one","other"] ac2
noncomputable def WE(P:Params):List Obj:=bg (top 19) 144 352 ["one","other"] ac2
noncomputable def WG(P:Params):List Obj:=bg (top 20) 151 360 ["one","other"] ac2
noncomputable def WH(P:Params):List Obj:=bg (top 21) 158 368 ["one","other"] ac2
noncomputable def WI(P:Params):List Obj:=bg (top 22) 165 376 ["one","other"] ac2
noncomputable def WJ(P:Params):List Obj:=bg (top 23) 172 384 ["some","whole","one"] ac2
noncomputable def WL(P:Params):List Obj:=bg (top 25) 179 395 ["ring","k"] ac5
noncomputable def WM(P:Params):List Obj:=bg (top 26) 186 403 ["ring","k"] ac5
noncomputable def WN(P:Params):List Obj:=bg (top 27) 193 411 ["ring","k","l","low","high","first","last"] ac5
noncomputable def WO(P:Params):List Obj:=kK (top 28) 200 424 ac5
noncomputable def WQ(P:Params):List Obj:=bg (top 29) 205 430 ["ring","some","number","k","l"] ac5
noncomputable def WR(P:Params):List Obj:=bg (top 31) 212 443 ["cut","place"] ac4
noncomputable def WS(P:Params):List Obj:=bg (top 32) 219 451 ["cut","one","other"] ac4
noncomputable def WT(P:Params):List Obj:=kK (top 33) 226 460 ac4
noncomputable def WU(P:Params):List Obj:=bg (top 34) 231 466 ["ring","cut"] ac4
noncomputable def WV(P:Params):List Obj:=bg (top 35) 238 474 ["ring","cut"] ac4
noncomputable def WW(P:Params):List Obj:=kK (top 36) 245 482 ac4
noncomputable def WX(P:Params):List Obj:=bg (top 37) 250 488 ["ring","found","cut","shown"] ac4
noncomputable def WY(P:Params):List Obj:=bg (top 41) 257 504 ["thing"] ac6
noncomputable def WZ(P:Params):List Obj:=bg (top 42) 264 511 ["way"] ac6
noncomputable def W0(P:Params):List Obj:=kK (top 43) 271 518 ac6
noncomputable def W1(P:Params):List Obj:=bg (top 44) 276 524 ["ring","k","way","tie","places","one","other","lies_on"] ac6
noncomputable def W2(P:Params):List Obj:=bg (top 46) 283 540 ["ring","sending","k","tie"] ac7
noncomputable def W3(P:Params):List Obj:=kK (top 47) 290 550 ac7
noncomputable def W4(P:Params):List Obj:=kK (top 48) 295 556 ac7
noncomputable def W5(P:Params):List Obj:=kK (top 49) 300 562 ac7
noncomputable def W6(P:Params):List Obj:=bg (top 50) 305 568 ["ring","sending","strains","top","tie","strain"] ac7
noncomputable def W7(P:Params):List Obj:=kK (top 52) 312 582 (.str "ringloads.units" 580)
noncomputable def W8(P:Params):List Obj:=bg (top 53) 317 588 ["some","bottom","one"] (.str "ringloads.units" 580)
noncomputable def W9(P:Params):List Obj:=kK (top 54) 324 597 (.str "ringloads.units" 580)
noncomputable def Xa(P:Params):List Obj:=bg (top 56) 329 605 ["ring","top","scale","waiting","free","sending","k","size","part"] ac8
noncomputable def Xb(P:Params):List Obj:=bg (top 57) 336 620 ["ring","k","waiting","free","ties","twice","g","h"] ac8
noncomputable def Xd(P:Params):List Obj:=kK (top 58) 343 634 ac8
noncomputable def Xe(P:Params):List Obj:=kK (top 59) 348 640 ac8
noncomputable def Xf(P:Params):List Obj:=kK (top 61) 353 648 (.str "ringloads.sendings" 646)
noncomputable def Xg(P:Params):List Obj:=bg (top 62) 358 654 ["ring","ways"] (.str "ringloads.sendings" 646)
noncomputable def Xh(P:Params):List Obj:=bg (top 64) 365 664 ["ring","greatest"] (.str "ringloads.leasts" 662)
noncomputable def Xi(P:Params):List Obj:=bg (top 66) 372 674 ["ring","sending","thing","slid","number","slide"] ac1
noncomputable def Xj(P:Params):List Obj:=bg (top 67) 379 686 ["ring","sending","thing"] ac1
noncomputable def Xk(P:Params):List Obj:=bg (top 68) 386 695 ["thing","asks"] ac1
noncomputable def Xl(P:Params):List Obj:=kK (top 69) 393 703 ac1
noncomputable def Xm(P:Params):List Obj:=bg (top 70) 398 709 ["ring","sending","k","way"] ac1
noncomputable def Xn(P:Params):List Obj:=bg (top 71) 405 719 ["ring","sending","slide"] ac1
noncomputable def Xo(P:Params):List Obj:=bg (top 72) 412 728 ["sending","slide","slid"] ac1
noncomputable def Xp(P:Params):List Obj:=bg (top 73) 419 737 ["part","way","amount"] ac1
noncomputable def Xq(P:Params):List Obj:=bg (top 74) 426 746 ["ring","sending","slid","slides","pair","slide"] ac1
noncomputable def Xr(P:Params):List Obj:=bg (top 75) 433 758 ["ring","sending","k","l","ways","slide"] ac1
noncomputable def Xs(P:Params):List Obj:=bg (top 76) 440 770 ["ring","k","l","ways"] ac1
noncomputable def Xu(P:Params):List Obj:=[(acV #[(.int 1 782),(.int 2 783)])]
noncomputable def Xv(P:Params):List Obj:=bg (top 79) 448 785 ["ask","part"] ac3
noncomputable def Xw(P:Params):List Obj:=bg (top 80) 455 793 ["ring","some","greatest","k"] ac3
noncomputable def Xx(P:Params):List Obj:=[(acV #[]),
 (acX #[]),
 (acV #[(.str "ring" 806),(.str "some" 807)]),
 (acV #[(.str "ring" 808)]),
 (.mk .none none (.func (Mq (top 81) "by_lesser_place" 0 .none .none)) #[]),
 (acW "code" #[(.str "by_lesser_place" 803),(.str "by_lesser_place" 804),(ada 805),(.int 253 0),(.int 2 0),(.int 0 0),(.int 0 0),(.int 3 0),(.ref 462),(.bool true),(.int 181 0),(.ref 463),.none,(.ref 464),(.ref 465),(.ref 466),(.int 809 0),(.int 253 0),(ada 810)]),
 (.mk (.type "function") none (.func (Mq (top 81) "by_lesser_place" 3 ac3 (.ref 467))) #[])]
noncomputable def Xy(P:Params):List Obj:=bg (top 82) 469 812 ["ring","k"] ac3
noncomputable def Xz(P:Params):List Obj:=bg (top 83) 476 820 ["ring","sending","k","way","size","rising"] ac3
noncomputable def XA(P:Params):List Obj:=bg (top 84) 483 832 ["ring","sending","slides"] ac3
noncomputable def XB(P:Params):List Obj:=kK (top 85) 490 841 ac3
noncomputable def XC(P:Params):List Obj:=bg (top 86) 495 847 ["ring","least","rounding","ways"] ac3
noncomputable def XE(P:Params):List Obj:=bg (top 88) 502 859 ["_law_script","_law_k","_law_cell"] acZ
noncomputable def XG(P:Params):List Obj:=bg (top 89) 509 868 ["_law_state","_law_many","_law_digit","_law_drawn","_law_turn"] acZ
noncomputable def XH(P:Params):List Obj:=bg (top 90) 516 879 ["_law_top_here","_law_bottom","_law_one","_law_share"] acZ
noncomputable def XI(P:Params):List Obj:=bg (top 91) 523 889 ["_law_state","_law_least","_law_kind","_law_bottom","_law_top_here"] acZ
noncomputable def XJ(P:Params):List Obj:=kK (top 92) 530 900 acZ
noncomputable def XM(P:Params):List Obj:=bg (top 93) 535 906 ["_law_state","_law_ties_here","_law_kind","_law_alike","_law_one","_law_rooms_here","_law_more"] acZ
noncomputable def XN(P:Params):List Obj:=bg (top 94) 542 919 ["_law_state","_law_shape","_law_places","_law_k","_law_one","_law_other"] acZ
noncomputable def XQ(P:Params):List Obj:=bg (top 95) 549 931 ["_law_script","_law_at","_law_most","_law_count","_law_state","_law_places","_law_many","_law_kinds","_law_shape","_law_names_here","_law_rooms_here","_law_asks","_law_k","_law_one","_law_other"] acZ
noncomputable def XR(P:Params):List Obj:=bg (top 96) 556 952 ["_law_state","_law_ring_here","_law_parts_here","_law_name","_law_one","_law_other","_law_size","_law_way","_law_share"] acZ
noncomputable def XS(P:Params):List Obj:=bg (top 97) 563 967 ["_law_one","_law_other"] acZ
noncomputable def XT(P:Params):List Obj:=bg (top 98) 570 975 ["_law_one","_law_other"] acZ
noncomputable def XU(P:Params):List Obj:=bg (top 99) 577 983 ["_law_one","_law_other"] acZ
noncomputable def RX(P:Params):List Obj:=bg (top 100) 584 991 ["_law_ring_here","_law_k","_law_way","_law_name","_law_one","_law_other","_law_size","_law_ties_here"] acZ
noncomputable def RY(P:Params):List Obj:=bg (top 101) 591 1005 ["_law_ring_here","_law_sending","_law_loads_here","_law_k","_law_part","_law_way","_law_gone","_law_tie"] acZ
noncomputable def RZ(P:Params):List Obj:=bg (top 102) 598 1019 ["_law_ring_here","_law_found","_law_k","_law_ask","_law_more","_law_ways","_law_loads_here","_law_way","_law_behind","_law_tie"] acZ
noncomputable def R0(P:Params):List Obj:=bg (top 103) 605 1035 ["_law_ring_here","_law_loads_here","_law_best","_law_tie","_law_load","_law_strain"] acZ
noncomputable def R1(P:Params):List Obj:=bg (top 104) 612 1047 ["_law_ring_here","_law_rows","_law_best","_law_ways","_law_loads_here","_law_top_here"] acZ
noncomputable def R3(P:Params):List Obj:=kK (top 105) 619 1059 acZ
noncomputable def R4(P:Params):List Obj:=kK (top 106) 624 1065 acZ
noncomputable def R5(P:Params)(b:Nat):Obj:=(bif b.blt 80 then(bif b.blt 29 then(bif b.blt 22 then(f1 P).getD (b-15) default else(f2 P).getD (b-22) default)else(bif b.blt 49 then(f4 P).getD (b-29) default else(bif b.blt 61 then(f5 P).getD (b-49) default else(f6 P).getD (b-61) default)))else(bif b.blt 101 then(bif b.blt 87 then(f8 P).getD (b-80) default else(bif b.blt 94 then(f9 P).getD (b-87) default else(Ww P).getD (b-94) default))else(bif b.blt 108 then(Wx P).getD (b-101) default else(bif b.blt 109 then(Wy P).getD (b-108) default else(Wz P).getD (b-109) default))))
noncomputable def R6(P:Params)(b:Nat):Obj:=(bif b.blt 151 then(bif b.blt 130 then(bif b.blt 123 then(WA P).getD (b-116) default else(WB P).getD (b-123) default)else(bif b.blt 137 then(WC P).getD (b-130) default else(bif b.blt 144 then(WD P).getD (b-137) default else(WE P).getD (b-144) default)))else(bif b.blt 172 then(bif b.blt 158 then(WG P).getD (b-151) default else(bif b.blt 165 then(WH P).getD (b-158) default else(WI P).getD (b-165) default))else(bif b.blt 179 then(WJ P).getD (b-172) default else(bif b.blt 186 then(WL P).getD (b-179) default else(WM P).getD (b-186) default))))
noncomputable def TL(P:Params)(b:Nat):Obj:=bif b.blt 116 then R5 P b else R6 P b
noncomputable def R7(P:Params)(b:Nat):Obj:=(bif b.blt 226 then(bif b.blt 205 then(bif b.blt 200 then(WN P).getD (b-193) default else(WO P).getD (b-200) default)else(bif b.blt 212 then(WQ P).getD (b-205) default else(bif b.blt 219 then(WR P).getD (b-212) default else(WS P).getD (b-219) default)))else(bif b.blt 245 then(bif b.blt 231 then(WT P).getD (b-226) default else(bif b.blt 238 then(WU P).getD (b-231) default else(WV P).getD (b-238) default))else(bif b.blt 250 then(WW P).getD (b-245) default else(bif b.blt 257 then(WX P).getD (b-250) default else(WY P).getD (b-257) default))))
noncomputable def R8(P:Params)(b:Nat):Obj:=(bif b.blt 300 then(bif b.blt 283 then(bif b.blt 271 then(WZ P).getD (b-264) default else(bif b.blt 276 then(W0 P).getD (b-271) default else(W1 P).getD (b-276) default))else(bif b.blt 290 then(W2 P).getD (b-283) default else(bif b.blt 295 then(W3 P).getD (b-290) default else(W4 P).getD (b-295) default)))else(bif b.blt 317 then(bif b.blt 305 then(W5 P).getD (b-300) default else(bif b.blt 312 then(W6 P).getD (b-305) default else(W7 P).getD (b-312) default))else(bif b.blt 324 then(W8 P).getD (b-317) default else(bif b.blt 329 then(W9 P).getD (b-324) default else(Xa P).getD (b-329) default))))
noncomputable def TM(P:Params)(b:Nat):Obj:=bif b.blt 264 then R7 P b else R8 P b
noncomputable def XW(P:Params)(b:Nat):Obj:=bif b.blt 193 then TL P b else TM P b
noncomputable def R9(P:Params)(b:Nat):Obj:=(bif b.blt 365 then(bif b.blt 348 then(bif b.blt 343 then(Xb P).getD (b-336) default else(Xd P).getD (b-343) default)else(bif b.blt 353 then(Xe P).getD (b-348) default else(bif b.blt 358 then(Xf P).getD (b-353) default else(Xg P).getD (b-358) default)))else(bif b.blt 386 then(bif b.blt 372 then(Xh P).getD (b-365) default else(bif b.blt 379 then(Xi P).getD (b-372) default else(Xj P).getD (b-379) default))else(bif b.blt 393 then(Xk P).getD (b-386) default else(bif b.blt 398 then(Xl P).getD (b-393) default else(Xm P).getD (b-398) default))))
noncomputable def Sb(P:Params)(b:Nat):Obj:=(bif b.blt 440 then(bif b.blt 419 then(bif b.blt 412 then(Xn P).getD (b-405) default else(Xo P).getD (b-412) default)else(bif b.blt 426 then(Xp P).getD (b-419) default else(bif b.blt 433 then(Xq P).getD (b-426) default else(Xr P).getD (b-433) default)))else(bif b.blt 455 then(bif b.blt 447 then(Xs P).getD (b-440) default else(bif b.blt 448 then(Xu P).getD (b-447) default else(Xv P).getD (b-448) default))else(bif b.blt 462 then(Xw P).getD (b-455) default else(bif b.blt 469 then(Xx P).getD (b-462) default else(Xy P).getD (b-469) default))))
noncomputable def TN(P:Params)(b:Nat):Obj:=bif b.blt 405 then R9 P b else Sb P b
noncomputable def Sd(P:Params)(b:Nat):Obj:=(bif b.blt 509 then(bif b.blt 490 then(bif b.blt 483 then(Xz P).getD (b-476) default else(XA P).getD (b-483) default)else(bif b.blt 495 then(XB P).getD (b-490) default else(bif b.blt 502 then(XC P).getD (b-495) default else(XE P).getD (b-502) default)))else(bif b.blt 530 then(bif b.blt 516 then(XG P).getD (b-509) default else(bif b.blt 523 then(XH P).getD (b-516) default else(XI P).getD (b-523) default))else(bif b.blt 535 then(XJ P).getD (b-530) default else(bif b.blt 542 then(XM P).getD (b-535) default else(XN P).getD (b-542) default))))
noncomputable def Se(P:Params)(b:Nat):Obj:=(bif b.blt 591 then(bif b.blt 570 then(bif b.blt 556 then(XQ P).getD (b-549) default else(bif b.blt 563 then(XR P).getD (b-556) default else(XS P).getD (b-563) default))else(bif b.blt 577 then(XT P).getD (b-570) default else(bif b.blt 584 then(XU P).getD (b-577) default else(RX P).getD (b-584) default)))else(bif b.blt 612 then(bif b.blt 598 then(RY P).getD (b-591) default else(bif b.blt 605 then(RZ P).getD (b-598) default else(R0 P).getD (b-605) default))else(bif b.blt 619 then(R1 P).getD (b-612) default else(bif b.blt 624 then(R3 P).getD (b-619) default else(R4 P).getD (b-624) default))))
noncomputable def TQ(P:Params)(b:Nat):Obj:=bif b.blt 549 then Sd P b else Se P b
noncomputable def XX(P:Params)(b:Nat):Obj:=bif b.blt 476 then TN P b else TQ P b
noncomputable def ob(P:Params)(b:Nat):Obj:=bif b.blt 336 then XW P b else XX P b
noncomputable def Jn(P:Params):List DictEntry:=[(acU P "greatest_shared" 197 (.ref 21)),
 (acU P "least_common" 205 (.ref 28)),
 (acU P "LoadError" 233 (.ref 45)),
 (acU P "NoNumber" 249 (.ref 58)),
 (acU P "NoSlide" 274 (.ref 77)),
 (acU P "is_whole" 283 (.ref 86)),
 (acU P "is_number_below" 291 (.ref 93)),
 (acU P "are_two_wholes" 298 (.ref 100)),
 (acU P "is_ratio" 305 (.ref 107)),
 (acU P "NOUGHT" 310 (.ref 108)),
 (acU P "lowest" 319 (.ref 115)),
 (acU P "ratio" 327 (.ref 122)),
 (acU P "plus" 335 (.ref 129)),
 (acU P "minus" 343 (.ref 136)),
 (acU P "times" 351 (.ref 143)),
 (acU P "over" 359 (.ref 150)),
 (acU P "under" 367 (.ref 157)),
 (acU P "greater" 375 (.ref 164)),
 (acU P "lesser" 383 (.ref 171)),
 (acU P "sum_of" 392 (.ref 178)),
 (acU P "lesser_place" 402 (.ref 185)),
 (acU P "greater_place" 410 (.ref 192)),
 (acU P "do_cross" 423 (.ref 199)),
 (acU P "parted_in" 429 (.ref 204)),
 (acU P "first_side_by_side" 440 (.ref 211)),
 (acU P "is_within" 450 (.ref 218)),
 (acU P "parts_places" 459 (.ref 225)),
 (acU P "across" 465 (.ref 230)),
 (acU P "rooms_of" 473 (.ref 237)),
 (acU P "shown_by" 481 (.ref 244)),
 (acU P "all_cuts" 487 (.ref 249)),
 (acU P "greatest_cut" 497 (.ref 256)),
 (acU P "ON" 501 (.str "on" 500)),
 (acU P "BACK" 503 (.str "back" 502)),
 (acU P "is_way" 510 (.ref 263)),
 (acU P "other_way" 517 (.ref 270)),
 (acU P "ties_of" 523 (.ref 275)),
 (acU P "is_over" 537 (.ref 282)),
 (acU P "sent_over" 549 (.ref 289)),
 (acU P "load_of" 555 (.ref 294)),
 (acU P "loads_of" 561 (.ref 299)),
 (acU P "strains_of" 567 (.ref 304)),
 (acU P "top_of" 579 (.ref 311)),
 (acU P "weighed" 587 (.ref 316)),
 (acU P "common_bottom" 596 (.ref 323)),
 (acU P "in_units" 602 (.ref 328)),
 (acU P "sent_one_by_one" 619 (.ref 335)),
 (acU P "most_on" 633 (.ref 342)),
 (acU P "still_across" 639 (.ref 347)),
 (acU P "left_free" 645 (.ref 352)),
 (acU P "sent_by" 653 (.ref 357)),
 (acU P "top_by" 661 (.ref 364)),
 (acU P "least_top" 671 (.ref 371)),
 (acU P "slid_by" 685 (.ref 378)),
 (acU P "is_slide" 694 (.ref 385)),
 (acU P "has_form_of_slide" 702 (.ref 392)),
 (acU P "share_no_tie" 708 (.ref 397)),
 (acU P "not_sent" 718 (.ref 404)),
 (acU P "most_slid" 727 (.ref 411)),
 (acU P "slid_once" 736 (.ref 418)),
 (acU P "part_behind" 745 (.ref 425)),
 (acU P "slides_for" 757 (.ref 432)),
 (acU P "greatest_slide" 769 (.ref 439)),
 (acU P "ways_apart" 779 (.ref 446)),
 (acU P "HALF" 784 (.ref 447)),
 (acU P "nearest_way" 792 (.ref 454)),
 (acU P "half_of_greatest" 802 (.ref 461)),
 (acU P "by_lesser_place" 811 (.ref 468)),
 (acU P "rising_way" 819 (.ref 475)),
 (acU P "gain_of" 831 (.ref 482)),
 (acU P "rounding_of" 840 (.ref 489)),
 (acU P "rounded_ways" 846 (.ref 494)),
 (acU P "near_whole" 856 (.ref 501)),
 (acU P "_law_begun" 867 (.ref 508)),
 (acU P "_law_take" 878 (.ref 515)),
 (acU P "_law_low" 888 (.ref 522)),
 (acU P "_law_amount" 899 (.ref 529)),
 (acU P "_law_names" 905 (.ref 534)),
 (acU P "_law_rooms" 918 (.ref 541)),
 (acU P "_law_ends" 930 (.ref 548)),
 (acU P "_law_ring" 951 (.ref 555)),
 (acU P "_law_parts" 966 (.ref 562)),
 (acU P "_law_plus" 974 (.ref 569)),
 (acU P "_law_minus" 982 (.ref 576)),
 (acU P "_law_under" 990 (.ref 583)),
 (acU P "_law_ties" 1004 (.ref 590)),
 (acU P "_law_loads" 1018 (.ref 597)),
 (acU P "_law_all_loads" 1034 (.ref 604)),
 (acU P "_law_top" 1046 (.ref 611)),
 (acU P "_law_tops" 1058 (.ref 618)),
 (acU P "_law_rounded" 1064 (.ref 623)),
 (acU P "law" 1070 (.ref 628))]
noncomputable def XY:List Value:=[(.int 2 0),(.int 0 0),(.ref 20),(.int 8 0),(.int 0 0),(.ref 27),(.int 11 0),(.int 0 0),(.ref 34),(.int 15 0),(.int 0 0),(.ref 54),(.int 17 0),(.int 0 0),(.ref 66),(.int 23 0),(.int 0 0),(.ref 85),(.int 25 0),(.int 0 0),(.ref 92),(.int 27 0),(.int 0 0),(.ref 99),(.int 29 0),(.int 0 0),(.ref 106),(.int 33 0),(.int 0 0),(.ref 114),(.int 38 0),(.int 0 0),(.ref 121),(.int 42 0),(.int 0 0),(.ref 128),(.int 44 0),(.int 0 0),(.ref 135),(.int 46 0),(.int 0 0),(.ref 142),(.int 48 0),(.int 0 0),(.ref 149),(.int 52 0),(.int 0 0),(.ref 156),(.int 54 0),(.int 0 0),(.ref 163),(.int 56 0),(.int 0 0),(.ref 170),(.int 58 0),(.int 0 0),(.ref 177),(.int 64 0),(.int 0 0),(.ref 184),(.int 66 0),(.int 0 0),(.ref 191),(.int 68 0),(.int 0 0),(.ref 198),(.int 74 0),(.int 0 0),(.ref 203),(.int 76 0),(.int 0 0),(.ref 210),(.int 83 0),(.int 0 0),(.ref 217),(.int 85 0),(.int 0 0),(.ref 224),(.int 87 0),(.int 0 0),(.ref 229),(.int 89 0),(.int 0 0),(.ref 236),(.int 91 0),(.int 0 0),(.ref 243),(.int 93 0),(.int 0 0),(.ref 248),(.int 98 0),(.int 0 0),(.ref 255),(.int 108 0),(.int 0 0),(.ref 262),(.int 110 0),(.int 0 0),(.ref 269),(.int 112 0),(.int 0 0),(.ref 274),(.int 119 0),(.int 0 0),(.ref 281),(.int 126 0),(.int 0 0),(.ref 288),(.int 130 0),(.int 0 0),(.ref 293),(.int 132 0),(.int 0 0),(.ref 298),(.int 134 0),(.int 0 0),(.ref 303),(.int 136 0),(.int 0 0),(.ref 310),(.int 144 0),(.int 0 0),(.ref 315),(.int 149 0),(.int 0 0),(.ref 322),(.int 154 0),(.int 0 0),(.ref 327),(.int 157 0),(.int 0 0),(.ref 334),(.int 167 0),(.int 0 0),(.ref 341),(.int 175 0),(.int 0 0),(.ref 346),(.int 178 0),(.int 0 0),(.ref 351),(.int 181 0),(.int 0 0),(.ref 356),(.int 183 0),(.int 0 0),(.ref 363),(.int 186 0),(.int 0 0),(.ref 370),(.int 190 0),(.int 0 0),(.ref 377),(.int 199 0),(.int 0 0),(.ref 384),(.int 205 0),(.int 0 0),(.ref 391),(.int 211 0),(.int 0 0),(.ref 396),(.int 214 0),(.int 0 0),(.ref 403),(.int 216 0),(.int 0 0),(.ref 410),(.int 218 0),(.int 0 0),(.ref 417),(.int 223 0),(.int 0 0),(.ref 424),(.int 225 0),(.int 0 0),(.ref 431),(.int 235 0),(.int 0 0),(.ref 438),(.int 239 0),(.int 0 0),(.ref 445),(.int 246 0),(.int 0 0),(.ref 453),(.int 248 0),(.int 0 0),(.ref 460),(.int 253 0),(.int 0 0),(.ref 467),(.int 255 0),(.int 0 0),(.ref 474),(.int 257 0),(.int 0 0),(.ref 481),(.int 261 0),(.int 0 0),(.ref 488),(.int 264 0),(.int 0 0),(.ref 493),(.int 275 0),(.int 0 0),(.ref 500),(.int 281 0),(.int 0 0),(.ref 507),(.int 286 0),(.int 0 0),(.ref 514),(.int 297 0),(.int 0 0),(.ref 521),(.int 305 0),(.int 0 0),(.ref 528),(.int 309 0),(.int 0 0),(.ref 533),(.int 315 0),(.int 0 0),(.ref 540),(.int 325 0),(.int 0 0),(.ref 547),(.int 335 0),(.int 0 0),(.ref 554),(.int 349 0),(.int 0 0),(.ref 561),(.int 356 0),(.int 0 0),(.ref 568),(.int 358 0),(.int 0 0),(.ref 575),(.int 360 0),(.int 0 0),(.ref 582),(.int 362 0),(.int 0 0),(.ref 589),(.int 371 0),(.int 0 0),(.ref 596),(.int 378 0),(.int 0 0),(.ref 603),(.int 390 0),(.int 0 0),(.ref 610),(.int 397 0),(.int 0 0),(.ref 617),(.int 404 0),(.int 0 0),(.ref 622),(.int 414 0),(.int 0 0),(.ref 627)]
noncomputable def XZ(P:Params):List (Nat×Obj):=[(12,DT (XY.take 0))]
noncomputable def T0(P:Params):BT:=Wv 15 (λb=>HY [12] P (XZ P) ob b 0) 1 0 0
noncomputable abbrev S0(w:World)(os:OsState):SharedT:=⟨T0 w.params,15,oV,#[],⟨0,0,0,0⟩,187,os⟩
noncomputable def X0(P:Params):List (Nat×Obj):=[(3,vK P ac0 ((Jn P).take 3) 12),(12,DT (XY.take 9)),(45,(.mk (.type "type") none (.cls (.mk "LoadError" [(.type "ValueError")] [(.ref 45),(.type "ValueError"),(.type "Exception"),(.type "BaseException"),(.type "object")] 44 "LoadError" true [] [] false none false)) #[(some (.ref 29)),none,(some (.str "LoadError" 208)),(some (.str "LoadError" 216)),(some (.builtin "ValueError.__new__")),(some (.bool true))]))]
noncomputable def T1(P:Params):BT:=Wv 49 (λb=>HY [3,12,45] P (X0 P) ob b 1) 1 0 1
noncomputable abbrev S1(w:World)(os:OsState):SharedT:=⟨T1 w.params,49,oV,#[],⟨0,0,0,0⟩,234,os⟩
noncomputable def X1(P:Params):List (Nat×Obj):=[(3,vK P ac0 ((Jn P).take 4) 13),(12,DT (XY.take 12)),(45,(.mk (.type "type") none (.cls (.mk "LoadError" [(.type "ValueError")] [(.ref 45),(.type "ValueError"),(.type "Exception"),(.type "BaseException"),(.type "object")] 44 "LoadError" true [] [(.ref 58)] false none false)) #[(some (.ref 29)),none,(some (.str "LoadError" 208)),(some (.str "LoadError" 216)),(some (.builtin "ValueError.__new__")),(some (.bool true))]))]
noncomputable def T2(P:Params):BT:=Wv 61 (λb=>HY [3,12,45] P (X1 P) ob b 2) 1 0 2
noncomputable abbrev S2(w:World)(os:OsState):SharedT:=⟨T2 w.params,61,oV,#[],⟨0,0,0,0⟩,250,os⟩
noncomputable def X2(P:Params):List (Nat×Obj):=[(3,vK P ac2 ((Jn P).take 10) 19),(12,DT (XY.take 27))]
noncomputable def T3(P:Params):BT:=Wv 109 (λb=>HY [3,12] P (X2 P) ob b 3) 1 0 3
noncomputable abbrev S3(w:World)(os:OsState):SharedT:=⟨T3 w.params,109,oV,#[],⟨0,0,0,0⟩,311,os⟩
noncomputable def X3(P:Params):List (Nat×Obj):=[(3,vK P ac5 ((Jn P).take 22) 31),(12,DT (XY.take 63))]
noncomputable def T4(P:Params):BT:=Wv 193 (λb=>HY [3,12] P (X3 P) ob b 4) 1 0 4
noncomputable abbrev S4(w:World)(os:OsState):SharedT:=⟨T4 w.params,193,oV,#[],⟨0,0,0,0⟩,411,os⟩
noncomputable def X4(P:Params):List (Nat×Obj):=[(3,vK P ac6 ((Jn P).take 36) 45),(12,DT (XY.take 99))]
noncomputable def T5(P:Params):BT:=Wv 271 (λb=>HY [3,12] P (X4 P) ob b 5) 1 0 5
noncomputable abbrev S5(w:World)(os:OsState):SharedT:=⟨T5 w.params,271,oV,#[],⟨0,0,0,0⟩,518,os⟩
noncomputable def X5(P:Params):List (Nat×Obj):=[(3,vK P ac8 ((Jn P).take 48) 57),(12,DT (XY.take 135))]
noncomputable def T6(P:Params):BT:=Wv 343 (λb=>HY [3,12] P (X5 P) ob b 6) 1 0 6
noncomputable abbrev S6(w:World)(os:OsState):SharedT:=⟨T6 w.params,343,oV,#[],⟨0,0,0,0⟩,634,os⟩
noncomputable def X6(P:Params):List (Nat×Obj):=[(3,vK P ac1 ((Jn P).take 60) 69),(12,DT (XY.take 171))]
noncomputable def T7(P:Params):BT:=Wv 419 (λb=>HY [3,12] P (X6 P) ob b 7) 1 0 7
noncomputable abbrev S7(w:World)(os:OsState):SharedT:=⟨T7 w.params,419,oV,#[],⟨0,0,0,0⟩,737,os⟩
noncomputable def X7(P:Params):List (Nat×Obj):=[(3,vK P ac3 ((Jn P).take 73) 82),(12,DT (XY.take 207))]
noncomputable def T8(P:Params):BT:=Wv 502 (λb=>HY [3,12] P (X7 P) ob b 8) 1 0 8
noncomputable abbrev S8(w:World)(os:OsState):SharedT:=⟨T8 w.params,502,oV,#[],⟨0,0,0,0⟩,857,os⟩
noncomputable def X8(P:Params):List (Nat×Obj):=[(3,vK P acZ ((Jn P).take 84) 93),(12,DT (XY.take 240))]
noncomputable def T9(P:Params):BT:=Wv 577 (λb=>HY [3,12] P (X8 P) ob b 9) 1 0 9
noncomputable abbrev S9(w:World)(os:OsState):SharedT:=⟨T9 w.params,577,oV,#[],⟨0,0,0,0⟩,983,os⟩
noncomputable def SF(P:Params):List (Nat×Obj):=[(3,vK P acZ ((Jn P).take 92) 101),(12,DT (XY.take 264))]
noncomputable def X9(P:Params):BT:=Wv 629 (λb=>HY [3,12] P (SF P) ob b 10) 1 0 10
noncomputable abbrev Yb(w:World)(os:OsState):SharedT:=⟨X9 w.params,629,oV,#[],⟨0,0,0,0⟩,1071,os⟩
noncomputable abbrev env:Env:={scope:=pr.main.scope,locals:=mainNs,globals:=mainNs,cells:=[],code:=.ref 13,frame:=some 14}
noncomputable abbrev cE:Code:=.body (behindTheImports pr) env
noncomputable abbrev B:List Frame:=[topFrame ⟨0,0,0,0⟩]
noncomputable def SG:List Stmt:=(pr.main.body.drop 0).take 5
theorem Yc(w:World)(os:OsState):segRunT treeTable pr w 11 (some (.ref 6)) 1 297 (S0 w os) (piecesOf SG env cE ⟨0,0,0,0⟩ B)=some (.next,S1 w os,cE,⟨11,0,14,39⟩):=mC z_
noncomputable def SH:List Stmt:=(pr.main.body.drop 5).take 1
theorem Yd(w:World)(os:OsState):segRunT treeTable pr w 11 (some (.ref 6)) 1 214 (S1 w os) (piecesOf SH env cE ⟨11,0,14,39⟩ B)=some (.next,S2 w os,cE,⟨15,0,16,8⟩):=mC z_
noncomputable def SI:List Stmt:=(pr.main.body.drop 6).take 8
theorem Ye(w:World)(os:OsState):segRunT treeTable pr w 11 (some (.ref 6)) 1 393 (S2 w os) (piecesOf SI env cE ⟨15,0,16,8⟩ B)=some (.next,S3 w os,cE,⟨32,0,32,6⟩):=mC z_
noncomputable def SJ:List Stmt:=(pr.main.body.drop 14).take 13
theorem Yg(w:World)(os:OsState):segRunT treeTable pr w 11 (some (.ref 6)) 1 372 (S3 w os) (piecesOf SJ env cE ⟨32,0,32,6⟩ B)=some (.next,S4 w os,cE,⟨66,0,67,44⟩):=mC z_
noncomputable def SK:List Stmt:=(pr.main.body.drop 27).take 16
theorem Yh(w:World)(os:OsState):segRunT treeTable pr w 11 (some (.ref 6)) 1 394 (S4 w os) (piecesOf SK env cE ⟨66,0,67,44⟩ B)=some (.next,S5 w os,cE,⟨110,0,111,36⟩):=mC z_
noncomputable def SL:List Stmt:=(pr.main.body.drop 43).take 15
theorem Yi(w:World)(os:OsState):segRunT treeTable pr w 11 (some (.ref 6)) 1 390 (S5 w os) (piecesOf SL env cE ⟨110,0,111,36⟩ B)=some (.next,S6 w os,cE,⟨167,0,174,21⟩):=mC z_
noncomputable def SN:List Stmt:=(pr.main.body.drop 58).take 15
theorem Yj(w:World)(os:OsState):segRunT treeTable pr w 11 (some (.ref 6)) 1 381 (S6 w os) (piecesOf SN env cE ⟨167,0,174,21⟩ B)=some (.next,S7 w os,cE,⟨218,0,222,15⟩):=mC z_
noncomputable def SO:List Stmt:=(pr.main.body.drop 73).take 14
theorem Yk(w:World)(os:OsState):segRunT treeTable pr w 11 (some (.ref 6)) 1 399 (S7 w os) (piecesOf SO env cE ⟨218,0,222,15⟩ B)=some (.next,S8 w os,cE,⟨275,0,279,54⟩):=mC z_
noncomputable def SQ:List Stmt:=(pr.main.body.drop 87).take 12
theorem Yl(w:World)(os:OsState):segRunT treeTable pr w 11 (some (.ref 6)) 1 374 (S8 w os) (piecesOf SQ env cE ⟨275,0,279,54⟩ B)=some (.next,S9 w os,cE,⟨358,0,359,107⟩):=mC z_
noncomputable def QT:List Stmt:=(pr.main.body.drop 99).take 8
theorem TR(w:World)(os:OsState):segRunT treeTable pr w 11 (some (.ref 6)) 1 261 (S9 w os) (piecesOf QT env cE ⟨358,0,359,107⟩ B)=some (.next,Yb w os,cE,⟨414,0,440,15⟩):=mC z_
noncomputable abbrev H1(P:Params):Heap:=absHeap (X9 P) 629 oV
theorem pre(w:World)(os:OsState):topGo treeTable pr w 11 (some (.ref 6)) 12 ⟨boot_heap w.params,#[],boot_drawn,boot_toks,os⟩ (topStub pr)=some (⟨⟨⟨Ox w.params⟩,oV⟩,#[],⟨0,0,0,0⟩,187,os⟩,⟨denote treeTable cE,cE,⟨0,0,0,0⟩,B⟩):=by rw[QS];exact RW z_
theorem Mw(w:World)(os:OsState):segRun treeTable pr w 11 (some (.ref 6)) 1 1 ⟨⟨⟨Ox w.params⟩,oV⟩,#[],⟨0,0,0,0⟩,187,os⟩ (blockOf (behindTheImports pr) env cE ⟨0,0,0,0⟩ B)=some (.next,(S0 w os).abs,cE,⟨0,0,0,0⟩):=by kernel_rfl
theorem Uo(w:World)(os:OsState):topRun treeTable pr w 11 (some (.ref 6)) 2 (Yb w os).abs ⟨doneF .next,cE,⟨414,0,440,15⟩,B⟩=some ⟨H1 w.params,#[],⟨0,0,0,0⟩,1071,os⟩:=QR z_
theorem Oz:behindTheImports pr=(SG++(SH++(SI++(SJ++(SK++(SL++(SN++(SO++(SQ++(QT++[])))))))))):=by kernel_rfl
theorem run(w:World)(os:OsState):topRun treeTable pr w 11 (some (.ref 6)) (12+(1+(297+(214+(393+(372+(394+(390+(381+(399+(374+(261+2)))))))))))) ⟨boot_heap w.params,#[],boot_drawn,boot_toks,os⟩ (topStub pr)=some ⟨H1 w.params,#[],⟨0,0,0,0⟩,1071,os⟩ :=
 go_top (pre w os) (piece_block (Mw w os) (Oy Oz (aaZ (aa0 (Yc w os)) (aaZ (aa0 (Yd w os)) (aaZ (aa0 (Ye w os)) (aaZ (aa0 (Yg w os)) (aaZ (aa0 (Yh w os)) (aaZ (aa0 (Yi w os)) (aaZ (aa0 (Yj w os)) (aaZ (aa0 (Yk w os)) (aaZ (aa0 (Yl w os)) (aaZ (aa0 (TR w os)) (piece_nil (Uo w os))))))))))))))
noncomputable abbrev q:Program:=view pr [81,106]
noncomputable def loose:List Str:=(["greatest_shared","least_common","LoadError","NoNumber","NoSlide","is_whole","is_number_below","are_two_wholes","is_ratio","NOUGHT","lowest","ratio","plus","minus","times","over","under","greater","lesser","sum_of","lesser_place","greater_place","do_cross","parted_in","first_side_by_side","is_within","parts_places","across","rooms_of","shown_by","all_cuts","greatest_cut","ON","BACK","is_way","other_way","ties_of","is_over","sent_over","load_of","loads_of","strains_of","top_of","weighed","common_bottom","in_units","sent_one_by_one","most_on","still_across","left_free","sent_by","top_by","least_top","slid_by","is_slide","has_form_of_slide","share_no_tie","not_sent","most_slid","slid_once","part_behind","slides_for","greatest_slide","ways_apart","HALF","nearest_way","half_of_greatest","rising_way","gain_of","rounding_of","rounded_ways","near_whole","_law_begun","_law_take","_law_low","_law_amount","_law_names","_law_rooms","_law_ends","_law_ring","_law_parts","_law_plus","_law_minus","_law_under","_law_ties","_law_loads","_law_all_loads","_law_top","_law_tops","_law_rounded"]:List String).map Str.ofString
noncomputable def Kf(P:Params):Frag:=(3,((SF P).getD 0 (0,default)).2)::[(20,(f1 P).getD 5 default),(21,(f1 P).getD 6 default),(27,(f2 P).getD 5 default),(28,(f2 P).getD 6 default),(29,(f4 P).getD 0 default),(30,(f4 P).getD 1 default),(31,(f4 P).getD 2 default),(32,(f4 P).getD 3 default),(33,(f4 P).getD 4 default),(34,(f4 P).getD 5 default),(35,(f4 P).getD 6 default),(36,(f4 P).getD 7 default),(37,(f4 P).getD 8 default),(38,(f4 P).getD 9 default),(39,(f4 P).getD 10 default),(40,(f4 P).getD 11 default),(41,(f4 P).getD 12 default),(42,(f4 P).getD 13 default),(43,(f4 P).getD 14 default),(44,(f4 P).getD 15 default),(45,(f4 P).getD 16 default),(46,(f4 P).getD 17 default),(47,(f4 P).getD 18 default),(48,(f4 P).getD 19 default),(49,(f5 P).getD 0 default),(50,(f5 P).getD 1 default),(51,(f5 P).getD 2 default),(52,(f5 P).getD 3 default),(53,(f5 P).getD 4 default),(54,(f5 P).getD 5 default),(55,(f5 P).getD 6 default),(56,(f5 P).getD 7 default),(57,(f5 P).getD 8 default),(58,(f5 P).getD 9 default),(59,(f5 P).getD 10 default),(60,(f5 P).getD 11 default),(61,(f6 P).getD 0 default),(62,(f6 P).getD 1 default),(63,(f6 P).getD 2 default),(64,(f6 P).getD 3 default),(65,(f6 P).getD 4 default),(66,(f6 P).getD 5 default),(67,(f6 P).getD 6 default),(68,(f6 P).getD 7 default),(69,(f6 P).getD 8 default),(70,(f6 P).getD 9 default),(71,(f6 P).getD 10 default),(72,(f6 P).getD 11 default),(73,(f6 P).getD 12 default),(74,(f6 P).getD 13 default),(75,(f6 P).getD 14 default),(76,(f6 P).getD 15 default),(77,(f6 P).getD 16 default),(78,(f6 P).getD 17 default),(79,(f6 P).getD 18 default),(85,(f8 P).getD 5 default),(86,(f8 P).getD 6 default),(92,(f9 P).getD 5 default),(93,(f9 P).getD 6 default),(99,(Ww P).getD 5 default),(100,(Ww P).getD 6 default),(106,(Wx P).getD 5 default),(107,(Wx P).getD 6 default),(108,(Wy P).getD 0 default),(114,(Wz P).getD 5 default),(115,(Wz P).getD 6 default),(121,(WA P).getD 5 default),(122,(WA P).getD 6 default),(128,(WB P).getD 5 default),(129,(WB P).getD 6 default),(135,(WC P).getD 5 default),(136,(WC P).getD 6 default),(142,(WD P).getD 5 default),(143,(WD P).getD 6 default),(149,(WE P).getD 5 default),(150,(WE P).getD 6 default),(156,(WG P).getD 5 default),(157,(WG P).getD 6 default),(163,(WH P).getD 5 default),(164,(WH P).getD 6 default),(170,(WI P).getD 5 default),(171,(WI P).getD 6 default),(177,(WJ P).getD 5 default),(178,(WJ P).getD 6 default),(184,(WL P).getD 5 default),(185,(WL P).getD 6 default),(191,(WM P).getD 5 default),(192,(WM P).getD 6 default),(198,(WN P).getD 5 default),(199,(WN P).getD 6 default),(203,(WO P).getD 3 default),(204,(WO P).getD 4 default),(210,(WQ P).getD 5 default),(211,(WQ P).getD 6 default),(217,(WR P).getD 5 default),(218,(WR P).getD 6 default),(224,(WS P).getD 5 default),(225,(WS P).getD 6 default),(229,(WT P).getD 3 default),(230,(WT P).getD 4 default),(236,(WU P).getD 5 default),(237,(WU P).getD 6 default),(243,(WV P).getD 5 default),(244,(WV P).getD 6 default),(248,(WW P).getD 3 default),(249,(WW P).getD 4 default),(255,(WX P).getD 5 default),(256,(WX P).getD 6 default),(262,(WY P).getD 5 default),(263,(WY P).getD 6 default),(269,(WZ P).getD 5 default),(270,(WZ P).getD 6 default),(274,(W0 P).getD 3 default),(275,(W0 P).getD 4 default),(281,(W1 P).getD 5 default),(282,(W1 P).getD 6 default),(288,(W2 P).getD 5 default),(289,(W2 P).getD 6 default),(293,(W3 P).getD 3 default),(294,(W3 P).getD 4 default),(298,(W4 P).getD 3 default),(299,(W4 P).getD 4 default),(303,(W5 P).getD 3 default),(304,(W5 P).getD 4 default),(310,(W6 P).getD 5 default),(311,(W6 P).getD 6 default),(315,(W7 P).getD 3 default),(316,(W7 P).getD 4 default),(322,(W8 P).getD 5 default),(323,(W8 P).getD 6 default),(327,(W9 P).getD 3 default),(328,(W9 P).getD 4 default),(334,(Xa P).getD 5 default),(335,(Xa P).getD 6 default),(341,(Xb P).getD 5 default),(342,(Xb P).getD 6 default),(346,(Xd P).getD 3 default),(347,(Xd P).getD 4 default),(351,(Xe P).getD 3 default),(352,(Xe P).getD 4 default),(356,(Xf P).getD 3 default),(357,(Xf P).getD 4 default),(363,(Xg P).getD 5 default),(364,(Xg P).getD 6 default),(370,(Xh P).getD 5 default),(371,(Xh P).getD 6 default),(377,(Xi P).getD 5 default),(378,(Xi P).getD 6 default),(384,(Xj P).getD 5 default),(385,(Xj P).getD 6 default),(391,(Xk P).getD 5 default),(392,(Xk P).getD 6 default),(396,(Xl P).getD 3 default),(397,(Xl P).getD 4 default),(403,(Xm P).getD 5 default),(404,(Xm P).getD 6 default),(410,(Xn P).getD 5 default),(411,(Xn P).getD 6 default),(417,(Xo P).getD 5 default),(418,(Xo P).getD 6 default),(424,(Xp P).getD 5 default),(425,(Xp P).getD 6 default),(431,(Xq P).getD 5 default),(432,(Xq P).getD 6 default),(438,(Xr P).getD 5 default),(439,(Xr P).getD 6 default),(445,(Xs P).getD 5 default),(446,(Xs P).getD 6 default),(447,(Xu P).getD 0 default),(453,(Xv P).getD 5 default),(454,(Xv P).getD 6 default),(460,(Xw P).getD 5 default),(461,(Xw P).getD 6 default),(467,(Xx P).getD 5 default),(468,(Xx P).getD 6 default),(474,(Xy P).getD 5 default),(475,(Xy P).getD 6 default),(481,(Xz P).getD 5 default),(482,(Xz P).getD 6 default),(488,(XA P).getD 5 default),(489,(XA P).getD 6 default),(493,(XB P).getD 3 default),(494,(XB P).getD 4 default),(500,(XC P).getD 5 default),(501,(XC P).getD 6 default),(507,(XE P).getD 5 default),(508,(XE P).getD 6 default),(514,(XG P).getD 5 default),(515,(XG P).getD 6 default),(521,(XH P).getD 5 default),(522,(XH P).getD 6 default),(528,(XI P).getD 5 default),(529,(XI P).getD 6 default),(533,(XJ P).getD 3 default),(534,(XJ P).getD 4 default),(540,(XM P).getD 5 default),(541,(XM P).getD 6 default),(547,(XN P).getD 5 default),(548,(XN P).getD 6 default),(554,(XQ P).getD 5 default),(555,(XQ P).getD 6 default),(561,(XR P).getD 5 default),(562,(XR P).getD 6 default),(568,(XS P).getD 5 default),(569,(XS P).getD 6 default),(575,(XT P).getD 5 default),(576,(XT P).getD 6 default),(582,(XU P).getD 5 default),(583,(XU P).getD 6 default),(589,(RX P).getD 5 default),(590,(RX P).getD 6 default),(596,(RY P).getD 5 default),(597,(RY P).getD 6 default),(603,(RZ P).getD 5 default),(604,(RZ P).getD 6 default),(610,(R0 P).getD 5 default),(611,(R0 P).getD 6 default),(617,(R1 P).getD 5 default),(618,(R1 P).getD 6 default),(622,(R3 P).getD 3 default),(623,(R3 P).getD 4 default),(627,(R4 P).getD 3 default),(628,(R4 P).getD 4 default)]
noncomputable abbrev as:List Addr:=[3,20,21,27,28,29,30,31,32,33,34,35,36,37,38,39,40,41,42,43,44,45,46,47,48,49,50,51,52,53,54,55,56,57,58,59,60,61,62,63,64,65,66,67,68,69,70,71,72,73,74,75,76,77,78,79,85,86,92,93,99,100,106,107,108,114,115,121,122,128,129,135,136,142,143,149,150,156,157,163,164,170,171,177,178,184,185,191,192,198,199,203,204,210,211,217,218,224,225,229,230,236,237,243,244,248,249,255,256,262,263,269,270,274,275,281,282,288,289,293,294,298,299,303,304,310,311,315,316,322,323,327,328,334,335,341,342,346,347,351,352,356,357,363,364,370,371,377,378,384,385,391,392,396,397,403,404,410,411,417,418,424,425,431,432,438,439,445,446,447,453,454,460,461,467,468,474,475,481,482,488,489,493,494,500,501,507,508,514,515,521,522,528,529,533,534,540,541,547,548,554,555,561,562,568,569,575,576,582,583,589,590,596,597,603,604,610,611,617,618,622,623,627,628]
noncomputable abbrev Hk:Hook:=kHook Kf as (λ_=>by kernel_rfl)
noncomputable abbrev Xt:Shared→Bool:=fun s=>xlAt q [] s && recOk (RowW.records PySem.Challenge.rw_ringloads_k41_whole_near_and_all_ways.row.toRowW) s
theorem size (w:World):((boot_heap w.params).isNs mainGlobals && (#[]:Array GenState).size == 0,(boot_heap w.params).objs.size,(boot_heap w.params).nsMap mainGlobals "__annotations__")=(true,11,some (.ref 6)):=by kernel_rfl
theorem Sf(w:World)(os:OsState):(staticsOk (importedModules pr.main.body) (boot_heap w.params) (H1 w.params) && namesBound pr (H1 w.params) && gensDone ⟨H1 w.params,#[],⟨0,0,0,0⟩,1071,os⟩ && laidKept (boot_heap w.params) (H1 w.params))=true:=by kernel_rfl
theorem Sg(w:World)(os:OsState):openSeen q loose (importedModules pr.main.body) Xt true ⟨H1 w.params,#[],⟨0,0,0,0⟩,1071,os⟩=openGood q loose:=by rw[Fast.te4187177175401517315];kernel_rfl
theorem Sh(w:World)(os:OsState):Hk.obs ⟨H1 w.params,#[],⟨0,0,0,0⟩,1071,os⟩=Hk.val w:=by kernel_rfl
theorem QU:opening pr=plainProg pr.main.scope.names:=by kernel_rfl
theorem left:LeftO pr q loose Xt Hk.obs Hk.val 7630:=LeftO.of_pieces (M:=(12+(1+(297+(214+(393+(372+(394+(390+(381+(399+(374+(261+2))))))))))))) (boot_open QU xp (λs=>by kernel_rfl)) size run y_ (λw=>funext λos=>looks_pair (Sf w os) (looks_pair (Sg w os) (Sh w os)))
end Hd
namespace My
open PySem L2
local macro_rules | `(tactic| walk_at $q:str)=>do
 if q.getString == "o" then Lean.Macro.throwUnsupported
 let ids:=("J4 ND J5 JX Gx Px JD MU Py JE MV JO P0 Nc Nq NN Ka Qb RA Nv Qc RC Nx RD NL Ny Pu Pv JC FY Bn Qa JW Nn Gu Es JZ Rc xx rn aT U9 a7 ax U8 ao iq wC bq bI vA cA aC cb br au pU aG U2 OW pZ Ec lR pX Ed Rt U6 pW Ru FZ Ee bj eR AY tK M9 JM J1 Vt xv eW JY Np Gw List.all_cons List.all_nil Bool.and_true Bool.true_and Rz AX Ra El Br mq tG F6 pY rW P8 OX Nl zA Bv Bw Ew a9 kD GJ Km ir de C4 iu bf p5 fU Eh wq MZ PH PJ rT Jl JG Kg Kh Ki Kj Kk NO NP NQ NR Qr Qs NS NT RL RM GQ GR NV P2 JT Ma Dd GT GH De wF kC Qt Kl List.length_map GI GK GL GM Ko Ex GN Bx By Bz zQ BA xE Kp xF Ei Bi Gb Gc tJ xk Kq NW Kr Ks Kt Ku Ey zS zT GS NX Em CW JN beq_self_eq_true String.reduceBEq String.reduceEq reduceCtorEq P7 Ej gm cZ iV bO Eo Gm Ep tP Gk P1 List.getElem?_cons_zero List.getElem?_cons_succ List.set_cons_zero List.set_cons_succ List.cons_append List.nil_append List.replicate_succ List.replicate_zero List.map_cons List.map_nil List.drop_succ_cons List.drop_zero Option.getD_some true_and decide_eq_true_eq Bool.not_eq_true' decide_eq_false_iff_not ite_true ite_false Bool.false_eq_true Bool.true_eq_false if_true if_false List.length_cons List.length_nil Nat.reduceAdd Nat.reduceSub zK zL Kc Qp RJ Tu Tv Tz Option.some.injEq exists_eq_left' exists_eq_left".splitOn " ").toArray.map fun s=>Lean.mkIdent ((s.splitOn ".").foldl Lean.Name.mkStr Lean.Name.anonymous)
 if q.getString=="v" then `(tactic| try simp only [$[$ids:ident],*]) else if q.getString=="w" then `(tactic| ((try dsimp only [$[$ids:ident],*]); try simp only [$[$ids:ident],*])) else `(tactic|(unfold $(Lean.mkIdent (Lean.Name.mkSimple q.getString)):ident;walk_at"w"))
local macro_rules | `(tactic| walk_at "o")=>`(tactic| first | exact Or.inl rfl | exact Or.inr rfl)
theorem v6{a b:Prop}(h:a∨b:=by walk_at "o"):a∨b:=h
noncomputable section
abbrev e8:=Hd.top 1
abbrev qo:List Str:=["one","other","rest"]
abbrev iz:=Hd.top 2
abbrev vL:List Str:=["one","other"]
abbrev qp:=Hd.top 8
abbrev EM:List Str:=["thing"]
abbrev fb:=Hd.top 9
abbrev qq:List Str:=["thing","many"]
abbrev fW:=Hd.top 10
abbrev rX:List Str:=["thing"]
abbrev qr:=Hd.top 11
abbrev EN:List Str:=["thing"]
abbrev yd:=Hd.top 14
abbrev Lc:List Str:=["top","bottom","shared"]
abbrev BP:=Hd.top 15
abbrev OA:List Str:=["top","bottom"]
abbrev Ib:=Hd.top 16
abbrev QV:List Str:=["one","other"]
abbrev BQ:=Hd.top 17
abbrev OB:List Str:=["one","other"]
abbrev BR:=Hd.top 18
abbrev OC:List Str:=["one","other"]
abbrev Ic:=Hd.top 19
abbrev QW:List Str:=["one","other"]
abbrev BS:=Hd.top 20
abbrev OD:List Str:=["one","other"]
abbrev ue:=Hd.top 21
abbrev Ie:List Str:=["one","other"]
abbrev ye:=Hd.top 22
abbrev Ld:List Str:=["one","other"]
abbrev yf:=Hd.top 23
abbrev Le:List Str:=["some","whole","one"]
abbrev iA:=Hd.top 25
abbrev vM:List Str:=["ring","k"]
abbrev gM:=Hd.top 26
abbrev uf:List Str:=["ring","k"]
abbrev qt:=Hd.top 27
abbrev EO:List Str:=["ring","k","l","low","high","first","last"]
abbrev jv:=Hd.top 28
abbrev ug:List Str:=["ring","sending"]
abbrev dj:=Hd.top 29
abbrev mh:List Str:=["ring","some","number","k","l"]
abbrev ny:=Hd.top 31
abbrev BU:List Str:=["cut","place"]
abbrev iB:=Hd.top 32
abbrev vN:List Str:=["cut","one","other"]
abbrev sT:=Hd.top 33
abbrev DU:List Str:=["ring","cut"]
abbrev qu:=Hd.top 34
abbrev ER:List Str:=["ring","cut"]
abbrev qv:=Hd.top 35
abbrev ES:List Str:=["ring","cut"]
abbrev lY:=Hd.top 36
abbrev wQ:List Str:=["ring","cuts","g"]
abbrev iC:=Hd.top 37
abbrev vO:List Str:=["ring","found","cut","shown"]
abbrev yg:=Hd.top 41
abbrev Lf:List Str:=["thing"]
abbrev nA:=Hd.top 42
abbrev BV:List Str:=["way"]
abbrev kL:=Hd.top 43
abbrev uh:List Str:=["ring","k","way","places","one","other"]
abbrev ui:=Hd.top 44
abbrev Ig:List Str:=["ring","k","way","tie","places","one","other","lies_on"]
abbrev nB:=Hd.top 46
abbrev BW:List Str:=["ring","sending","k","tie"]
abbrev oW:=Hd.top 47
abbrev Ab:List Str:=["ring","sending","tie"]
abbrev lZ:=Hd.top 48
abbrev wR:List Str:=["ring","sending"]
abbrev hX:=Hd.top 49
abbrev rC:List Str:=["ring","sending"]
abbrev yh:=Hd.top 50
abbrev Lg:List Str:=["ring","sending","strains","top","tie","strain"]
abbrev gN:=Hd.top 53
abbrev uj:List Str:=["some","bottom","one"]
abbrev l5:=Hd.top 54
abbrev wU:List Str:=["some","units"]
abbrev kM:=Hd.top 52
abbrev uk:List Str:=["ring","top","sizes","most","units"]
abbrev fE:=Hd.top 58
abbrev mD:List Str:=["ring","k","waiting","cut","asks"]
abbrev um:=Hd.top 57
abbrev Ih:List Str:=["ring","k","waiting","free","ties","twice","g","h"]
abbrev jw:=Hd.top 59
abbrev uo:List Str:=["ring","k","free","part","rest"]
abbrev fc:=Hd.top 56
abbrev qw:List Str:=["ring","top","scale","waiting","free","sending","k","size","part"]
abbrev oX:=Hd.top 61
abbrev Ac:List Str:=["ring","ways"]
abbrev yi:=Hd.top 62
abbrev Lh:List Str:=["ring","ways"]
abbrev nC:=Hd.top 64
abbrev BX:List Str:=["ring","greatest"]
abbrev jx:=Hd.top 73
abbrev yj:List Str:=["part","way","amount"]
abbrev nD:=Hd.top 72
abbrev BY:List Str:=["sending","slide","slid"]
abbrev fF:=Hd.top 69
abbrev mE:List Str:=["ring","k","way","l","other","taken"]
abbrev dN:=Hd.top 68
abbrev nE:List Str:=["thing","asks"]
abbrev qx:=Hd.top 70
abbrev ET:List Str:=["ring","sending","k","way"]
abbrev nF:=Hd.top 71
abbrev BZ:List Str:=["ring","sending","slide"]
abbrev qy:=Hd.top 67
abbrev EU:List Str:=["ring","sending","thing"]
abbrev uq:=Hd.top 66
abbrev Ii:List Str:=["ring","sending","thing","slid","number","slide"]
abbrev kN:=Hd.top 76
abbrev Ad:List Str:=["ring","k","l","ways"]
abbrev fX:=Hd.top 75
abbrev rY:List Str:=["ring","sending","k","l","ways","slide"]
abbrev kO:=Hd.top 74
abbrev Ae:List Str:=["ring","sending","slid","slides","pair","slide"]
abbrev jy:=Hd.top 79
abbrev yk:List Str:=["ask","part"]
abbrev d7:=Hd.top 80
abbrev oY:List Str:=["ring","some","greatest","k"]
abbrev cV:=Hd.top 81
abbrev qz:List Str:=["ring","some"]
abbrev kP:=Hd.top 82
abbrev Af:List Str:=["ring","k"]
abbrev ur:=Hd.top 83
abbrev Ij:List Str:=["ring","sending","k","way","size","rising"]
abbrev fG:=Hd.top 85
abbrev mF:List Str:=["ring","slid","parted","ways","half","whole","k"]
abbrev jz:=Hd.top 84
abbrev yl:List Str:=["ring","sending","slides"]
abbrev kQ:=Hd.top 86
abbrev Ag:List Str:=["ring","least","rounding","ways"]
abbrev kR:=Hd.top 88
abbrev Ah:List Str:=["_law_script","_law_k","_law_cell"]
abbrev nG:=Hd.top 89
abbrev B0:List Str:=["_law_state","_law_many","_law_digit","_law_drawn","_law_turn"]
abbrev fP:=Hd.top 92
abbrev kT:List Str:=["_law_state","_law_many","_law_letters","_law_base","_law_at","_law_turn"]
abbrev qC:=Hd.top 90
abbrev EV:List Str:=["_law_top_here","_law_bottom","_law_one","_law_share"]
abbrev jA:=Hd.top 91
abbrev ym:List Str:=["_law_state","_law_least","_law_kind","_law_bottom","_law_top_here"]
abbrev kU:=Hd.top 93
abbrev Ai:List Str:=["_law_state","_law_ties_here","_law_kind","_law_alike","_law_one","_law_rooms_here","_law_more"]
abbrev nH:=Hd.top 94
abbrev B1:List Str:=["_law_state","_law_shape","_law_places","_law_k","_law_one","_law_other"]
abbrev nI:=Hd.top 95
abbrev B2:List Str:=["_law_script","_law_at","_law_most","_law_count","_law_state","_law_places","_law_many","_law_kinds","_law_shape","_law_names_here","_law_rooms_here","_law_asks","_law_k","_law_one","_law_other"]
abbrev nJ:=Hd.top 100
abbrev B3:List Str:=["_law_ring_here","_law_k","_law_way","_law_name","_law_one","_law_other","_law_size","_law_ties_here"]
abbrev nK:=Hd.top 97
abbrev B4:List Str:=["_law_one","_law_other"]
abbrev fY:=Hd.top 102
abbrev rZ:List Str:=["_law_ring_here","_law_found","_law_k","_law_ask","_law_more","_law_ways","_law_loads_here","_law_way","_law_behind","_law_tie"]
abbrev kW:=Hd.top 99
abbrev Aj:List Str:=["_law_one","_law_other"]
abbrev qD:=Hd.top 103
abbrev EW:List Str:=["_law_ring_here","_law_loads_here","_law_best","_law_tie","_law_load","_law_strain"]
abbrev nL:=Hd.top 104
abbrev B5:List Str:=["_law_ring_here","_law_rows","_law_best","_law_ways","_law_loads_here","_law_top_here"]
abbrev kX:=Hd.top 98
abbrev Ak:List Str:=["_law_one","_law_other"]
abbrev kY:=Hd.top 101
abbrev Al:List Str:=["_law_ring_here","_law_sending","_law_loads_here","_law_k","_law_part","_law_way","_law_gone","_law_tie"]
abbrev fH:=Hd.top 105
abbrev mG:List Str:=["_law_ring_here","_law_rows","_law_sending","_law_most","_law_slides","_law_told","_law_loads_here","_law_found","_law_tie","_law_load"]
abbrev kZ:=Hd.top 96
abbrev Am:List Str:=["_law_state","_law_ring_here","_law_parts_here","_law_name","_law_one","_law_other","_law_size","_law_way","_law_share"]
abbrev Ik:=Hd.top 106
abbrev QX:List Str:=["_law_script","_law_ring_here","_law_rows","_law_best","_law_least","_law_ways","_law_top_here","_law_rounding","_law_told","_law_most","_law_name","_law_one","_law_other","_law_size","_law_room","_law_bound","_law_k","_law_state","_law_ties_here"]
end
def bZ:FS:=λls k4=>∃a b:Int,ls=[.d (.int a),.d (.int b)]/\k4 (.d (.int (Int.gcd a b))) ls
def nM:W Fl:=(aT (bq 2 (ax fU (ao 0) (ao 1)))
  (aT (bq 0 (ao 1))
  (bq 1 (ao 2))))
def ff:W Fl:=(aT (tF (a7 (ax Jl (ao 1) (wC (.int 0)))) nM)
  (bI (br Ei (au (ao 0) aG))))
abbrev aa6(n k:Nat)(f:FS)(m:W Fl):Prop:=∀ls k4,ls.length=n->f ls k4->m (ls++List.replicate k .un) (aP ls k4)
theorem nN:aa6 2 1 bZ ff:=by
 rintro ls k4 - ⟨a,b,rfl,h⟩;walk_at"ff";refine⟨λn Z=>∃x y r,Z=[.d (.int x),.d (.int y),r]/\Int.gcd x y=Int.gcd a b/\n=y.natAbs,⟨_,a,b,_,rfl,rfl,rfl⟩,?_⟩;rintro n Z ⟨x,y,r,rfl,hg,rfl⟩;walk_at"w";split
 .
  rename_i hy;have hy:y≠0:=by simpa using hy
  exact⟨hy,_,mv x hy,y,x.fmod y,_,rfl,by rw[CY];exact hg,rfl⟩
 .
  rename_i hy;have hy:y=0:=by simpa using hy
  subst hy;refine⟨_,aj (aj aL),?_⟩
  have e:(if x<0 then -x else x)=((Int.gcd a b:Nat):Int):=by rw[<- hg,Int.gcd_zero_right];split<;>omega
  rw[e];exact h
def gO:FS:=λls k4=>∃a b:Nat,ls=[.d (.int a),.d (.int b)]/\0<b/\a<2^4400/\b<2^4400/\k4 (.d (.int (Nat.lcm a b))) ls
def iD:W Fl:=(bI (ax bf (ax p5 (ao 0) (aC bZ (au (ao 0) (au (ao 1) aG)))) (ao 1)))
theorem r6:aa6 2 0 gO iD:=by
 rintro ls k4 - ⟨a,b,rfl,hb,ha,hb2,h⟩;walk_at"iD";refine⟨_,_,rfl,?_⟩;walk_at"w";have g0:0<Int.gcd (a:Int) (b:Int):=Nat.gcd_pos_of_pos_right _ hb;have g1:Int.gcd (a:Int) (b:Int)<=b:=Nat.gcd_le_right _ hb;have e1:((a:Int).fdiv (Int.gcd (a:Int) (b:Int):Int)).natAbs<=a:=by rw[ZP _ xL];show(((a:Int) / ((Nat.gcd a b:Nat):Int))).natAbs<=a;rw[<- Int.natCast_ediv,YI];exact Nat.div_le_self _ _
 refine⟨xL,?_,?_,?_,?_⟩
 . rw[YI];exact YL g1 (so hb2 (YF xp xp))
 . exact bG (YL e1 ha) xp
 . exact bG (n:=4400) (by rw[YI];exact hb2) xp
 . rw[N8 hb];exact⟨_,aj (aj aL),h⟩
def dO:FS:=λls k4=>(∃i:Int,ls=[.d (.int i)]/\k4 (.d (.bl true)) ls)∨∃d:D,ls=[.d d]/\(∀i,d≠.int i)/\k4 (.d (.bl false)) ls
def l6:W Fl:=(bI (pW (U8 (xk "int") (ao 0)) (FZ (a7 (U8 (xk "bool") (ao 0))))))
theorem An:aa6 1 0 dO l6:=by
 rintro ls k4-(⟨i,rfl,h⟩|⟨d,rfl,hd,h⟩)
 . walk_at"l6";exact⟨_,aj aL,h⟩
 .
  unfold l6
  cases d with
  |int i=>exact absurd rfl (hd i)
  |_=>walk_at"w"; exact⟨_,aj aL,h⟩
def cH:FS:=λls k4=>∃(d:D)(n:Int),ls=[.d d,.d (.int n)]/\k4 (.d (.bl (uc d n))) ls
def fg:W Fl:=(bI (pW (aC dO (au (ao 0) aG)) (zA MZ wq (wC (.int 0)) (ao 0) (ao 1))))
theorem nO:aa6 2 0 cH fg:=by
 rintro ls k4 - ⟨d,n,rfl,h⟩;unfold fg;by_cases hd:∃i,d=.int i
 .
  obtain⟨i,rfl⟩:=hd;have h:k4 (.d (.bl (decide (0<=i/\i<n)))) [.d (.int i),.d (.int n)]:=h;walk_at"w";refine .inl ⟨i,rfl,?_⟩;walk_at"w";by_cases c:0<=i
  .
   rw[if_pos c];have e:decide (0<=i/\i<n)=decide (i<n):=by rw[aas];omega
   rw[e]at h;exact⟨_,aj (aj aL),h⟩
  . rw[if_neg c];have e:decide (0<=i/\i<n)=false:=YZ xL;rw[e]at h;exact⟨_,aj (aj aL),h⟩
 .
  have e:uc d n=false:=by
   unfold uc;split
   . exact absurd ⟨_,rfl⟩ hd
   . rfl
  rw[e]at h;walk_at"w";refine .inr ⟨d,rfl,λi e=>hd ⟨i,e⟩,?_⟩;walk_at"w";exact⟨_,aj (aj aL),h⟩
noncomputable def TU:D->Bool
 |.tup [.int _,.int _]=>true
 |_=>false
def fh:FS:=λls k4=>(∃i j:Int,ls=[.d (.tup [.int i,.int j])]/\k4 (.d (.bl true)) ls)∨∃d:D,ls=[.d d]/\(∀i j,d≠.tup [.int i,.int j])/\k4 (.d (.bl false)) ls
def dE:W Fl:=(bI (pW (U8 (xk "tuple") (ao 0)) (pW (ax rT (br dY (au (ao 0) aG)) (wC (.int 2))) (pW (aC dO (au (ax aJ (ao 0) (wC (.int 0))) aG)) (aC dO (au (ax aJ (ao 0) (wC (.int 1))) aG))))))
theorem oZ:aa6 1 0 fh dE:=by
 rintro ls k4-(⟨i,j,rfl,h⟩|⟨d,rfl,hd,h⟩)
 . walk_at"dE";refine .inl ⟨_,rfl,?_⟩;walk_at"w";refine .inl ⟨_,rfl,?_⟩;walk_at"w";exact⟨_,aj aL,h⟩
 .
  unfold dE;have Uo:aP [.d d] k4 (.rt (.d (.bl false))) [.d d]:=⟨_,aj aL,h⟩;by_cases ht:∃xs,d=.tup xs
  .
   obtain⟨xs,rfl⟩:=ht;by_cases hl:xs.length=2
   .
    obtain⟨x,y,rfl⟩:∃x y,xs=[x,y]:=by rcases xs with _|⟨x,_|⟨y,_|⟨z,r⟩⟩⟩<;>simp at hl;exact⟨_,_,rfl⟩
    have wh:∀z:D,(∃i,z=.int i)∨(∀i,z≠.int i):=λz=>by cases z<;>simp
    walk_at"w";rcases wh x with⟨i,rfl⟩|hx
    .
     refine .inl ⟨_,rfl,?_⟩;rcases wh y with⟨j,rfl⟩|hy
     . exact absurd rfl (hd i j)
     . walk_at"w";refine .inr ⟨_,rfl,hy,?_⟩;walk_at"w";exact Uo
    . refine .inr ⟨_,rfl,hx,?_⟩;walk_at"w";exact Uo
   .
    walk_at"w";have e:¬((xs.length:Int)=2):=by omega
    simp only[e,decide_false];exact Uo
  .
   have ei:p6 "tuple" d=false:=by
    cases d<;>first
     |exact absurd ⟨_,rfl⟩ ht
     |rfl
   walk_at"w";rw[ei];walk_at"w";exact Uo
def nQ:FS:=λls k4=>∃d:D,ls=[.d d]/\k4 (.d (.bl (BL d))) ls
def l7:W Fl:=(bI (pW (aC fh (au (ao 0) aG)) (pW (ax PJ (ax aJ (ao 0) (wC (.int 1))) (wC (.int 1))) (ax rT (aC bZ (au (ax aJ (ao 0) (wC (.int 0))) (au (ax aJ (ao 0) (wC (.int 1))) aG))) (wC (.int 1))))))
theorem Ao:aa6 1 0 nQ l7:=by
 rintro ls k4 - ⟨d,rfl,h⟩;by_cases hd:∃i j,d=.tup [.int i,.int j]
 .
  obtain⟨i,j,rfl⟩:=hd;walk_at"l7";refine .inl ⟨_,_,rfl,?_⟩;walk_at"w";have e:BL (.tup [.int i,.int j])=(decide (1<=j) && decide ((Int.gcd i j:Int)=1)):=rfl;rw[e]at h;split
  . rename_i hj;refine⟨_,_,rfl,?_⟩;walk_at"w";have hj':(1:Int)<=j:=hj;rw[Zg hj',Bool.true_and]at h;exact⟨_,aj aL,h⟩
  . rename_i hj;have hj':¬(1:Int)<=j:=hj;rw[YZ hj',Bool.false_and]at h;exact⟨_,aj aL,h⟩
 . have hn:∀i j,d≠.tup [.int i,.int j]:=λi j e=>hd ⟨i,j,e⟩;rw[Hm hn]at h;walk_at"l7";refine .inr ⟨_,rfl,hn,?_⟩;walk_at"w";exact⟨_,aj aL,h⟩
def gQ:FS:=λls k4=>∃t b:Int,ls=[.d (.int t),.d (.int b)]/\b≠0/\b.natAbs<2^9000/\k4 (.d (Vp (Rat.divInt t b))) ls
def yn:W Fl:=(aT (bq 2 (bj (aC bZ (au (ao 0) (au (ao 1) aG)))))
  (aT (U9 (a7 (ax wq (ao 1) (wC (.int 0)))) (bq 2 (U8 JG (ao 2))) cA)
  (bI (lR (au (ax p5 (ao 0) (ao 2)) (au (ax p5 (ao 1) (ao 2)) aG))))))
theorem EX:aa6 2 1 gQ yn:=by
 rintro ls k4 - ⟨t,b,rfl,hb,hz,h⟩;walk_at"yn";refine⟨t,b,rfl,?_⟩;walk_at"w";have h1:=CZ (t:=t) hb;have h2:=YL (C0 (t:=t) hb) hz
 have Uo:∀{g:Int}{Z:Ev},g=dh t b->g≠0/\g.natAbs<2^9000/\g≠0/\g.natAbs<2^9000/\2<=sizeLine/\aP [.d (.int t),.d (.int b)] k4 (.rt (.d (.tup [.int (t.fdiv g),.int (b.fdiv g)]))) Z:=λ{g Z} e=>by
  have e1:g≠0:=by rw[e];exact h1
  have e2:g.natAbs<2^9000:=by rw[e];exact h2
  refine⟨e1,e2,e1,e2,xp,_,aj (aj aL),?_⟩;rw[Dc hb e];exact h
 split
 . rename_i hlt;exact Uo (by simp[dh,hlt])
 . rename_i hlt;exact Uo (by simp[dh,hlt])
def yo:FS:=λls k4=>∃t b:Int,ls=[.d (.int t),.d (.int b)]/\b≠0/\b.natAbs<2^9000/\k4 (.d (Vp (Rat.divInt t b))) ls
def B6:W Fl:=(aT (U9 (U6 (Ed (a7 (aC dO (au (ao 0) aG)))) (U6 (Ed (a7 (aC dO (au (ao 1) aG)))) (a7 (ax rT (ao 1) (wC (.int 0)))))) zm cA)
  (bI (aC gQ (au (ao 0) (au (ao 1) aG)))))
theorem Il:aa6 2 0 yo B6:=by rintro ls k4 - ⟨t,b,rfl,hb,hb2,h⟩;walk_at"B6";refine .inl ⟨_,rfl,?_⟩;walk_at"w";refine .inl ⟨_,rfl,?_⟩;walk_at"w";rw[if_neg hb];refine⟨_,_,rfl,hb,hb2,?_⟩;exact⟨_,aj (aj aL),h⟩
def jB:FS:=λls k4=>∃p q:Rat,ls=[.d (Vp p),.d (Vp q)]/\RB 400000 p/\RB 400000 q/\p.den*q.den<2^9000/\k4 (.d (Vp (p+q))) ls
def Im:W Fl:=(bI (aC gQ (au (bj (ax de (ax bf (ax aJ (ao 0) (wC (.int 0))) (ax aJ (ao 1) (wC (.int 1)))) (ax bf (ax aJ (ao 1) (wC (.int 0))) (ax aJ (ao 0) (wC (.int 1)))))) (au (bj (ax bf (ax aJ (ao 0) (wC (.int 1))) (ax aJ (ao 1) (wC (.int 1))))) aG))))
theorem Li:aa6 2 0 jB Im:=by rintro ls k4 - ⟨p,q,rfl,hp,hq,hz,h⟩;unfold Im;simp only[Vp];walk_at"w";refine⟨hp.bn xp,hq.bd xp,hq.bn xp,hp.bd xp,hp.bd xp,hq.bd xp,_,_,rfl,qc p q,by rw[lU];exact hz,_,aj (aj aL),?_⟩;rw[zz];exact h
theorem DV{p q:Rat}{k4:L->List L->Prop}(hp:RB 4400 p)(hq:RB 4400 q)(h:k4 (.d (Vp (p+q))) [.d (Vp p),.d (Vp q)]):jB [.d (Vp p),.d (Vp q)] k4 :=
 ⟨p,q,rfl,hp.mono xp,hq.mono xp,so (aZ hp.2 hq.2) (YF xp xp),h⟩
def fJ:FS:=λls k4=>∃p q:Rat,ls=[.d (Vp p),.d (Vp q)]/\RB 400000 p/\RB 400000 q/\p.den*q.den<2^9000/\k4 (.d (Vp (p-q))) ls
def B7:W Fl:=(bI (aC gQ (au (ax iu (ax bf (ax aJ (ao 0) (wC (.int 0))) (ax aJ (ao 1) (wC (.int 1)))) (ax bf (ax aJ (ao 1) (wC (.int 0))) (ax aJ (ao 0) (wC (.int 1))))) (au (bj (ax bf (ax aJ (ao 0) (wC (.int 1))) (ax aJ (ao 1) (wC (.int 1))))) aG))))
theorem Io:aa6 2 0 fJ B7:=by rintro ls k4 - ⟨p,q,rfl,hp,hq,hz,h⟩;unfold B7;simp only[Vp];walk_at"w";refine⟨hp.bn xp,hq.bd xp,hq.bn xp,hp.bd xp,hp.bd xp,hq.bd xp,_,_,rfl,qc p q,by rw[lU];exact hz,_,aj (aj aL),?_⟩;rw[LR];exact h
theorem iZ{p q:Rat}{k4:L->List L->Prop}(hp:RB 4400 p)(hq:RB 4400 q)(h:k4 (.d (Vp (p-q))) [.d (Vp p),.d (Vp q)]):fJ [.d (Vp p),.d (Vp q)] k4 :=
 ⟨p,q,rfl,hp.mono xp,hq.mono xp,so (aZ hp.2 hq.2) (YF xp xp),h⟩
def sU:FS:=λls k4=>∃p q:Rat,ls=[.d (Vp p),.d (Vp q)]/\RB 4400 p/\RB 4400 q/\k4 (.d (Vp (p*q))) ls
def B8:W Fl:=(bI (aC gQ (au (bj (ax bf (ax aJ (ao 0) (wC (.int 0))) (ax aJ (ao 1) (wC (.int 0))))) (au (bj (ax bf (ax aJ (ao 0) (wC (.int 1))) (ax aJ (ao 1) (wC (.int 1))))) aG))))
theorem Ip:aa6 2 0 sU B8:=by
 rintro ls k4 - ⟨p,q,rfl,hp,hq,h⟩;walk_at"B8";refine⟨hp.bn xp,hq.bn xp,hp.bd xp,hq.bd xp,_,_,rfl,qc p q,?_,_,aj (aj aL),?_⟩
 . rw[lU];exact so (aZ hp.2 hq.2) (YF xp xp)
 . rw[LZ];exact h
def yp:FS:=λls k4=>∃p q:Rat,ls=[.d (Vp p),.d (Vp q)]/\RB 4400 p/\RB 4400 q/\q≠0/\k4 (.d (Vp (p / q))) ls
def Iq:W Fl:=(aT (U9 (a7 (ax rT (ax aJ (ao 1) (wC (.int 0))) (wC (.int 0)))) zm cA)
  (bI (aC gQ (au (bj (ax bf (ax aJ (ao 0) (wC (.int 0))) (ax aJ (ao 1) (wC (.int 1))))) (au (bj (ax bf (ax aJ (ao 0) (wC (.int 1))) (ax aJ (ao 1) (wC (.int 0))))) aG)))))
theorem Lj:aa6 2 0 yp Iq:=by
 rintro ls k4 - ⟨p,q,rfl,hp,hq,h0,h⟩;walk_at"Iq";rw[if_neg (wB h0)];walk_at"w";refine⟨hp.bn xp,hq.bd xp,hp.bd xp,hq.bn xp,_,_,rfl,ZN (iy p) (wB h0),?_,_,aj (aj aL),?_⟩
 . rw[Zn,YI];exact so (aZ hp.2 hq.1) (YF xp xp)
 . rw[zN p h0];exact h
def d8:FS:=λls k4=>∃p q:Rat,ls=[.d (Vp p),.d (Vp q)]/\RB 400000 p/\RB 400000 q/\k4 (.d (.bl (decide (p<q)))) ls
def B9:W Fl:=(bI (ax wq (ax bf (ax aJ (ao 0) (wC (.int 0))) (ax aJ (ao 1) (wC (.int 1)))) (ax bf (ax aJ (ao 1) (wC (.int 0))) (ax aJ (ao 0) (wC (.int 1))))))
theorem Ir:aa6 2 0 d8 B9:=by rintro ls k4 - ⟨p,q,rfl,hp,hq,h⟩;walk_at"B9";refine⟨hp.bn xp,hq.bd xp,hq.bn xp,hp.bd xp,_,aj (aj aL),?_⟩;rw[Qq];exact h
def qE:FS:=λls k4=>∃p q:Rat,ls=[.d (Vp p),.d (Vp q)]/\RB 400000 p/\RB 400000 q/\k4 (.d (Vp (if p<q then q else p))) ls
def uu:W Fl:=(bI (Ee (a7 (aC d8 (au (ao 0) (au (ao 1) aG)))) (ao 1) (ao 0)))
theorem Ca:aa6 2 0 qE uu:=by
 rintro ls k4 - ⟨p,q,rfl,hp,hq,h⟩;walk_at"uu";refine⟨p,q,rfl,hp,hq,?_⟩;walk_at"w";split
 . rename_i hl;rw[if_pos hl]at h;exact⟨_,aj (aj aL),h⟩
 . rename_i hl;rw[if_neg hl]at h;exact⟨_,aj (aj aL),h⟩
def uv:FS:=λls k4=>∃p q:Rat,ls=[.d (Vp p),.d (Vp q)]/\RB 400000 p/\RB 400000 q/\k4 (.d (Vp (if q<p then q else p))) ls
def yq:W Fl:=(bI (Ee (a7 (aC d8 (au (ao 1) (au (ao 0) aG)))) (ao 1) (ao 0)))
theorem EY:aa6 2 0 uv yq:=by
 rintro ls k4 - ⟨p,q,rfl,hp,hq,h⟩;walk_at"yq";refine⟨q,p,rfl,hq,hp,?_⟩;walk_at"w";split
 . rename_i hl;rw[if_pos hl]at h;exact⟨_,aj (aj aL),h⟩
 . rename_i hl;rw[if_neg hl]at h;exact⟨_,aj (aj aL),h⟩
def o5:FS:=λls k4=>∃(qs:List Rat)(x:D),ls=[.d x]/\(x=.lst (qs.map Vp)∨x=.tup (qs.map Vp))/\qs.length<=63/\(∀q∈qs,RB 4400 q)/\Qw qs/\k4 (.d (Vp (eX qs))) ls
def i4:W Fl:=(bq 1 (aC jB (au (ao 1) (au (ao 2) aG))))
def yr:W Fl:=(aT (bq 1 (wC (.tup [(.int 0),(.int 1)])))
  (aT (mq (pY (ao 0)) (a9 2) i4)
  (bI (iq 1))))
theorem yt{x:D}{k4:Fl->Ev->Prop}:∀(qs:List Rat)(acc:Rat)(n:Nat)(r:L),qs.length<=63->n+4401*qs.length<=400000->RB n acc->(∀q∈qs,RB 4400 q)->acc.den*wD qs<2^9000->(∀r',k4 .nx [.d x,.d (Vp (qs.foldl (·+·) acc)),r']) ->
  ck (a9 2) i4 (qs.map Vp) [.d x,.d (Vp acc),r] k4
 |[],acc,n,r,_,_,_,_,_,h=>h r
 | q::qs,acc,n,r,hl,hn,ha,hq,hd,h=>by have hd':acc.den*(q.den*wD qs)<2^9000:=hd;have hq1:=hq q k5;have hlc:(q::qs).length=qs.length+1:=rfl;have dpos:0<wD qs:=oN qs;have hz:acc.den*q.den<2^9000:=YL (by rw[<- Nat.mul_assoc];exact Nat.le_mul_of_pos_right _ dpos) hd';show ck _ _ (Vp q::qs.map Vp) _ _;unfold ck i4;walk_at"w";refine⟨acc,q,rfl,ha.mono xL,hq1.mono xp,hz,?_⟩;refine yt qs (acc+q) (n+4400+1) _ xL xL (ha.add hq1) (λz hz=>hq z (fI _ hz)) (YL ?_ hd') h;rw[<- Nat.mul_assoc];exact Nat.mul_le_mul_right _ (En acc q)
theorem uw{x:D}{E:Nat}(e0:0<E)(e1:E<2^4400){k4:Fl->Ev->Prop}:∀(qs:List Rat)(acc:Rat)(n:Nat)(r:L),qs.length<=63->n+4401*qs.length<=400000->RB n acc->(∀q∈qs,RB 4400 q)->acc.den∣E->(∀q∈qs,q.den∣E)->(∀r',k4 .nx [.d x,.d (Vp (qs.foldl (·+·) acc)),r']) ->
  ck (a9 2) i4 (qs.map Vp) [.d x,.d (Vp acc),r] k4
 |[],acc,n,r,_,_,_,_,_,_,h=>h r
 | q::qs,acc,n,r,hl,hn,ha,hq,hd,hds,h=>by have hq1:=hq q k5;have hq2:=hds q k5;have hlc:(q::qs).length=qs.length+1:=rfl;have hz:acc.den*q.den<2^9000:=so (aZ (m:=4400) (n:=4400) (YL (ZU e0 hd) e1) (YL (ZU e0 hq2) e1)) (YF xp xp);show ck _ _ (Vp q::qs.map Vp) _ _;unfold ck i4;walk_at"w";refine⟨acc,q,rfl,ha.mono xL,hq1.mono xp,hz,?_⟩;exact uw e0 e1 qs (acc+q) (n+4400+1) _ xL xL (ha.add hq1) (λz hz=>hq z (fI _ hz)) (G2 e0 hd hq2) (λz hz=>hds z (fI _ hz)) h
theorem Fb:aa6 1 2 o5 yr:=by
 rintro ls k4 - ⟨qs,x,rfl,hx,hl,hq,hd,h⟩;unfold yr;have Uo:∀r',aP [.d x] k4 (.rt (.d (Vp (eX qs)))) [.d x,.d (Vp (eX qs)),r']:=λr'=>⟨_,aj aL,h⟩;rcases hx with rfl|rfl
 .
  walk_at"w";rcases hd with hd|⟨E,e0,e1,hd⟩
  . exact yt qs 0 1 .un hl xL ⟨xp,xp⟩ hq (by show 1*_<_;rw[Nat.one_mul];exact hd) λr'=>Uo r'
  . exact uw e0 e1 qs 0 1 .un hl xL ⟨xp,xp⟩ hq (Nat.one_dvd _) hd λr'=>Uo r'
 .
  walk_at"w";rcases hd with hd|⟨E,e0,e1,hd⟩
  . exact yt qs 0 1 .un hl xL ⟨xp,xp⟩ hq (by show 1*_<_;rw[Nat.one_mul];exact hd) λr'=>Uo r'
  . exact uw e0 e1 qs 0 1 .un hl xL ⟨xp,xp⟩ hq (Nat.one_dvd _) hd λr'=>Uo r'
noncomputable def Ym(a:VJ):Nat:=max a.one a.other
def cP:FS:=λls k4=>∃(R:aF)(k:Nat)(hk:k<R.asks.length),ls=[.d (aO R),.d (.int k)]/\k4 (.d (.int (Wg R.asks[k]))) ls
def iE:W Fl:=(bI (br Bi (au (ax aJ (ax aJ (ax aJ (ao 0) (wC (.int 1))) (ao 1)) (wC (.int 1))) (au (ax aJ (ax aJ (ax aJ (ao 0) (wC (.int 1))) (ao 1)) (wC (.int 2))) aG))))
theorem r9:aa6 2 0 cP iE:=by
 rintro ls k4 - ⟨R,k,hk,rfl,h⟩;walk_at"iE";refine⟨_,bt hk,?_⟩;walk_at"w";refine⟨_,bt hk,?_⟩;walk_at"w"
 have e:(if((R.asks[k].other:Nat):Int)<(R.asks[k].one:Int)then((R.asks[k].other:Nat):Int)else(R.asks[k].one:Int))=((Wg R.asks[k]:Nat):Int):=by unfold Wg;split<;>omega
 first|rw[e] | skip
 exact⟨_,aj (aj aL),h⟩
def dF:FS:=λls k4=>∃(R:aF)(k:Nat)(hk:k<R.asks.length),ls=[.d (aO R),.d (.int k)]/\k4 (.d (.int ((max R.asks[k].one R.asks[k].other:Nat):Int))) ls
def gR:W Fl:=(bI (br Gb (au (ax aJ (ax aJ (ax aJ (ao 0) (wC (.int 1))) (ao 1)) (wC (.int 1))) (au (ax aJ (ax aJ (ax aJ (ao 0) (wC (.int 1))) (ao 1)) (wC (.int 2))) aG))))
theorem qF:aa6 2 0 dF gR:=by
 rintro ls k4 - ⟨R,k,hk,rfl,h⟩;walk_at"gR";refine⟨_,bt hk,?_⟩;walk_at"w";refine⟨_,bt hk,?_⟩;walk_at"w"
 have e:(if((R.asks[k].other:Nat):Int) > (R.asks[k].one:Int)then((R.asks[k].other:Nat):Int)else(R.asks[k].one:Int))=((max R.asks[k].one R.asks[k].other:Nat):Int):=by split<;>omega
 first|rw[e] | skip
 exact⟨_,aj (aj aL),h⟩
noncomputable def Ap(a b:VJ):Bool:=decide (min a.one a.other<min b.one b.other/\min b.one b.other<max a.one a.other/\max a.one a.other<max b.one b.other) ||decide (min b.one b.other<min a.one a.other/\min a.one a.other<max b.one b.other/\max b.one b.other<max a.one a.other)
def nR:FS:=λls k4=>∃(R:aF)(k l:Nat)(hk:k<R.asks.length)(hl:l<R.asks.length),ls=[.d (aO R),.d (.int k),.d (.int l)]/\k4 (.d (.bl (Ap R.asks[k] R.asks[l]))) ls
def qG:W Fl:=(aT (bq 3 (bj (aC cP (au (ao 0) (au (ao 1) aG)))))
  (aT (bq 4 (bj (aC dF (au (ao 0) (au (ao 1) aG)))))
  (aT (bq 5 (bj (aC cP (au (ao 0) (au (ao 2) aG)))))
  (aT (bq 6 (bj (aC dF (au (ao 0) (au (ao 2) aG)))))
  (bI (Ru (xx (ao 3) [(wq,(ao 5)),(wq,(ao 4)),(wq,(ao 6))]) (xx (ao 5) [(wq,(ao 3)),(wq,(ao 6)),(wq,(ao 4))])))))))
theorem Lk(a b:VJ){A B C D':Int}(hA:A=((min a.one a.other:Nat):Int))(hB:B=((min b.one b.other:Nat):Int))(hC:C=((max a.one a.other:Nat):Int))(hD:D'=((max b.one b.other:Nat):Int)):Ap a b=(decide (A<B/\B<C/\C<D') ||decide (B<A/\A<D'/\D' < C)):=by subst hA hB hC hD;unfold Ap;simp only[Int.ofNat_lt]
theorem Aq:aa6 3 4 nR qG:=by
 rintro ls k4 - ⟨R,k,l,hk,hl,rfl,h⟩;walk_at"qG";refine⟨R,k,hk,rfl,?_⟩;walk_at"w";refine⟨R,k,hk,rfl,?_⟩;walk_at"w";refine⟨R,l,hl,rfl,?_⟩;walk_at"w";refine⟨R,l,hl,rfl,?_⟩;walk_at"w";have Uo:∀b:Bool,b=Ap R.asks[k] R.asks[l]->∀x3 x4 x5 x6:L,aP [.d (aO R),.d (.int k),.d (.int l)] k4 (.rt (.d (.bl b))) [.d (aO R),.d (.int k),.d (.int l),x3,x4,x5,x6]:=λb hb x3 x4 x5 x6=>by subst hb;exact⟨_,aj (aj (aj aL)),h⟩
 have ec:=Lk R.asks[k] R.asks[l] (A:=(Wg R.asks[k]:Int)) (B:=(Wg R.asks[l]:Int)) rfl rfl rfl rfl;generalize hA:((Wg R.asks[k]:Nat):Int)=A at *;generalize hB:((Wg R.asks[l]:Nat):Int)=B at *;generalize hC:((max R.asks[k].one R.asks[k].other:Nat):Int)=C at *;generalize hD:((max R.asks[l].one R.asks[l].other:Nat):Int)=D' at *
 by_cases c1:A<B<;>by_cases c2:B<C<;>by_cases c3:C<D'<;>by_cases c4:B<A<;>by_cases c5:A<D'<;>by_cases c6:D' < C <;>
  simp only[c1,c2,c3,c4,c5,c6,aad,aaa,ite_true,ite_false,decide_true,decide_false,Ec,Zd]<;>refine Uo _ ?_ _ _ _ _<;>rw[ec]<;>simp only[c1,c2,c3,c4,c5,c6]<;>decide
noncomputable def OE(R:aF)(ps:List Rat)(k:Nat):Bool:=decide (0<ps.getD k 0) && decide (ps.getD k 0<R.sz k)
noncomputable def ej(R:aF)(ps:List Rat):List Nat:=(List.range ps.length).filter (OE R ps)
def dW:FS:=λls k4=>∃(R:aF)(ps:List Rat)(c:Nat),ls=[.d (aO R),.d (.lst (ps.map Vp))]/\R.Ok/\ps.length=R.asks.length/\(∀p∈ps,RB c p)/\c<=400000/\∀a,k4 (.own a ((ej R ps).map λ(k:Nat)=>D.int (k:Int))) ls
def o6:W L:=(ao 0)
def nS:W Fl:=(bI (gm 2 [0] (rW (ao 1)) (dH [0,1]) (Rt (a7 (aC d8 (au (wC (.tup [(.int 0),(.int 1)])) (au (ao 1) aG)))) (a7 (aC d8 (au (ao 1) (au (ax aJ (ax aJ (ax aJ (ao 2) (wC (.int 1))) (ao 0)) (wC (.int 3))) aG))))) o6))
theorem Iu{α:Type}{e1 e2:α->D}{p:α->Bool}{caps:Ev}{ti:W Bool}{te:W L}{k:List D->Ev->Prop}{g:α->D}(as:List α)(acc:List D)(l m:L)
  (h1:∀a∈as,∀Q:Bool->Ev->Prop,Q (p a) (.d (e1 a)::.d (e2 a)::caps)->ti (.d (e1 a)::.d (e2 a)::caps) Q)
  (h2:∀a∈as,p a=true->∀Q:L->Ev->Prop,Q (.d (g a)) (.d (e1 a)::.d (e2 a)::caps)->te (.d (e1 a)::.d (e2 a)::caps) Q)
  (hk:∀l m,k (acc++(as.filter p).map g) (l::m::caps)):eV (dH [0,1]) ti te (as.map λa=>D.tup [e1 a,e2 a]) (l::m::caps) acc k:=by
 induction as generalizing acc l m with
 |nil=>simpa[eV]using hk l m
 | cons a as ih =>
  rw[YQ];unfold eV;rw[kD];refine h1 a k5 _ ?_
  cases hp:p a with
  | false =>
   rw[if_neg (by decide)];refine ih acc _ _ (λb hb=>h1 b (fI _ hb)) (λb hb=>h2 b (fI _ hb)) λl m=>?_;have:=hk l m;rw[Zu,if_neg (by rw[hp];decide)]at this;exact this
  | true =>
   rw[if_pos rfl];refine h2 a k5 hp _ ?_;refine ih _ _ _ (λb hb=>h1 b (fI _ hb)) (λb hb=>h2 b (fI _ hb)) λl m=>?_;have:=hk l m;rw[Zu,if_pos hp,YQ]at this;rw[Zo];exact this
theorem yu:aa6 2 0 dW nS:=by
 rintro ls k4 - ⟨R,ps,c,rfl,hR,hl,hb,hc,h⟩;walk_at"nS";rw[Dr];refine⟨by rw[YD,Y0,hl];exact YH hR.few xp,?_⟩;refine Iu (p:=OE R ps) (g:=λ(k:Nat)=>D.int (k:Int)) _ _ _ _ (λk hk Q hq=>?_) (λk hk hp Q hq=>?_) λl m=>?_
 .
  have hk':k<ps.length:=by simpa using hk
  have hb':=hb _ (YB hk');rw[<- qg hk']at hb';walk_at"w";refine⟨0,_,rfl,RB.zero.mono xp,hb'.mono hc,?_⟩;walk_at"w";unfold OE at hq;by_cases h0:0<ps.getD k 0
  . rw[if_pos h0];refine⟨_,bt xL,?_⟩;walk_at"w";refine⟨_,_,rfl,hb'.mono hc,(hR.rb (YB _)).mono xp,?_⟩;walk_at"w";rw[G7 xL]at hq;simpa only[h0,decide_true,Bool.true_and]using hq
  . rw[if_neg h0];simpa only[h0,decide_false,Bool.false_and]using hq
 . walk_at"o6";exact hq
 . intro a;walk_at"w";exact⟨_,aj (aj aL),h a⟩
def bH:FS:=λls k4=>∃(R:aF)(ks:List Nat),ls=[.d (aO R),.d (.lst (ks.map λ(k:Nat)=>D.int (k:Int)))]/\ks.length<=20/\(∀k∈ks,k<R.asks.length)/\k4 (.d (Ht (V9 (V8 R) ks))) ls
def bD:W Fl:=(U9 (Ed (a7 (aC nR (au (ao 0) (au (ao 3) (au (ao 4) aG)))))) (bI (lR (au (ao 3) (au (ao 4) aG)))) cA)
def eS:W Fl:=(mq (pY (P7 (ao 1) (some (ax de (ao 2) (wC (.int 1)))) none)) (a9 4) bD)
def du:W Fl:=(aT (mq (rW (ao 1)) (dH [2,3]) eS)
  (bI (wC .non)))
theorem Ar{R:aF}{X:D}{x2:L}{k:Nat}(hk:k<R.asks.length){Q:Fl->Ev->Prop}:∀(ls:List Nat)(x4:L),(∀l∈ls,l<R.asks.length) ->
  (∀l,ls.find? (λl=>!V8 R k l)=some l->∀Z,AW Z [.d (aO R),.d X] [.d (aO R),.d X]->Q (.rt (.d (.tup [.int (k:Int),.int (l:Int)]))) Z)->(ls.find? (λl=>!V8 R k l)=none->∀x4,Q .nx [.d (aO R),.d X,x2,.d (.int (k:Int)),x4]) ->
  ck (a9 4) bD (ls.map λ(k:Nat)=>D.int (k:Int)) [.d (aO R),.d X,x2,.d (.int (k:Int)),x4] Q
 |[],x4,_,_,h2=>h2 rfl x4
 | l::ls,x4,hl,h1,h2=>by
  have hl0:=hl l k5;show ck (a9 4) bD (D.int (l:Int)::ls.map λ(k:Nat)=>D.int (k:Int)) _ Q;unfold ck;show bD [.d (aO R),.d X,x2,.d (.int (k:Int)),.d (.int (l:Int))] _;walk_at"bD";refine⟨R,k,l,hk,hl0,rfl,?_⟩;have ec:Ap R.asks[k] R.asks[l]=V8 R k l:=by unfold V8;rw[cG hk,cG hl0];rfl
  walk_at"w";rw[ec]
  cases e:V8 R k l with
  | false =>
   walk_at"w";exact⟨xp,h1 l (by rw[List.find?_cons,e];rfl) _ (aj (aj aL))⟩
  | true =>
   walk_at"w";exact Ar hk ls _ (λm hm=>hl m (fI _ hm)) (λm hm=>h1 m (by rw[List.find?_cons,e];exact hm)) (λhm=>h2 (by rw[List.find?_cons,e];exact hm))
theorem Ll{cr:Nat->Nat->Bool}{ks:List Nat}{j:Nat}(h:j<ks.length):V9 cr (ks.drop j)=match (ks.drop (j+1)).find? (λl=>!cr ks[j] l)with
  |some l=>some (ks[j],l)
  |none=>V9 cr (ks.drop (j+1)):=by
 rw[Zw h];rfl
theorem kf:aa6 2 3 bH du:=by
 rintro ls k4 - ⟨R,ks,rfl,h20,hks,h⟩;walk_at"du";refine fB _ (λj Z=>(∃x2 x3 x4,Z=[.d (aO R),.d (.lst (ks.map λ(k:Nat)=>D.int (k:Int))),x2,x3,x4])/\V9 (V8 R) (ks.drop j)=V9 (V8 R) ks) _ ⟨⟨_,_,_,rfl⟩,rfl⟩ ?_ ?_
 .
  rintro j x Z hj ⟨⟨x2,x3,x4,rfl⟩,hf⟩ Q h1 h2 h3 h4;have hj':j<ks.length:=by have:=(YA.mp hj).1;simpa[dA]using this
  have ex:x=.tup [.int (j:Int),.int (ks[j]:Int)]:=by
   have:(dA (ks.map λ(k:Nat)=>D.int (k:Int)))[j]?=some (.tup [.int (j:Int),.int (ks[j]:Int)]):=by simp[dA,hj']
   rw[this]at hj;exact(Y5 hj).symm
  subst ex;walk_at"eS";rw[show(j:Int)+1=((j+1:Nat):Int) by omega,Ke,Kn (show j+1<=ks.length by omega)];rw[Ll hj']at hf;refine λ_=>Ar (hks _ (YB hj')) _ _ (λl hl=>hks l (List.mem_of_mem_drop hl)) (λl e Z b=>h4 _ _ ?_) λe x4=>h1 _ ⟨⟨_,_,_,rfl⟩,?_⟩
  . rw[e]at hf;rw[<- hf]at h;exact⟨_,b,h⟩
  . rw[e]at hf;exact hf
 .
  rintro Z ⟨⟨x2,x3,x4,rfl⟩,hf⟩;have e:ks.drop (dA (ks.map λ(k:Nat)=>D.int (k:Int))).length=[]:=by simp[dA]
  rw[e]at hf;rw[<- hf]at h;exact⟨_,aj (aj aL),h⟩
def ia:FS:=λls k4=>∃(c:Nat×Nat)(p:Nat),ls=[.d (me c),.d (.int p)]/\k4 (.d (.bl (ki c p))) ls
def nT:W Fl:=(bI (zA wq MZ (ax aJ (ao 0) (wC (.int 0))) (ao 1) (ax aJ (ao 0) (wC (.int 1)))))
theorem yv:aa6 2 0 ia nT:=by
 rintro ls k4 - ⟨c,p,rfl,h⟩;walk_at"nT";unfold ki at h;split
 .
  rename_i h1;refine⟨_,aj (aj aL),?_⟩;have e:decide ((p:Int)<=(c.2:Int))=decide (c.1<p/\p<=c.2):=by rw[aas];omega
  rw[e];exact h
 . rename_i h1;refine⟨_,aj (aj aL),?_⟩;rw[YZ (show ¬(c.1<p/\p<=c.2) by omega)]at h;exact h
def ez:FS:=λls k4=>∃(c:Nat×Nat)(i j:Nat),ls=[.d (me c),.d (.int i),.d (.int j)]/\k4 (.d (.bl (apart c i j))) ls
def iF:W Fl:=(bI (ax Jl (aC ia (au (ao 0) (au (ao 1) aG))) (aC ia (au (ao 0) (au (ao 2) aG)))))
theorem se:aa6 3 0 ez iF:=by
 rintro ls k4 - ⟨c,i,j,rfl,h⟩;walk_at"iF";refine⟨c,i,rfl,?_⟩;walk_at"w";refine⟨c,j,rfl,?_⟩;walk_at"w";refine⟨_,aj (aj (aj aL)),?_⟩;have e:(!decide (ki c i=ki c j))=apart c i j:=by unfold apart;cases ki c i<;>cases ki c j<;>rfl
 rw[e];exact h
theorem k6{α β:Type}(p:α->Bool)(f:α->β):∀xs:List α,xs.filterMap (λa=>if p a=true then some (f a)else none)=(xs.filter p).map f
 |[]=>rfl
 | x::xs=>by
  rw[ZF,Zu];cases e:p x
  . simp[k6 p f xs]
  . simp[k6 p f xs]
def uy:FS:=λls k4=>∃(R:aF)(c:Nat×Nat),ls=[.d (aO R),.d (me c)]/\R.Ok/\k4 (.d (Vp (cO R.asks c))) ls
def wV:W L:=(ax aJ (ao 0) (wC (.int 3)))
def yw:W Fl:=(bI (aC o5 (au (bj (gm 1 [1] (pY (ax aJ (ao 0) (wC (.int 1)))) (a9 0) (a7 (aC ez (au (ao 1) (au (ax aJ (ao 0) (wC (.int 1))) (au (ax aJ (ao 0) (wC (.int 2))) aG))))) wV)) aG)))
theorem Fc:aa6 2 0 uy yw:=by
 rintro ls k4 - ⟨R,c,rfl,hR,h⟩;have hfew:=hR.few;walk_at"yw";refine⟨YH hfew xp,?_⟩
 refine iW (h:=λa:VJ=>if apart c a.one a.other=true then some (Vp a.size)else none) _ _ _ (λa ha Q q=>?_) λl' cc=>?_
 .
  walk_at"w";refine⟨c,a.one,a.other,rfl,?_⟩;walk_at"w";unfold wV;cases e:apart c a.one a.other
  . rw[e]at q;walk_at"w";exact q
  . rw[e]at q;walk_at"w";exact q
 .
  walk_at"w";have fl:=aaf (λa:VJ=>apart c a.one a.other) R.asks
  have e:R.asks.filterMap (λa:VJ=>if apart c a.one a.other=true then some (Vp a.size)else none)=((R.asks.filter λa=>apart c a.one a.other).map (·.size)).map Vp:=by rw[k6 (λa:VJ=>apart c a.one a.other) (λa=>Vp a.size),Y3];rfl
  rw[e];obtain⟨E,e0,e1,hd⟩:=hR.cd;refine⟨_,_,rfl,.inl rfl,by rw[YD];omega,λq hq=>?_,.inr ⟨E,e0,so e1 (YF xp xp),λq hq=>?_⟩,⟨_,aj (aj aL),h⟩⟩
  . obtain⟨a,ha,rfl⟩:=YU.mp hq;exact(hR.rb (Zv.mp ha).1).mono xp
  . obtain⟨a,ha,rfl⟩:=YU.mp hq;exact hd a (Zv.mp ha).1
def nU:FS:=λls k4=>∃(R:aF)(c:Nat×Nat),ls=[.d (aO R),.d (me c)]/\R.Ok/\g9 R.n c/\k4 (.d (Vp (oS R c))) ls
def qH:W Fl:=(bI (aC jB (au (ax aJ (ax aJ (ao 0) (wC (.int 0))) (ax aJ (ao 1) (wC (.int 0)))) (au (ax aJ (ax aJ (ao 0) (wC (.int 0))) (ax aJ (ao 1) (wC (.int 1)))) aG))))
theorem As:aa6 2 0 nU qH:=by
 rintro ls k4 - ⟨R,c,rfl,hR,hc,h⟩;have h1:c.1<R.n:=by have:=hc.1;have:=hc.2;omega
 walk_at"qH";refine⟨_,G1 h1,?_⟩;walk_at"w";refine⟨_,G1 hc.2,?_⟩;exact DV ((eY hR h1).2.mono xp) ((eY hR hc.2).2.mono xp) ⟨_,aj (aj aL),h⟩
def jC:FS:=λls k4=>∃(R:aF)(c:Nat×Nat),ls=[.d (aO R),.d (me c)]/\R.Ok/\g9 R.n c/\k4 (.d (Vp (cf R c))) ls
def qI:W Fl:=(bI (aC yp (au (bj (aC uy (au (ao 0) (au (ao 1) aG)))) (au (bj (aC nU (au (ao 0) (au (ao 1) aG)))) aG))))
theorem Au:aa6 2 0 jC qI:=by rintro ls k4 - ⟨R,c,rfl,hR,hc,h⟩;obtain⟨r1,r2⟩:=gL hR hc;walk_at"qI";refine⟨R,c,rfl,hR,?_⟩;walk_at"w";refine⟨R,c,rfl,hR,hc,?_⟩;walk_at"w";exact⟨_,_,rfl,(t4 hR c).mono xp,r2.mono xp,(by grind),_,aj (aj aL),h⟩
def nV:FS:=λls k4=>∃(R:aF),ls=[.d (aO R)]/\R.Ok/\∀c,k4 (.own c ((zX R.n).map me)) ls
def rD:W L:=(lR (au (ao 1) (au (ao 0) aG)))
def rE:W Fl:=(vA (Rz 1 (gm 1 [2] (F6 (ao 2) (br dY (au (ax aJ (ao 0) (wC (.int 0))) aG))) (a9 0) iw rD)))
def qJ:W Fl:=(aT (bq 1 (pX aG))
  (aT (mq (tG (br dY (au (ax aJ (ao 0) (wC (.int 0))) aG))) (a9 2) rE)
  (bI (iq 1))))
theorem Fd{α:Type}(f:Nat->List α)(k:Nat):(List.range (k+1)).flatMap f=(List.range k).flatMap f++f k:=by rw[List.range_succ,List.flatMap_append];simp
theorem Iv{n k:Nat}(hn:n<=12)(hk:k<=n):((List.range k).flatMap λg=>(List.range (n-g)).map λi=>(g,g+i)).length<=144:=by
 have:∀(m:Fin 13)(j:Fin 13),((List.range j.1).flatMap λg=>(List.range (m.1-g)).map λi=>(g,g+i)).length<=144:=by decide
 exact this ⟨n,xL⟩ ⟨k,xL⟩
theorem Av:aa6 1 2 nV qJ:=by
 rintro ls k4 - ⟨R,rfl,hR,h⟩;have hhi:=hR.hi;walk_at"qJ";refine⟨xp,λc=>⟨⟨xL,xL⟩,?_⟩⟩;rw[Zl];refine GE _ (λk Z=>∃x2,Z=[.d (aO R),.own c (((List.range k).flatMap λg=>(List.range (R.n-g)).map λi=>(g,g+i)).map me),x2]) _ ⟨_,rfl⟩ ?_ ?_
 .
  rintro g Z hg ⟨x2,rfl⟩ Q h1 h2 h3 h4;walk_at"rE";refine⟨⟨xL,xL⟩,⟨xL,xL⟩,?_⟩;have e:((R.n:Int)-(g:Int)).toNat=R.n-g:=by omega
  have e2:wo (g:Int) (R.n-g)=(List.range (R.n-g)).map λ(i:Nat)=>D.int ((g:Int)+(i:Int)):=rfl;rw[e,e2];refine⟨by rw[YD,Y0];exact YH (show R.n-g<=12 by omega) xp,?_⟩;refine fC (h:=λi=>me (g,g+i)) _ _ _ (λi hi Q' q=>?_) λl' a=>?_
  .
   walk_at"rD";refine⟨xp,?_⟩;have e3:D.tup [.int (g:Int),.int ((g:Int)+(i:Int))]=me (g,g+i):=by unfold me;show _=D.tup [.int (g:Int),.int ((g+i:Nat):Int)];rw[Int.natCast_add]
   rw[e3];exact q
  .
   walk_at"w";have hl:=Iv (k:=g) hhi xL;refine⟨?_,h1 _ ⟨.d (.int g),?_⟩⟩
   . rw[Y0];exact YH (show _<=200 by omega) xp
   . rw[Fd,Y9,Y3];rfl
 . rintro Z ⟨x2,rfl⟩;walk_at"w";exact⟨_,aj aL,h c⟩
def gS:FS:=λls k4=>∃(R:aF),ls=[.d (aO R)]/\R.Ok/\k4 (.d (gP (d5 R))) ls
def j4:W Fl:=(aT (bq 3 (bj (aC jC (au (ao 0) (au (ao 2) aG)))))
  (U9 (U6 (a7 (ax Em (ao 1) (wC .non))) (a7 (aC d8 (au (ax aJ (ao 1) (wC (.int 0))) (au (ao 3) aG))))) (bq 1 (lR (au (ao 3) (au (ao 2) aG)))) cA))
def iG:W Fl:=(aT (bq 1 (wC .non))
  (aT (mq (pY (aC nV (au (ao 0) aG))) (a9 2) j4)
  (bI (iq 1))))
theorem sf:aa6 1 3 gS iG:=by
 rintro ls k4 - ⟨R,rfl,hR,h⟩;have hlo:=hR.lo;obtain⟨rest,hrest⟩:=G5 (n:=R.n) xL;walk_at"iG";refine⟨R,rfl,hR,λcc=>?_⟩;walk_at"w"
 refine cF (enc:=me) (zX R.n) (λpre Z=>∃x2 x3,Z=[.d (aO R),.d (if pre=[]then .non else gP (pre.foldl (dB R) (0,(0,0)))),x2,x3]/\RB 1667 (pre.foldl (dB R) (0,(0,0))).1) _ ⟨_,_,rfl,RB.zero.mono xp⟩ ?_ ?_
 .
  rintro pre c suf Z hsp ⟨x2,x3,rfl,hb⟩ Q h1 h2 h3 h4;have hc:g9 R.n c:=xN.mp (by rw[hsp];simp);have hs:=Dp hR hc
  have hb2:RB 1667 ((pre++[c]).foldl (dB R) (0,(0,0))).1:=by
   rw[aay];show RB 1667 (dB R _ c).1;unfold dB;split
   . exact hs
   . exact hb
  walk_at"j4";refine⟨R,c,rfl,hR,hc,?_⟩;walk_at"w";have hne:¬pre++[c]=[]:=by simp
  rw[if_neg hne]at h1;by_cases hp:pre=[]
  .
   subst hp;have ec:c=(0,0):=by rw[hrest]at hsp;exact((List.cons.inj hsp).1).symm
   subst ec;simp only[aad];walk_at"w";have e3:D.tup [Vp (cf R (0,0)),me (0,0)]=gP (([]++[(0,0)]).foldl (dB R) (0,(0,0))):=by show _=gP (dB R (0,(0,0)) (0,0));unfold dB;rw[if_neg (by show ¬(0:Rat)<cf R (0,0);rw[BC];decide),BC];rfl
   rw[e3];exact⟨xp,h1 _ ⟨_,_,rfl,hb2⟩⟩
  .
   rw[if_neg hp];have e1:∀(K:L->Prop),Em (gP (pre.foldl (dB R) (0,(0,0)))) .non K=K (.d (.bl false)):=λ_=>rfl;have e2:(pre++[c]).foldl (dB R) (0,(0,0))=dB R (pre.foldl (dB R) (0,(0,0))) c:=by rw[aay];rfl
   simp only[gP]at h1 ⊢;walk_at"w";refine⟨_,_,rfl,hb.mono xp,hs.mono xp,?_⟩;walk_at"w";split
   .
    rename_i hlt;have e3:D.tup [Vp (cf R c),me c]=gP ((pre++[c]).foldl (dB R) (0,(0,0))):=by rw[e2];rw[G3 hlt];rfl
    rw[e3];exact⟨xp,h1 _ ⟨_,_,rfl,hb2⟩⟩
   .
    rename_i hlt;have e3:gP (pre.foldl (dB R) (0,(0,0)))=gP ((pre++[c]).foldl (dB R) (0,(0,0))):=by rw[e2];rw[G4 hlt]
    have e4:D.tup [Vp (pre.foldl (dB R) (0,(0,0))).1,me (pre.foldl (dB R) (0,(0,0))).2]=gP ((pre++[c]).foldl (dB R) (0,(0,0))):=e3;rw[e4];exact h1 _ ⟨_,_,rfl,hb2⟩
 . rintro Z ⟨x2,x3,rfl,hb⟩;walk_at"w";rw[if_neg (by rw[hrest];simp)];exact⟨_,aj aL,h⟩
def o7:FS:=λls k4=>∃d:D,ls=[.d d]/\k4 (.d (.bl (Fu d))) ls
def yx:W Fl:=(bI (pW (U8 (xk "str") (ao 0)) (ax (JN false) (ao 0) (lR (au (wC (.str "on")) (au (wC (.str "back")) aG))))))
theorem Fe:aa6 1 0 o7 yx:=by
 rintro ls k4 - ⟨d,rfl,h⟩;unfold yx
 cases d with
 | str z =>
  walk_at"w";rw[Oh];exact⟨xp,rfl,rfl,_,aj aL,h⟩
 | _ =>
  walk_at"w";exact⟨_,aj aL,h⟩
def k7:FS:=λls k4=>∃w:Bool,ls=[.d (.str (eO w))]/\k4 (.d (.str (eO !w))) ls
def nW:W Fl:=(bI (Ee (a7 (ax rT (ao 0) (wC (.str "on")))) (wC (.str "back")) (wC (.str "on"))))
theorem yy:aa6 1 0 k7 nW:=by
 rintro ls k4 - ⟨w,rfl,h⟩;walk_at"nW";cases w
 . exact⟨_,aj aL,h⟩
 . exact⟨_,aj aL,h⟩
def i5:FS:=λls k4=>∃(R:aF)(k:Nat)(w:Bool)(hk:k<R.asks.length),ls=[.d (aO R),.d (.int k),.d (.str (eO w))]/\R.Ok/\∀c,k4 (.own c ((wJ R.n R.asks[k] w).map λ(t:Nat)=>D.int (t:Int))) ls
def uz:W L:=(ax fU (ax iu (ax iu (ao 1) (wC (.int 1))) (ao 0)) (ao 2))
def uA:W L:=(ax fU (ax de (ao 1) (ao 0)) (ao 2))
def uB:W Fl:=(bI (gm 1 [4,3] (tG (ax fU (ax iu (ao 4) (ao 5)) (ao 3))) (a9 0) iw uz))
def uC:W Fl:=(aT (U9 (a7 (ax rT (ao 2) (wC (.str "on")))) (bI (gm 1 [4,3] (tG (ax fU (ax iu (ao 5) (ao 4)) (ao 3))) (a9 0) iw uA)) cA)
  uB)
def uD:W Fl:=(aT (bq 5 (ax aJ (ax aJ (ax aJ (ao 0) (wC (.int 1))) (ao 1)) (wC (.int 2))))
  uC)
def uE:W Fl:=(aT (bq 4 (ax aJ (ax aJ (ax aJ (ao 0) (wC (.int 1))) (ao 1)) (wC (.int 1))))
  uD)
def uF:W Fl:=(aT (bq 3 (bj (br dY (au (ax aJ (ao 0) (wC (.int 0))) aG))))
  uE)
theorem Cb:aa6 3 3 i5 uF:=by
 rintro ls k4 - ⟨R,k,w,hk,rfl,hR,h⟩;have ha:=hR.ask _ (YB hk);have h1:=ha.one;have h2:=ha.other;have hlo:=hR.lo;have hhi:=hR.hi;walk_at"uF";walk_at"uE";refine⟨_,bt hk,?_⟩;walk_at"w";walk_at"uD";refine⟨_,bt hk,?_⟩;walk_at"w";walk_at"uC";have f1:=xI h1 h2;have f2:=xI h2 h1;have b1:=aaL (R.asks[k].other+R.n-R.asks[k].one) (y:=R.n) xL;have b2:=aaL (R.asks[k].one+R.n-R.asks[k].other) (y:=R.n) xL;split
 .
  rename_i hw;subst hw;rw[f1];refine⟨xL,⟨xL,xL⟩,?_⟩;rw[jk,Zl];refine⟨by rw[YD,Y0];exact YH (show _<=12 by omega) xp,?_⟩;refine fC (h:=λs=>D.int (((R.asks[k].one+s) % R.n:Nat):Int)) _ _ _ (λs hs Q q=>?_) λl'=>?_
  . walk_at"uA";refine⟨xL,?_⟩;rw[Dg];exact q
  . walk_at"w";intro c;refine⟨_,aj (aj (aj aL)),?_⟩;have:=h c;simp only[wJ,VM,aad,Y3]at this;exact this
 .
  rename_i hw;have hw:w=false:=by simpa using hw
  subst hw;walk_at"uB";rw[f2];refine⟨xL,⟨xL,xL⟩,?_⟩;rw[jk,Zl];refine⟨by rw[YD,Y0];exact YH (show _<=12 by omega) xp,?_⟩;refine fC (h:=λs=>D.int (((R.asks[k].one+R.n-1-s) % R.n:Nat):Int)) _ _ _ (λs hs Q q=>?_) λl'=>?_
  . walk_at"uz";refine⟨xL,?_⟩;have hs:=YO.mp hs;rw[Ky xL xL];exact q
  . walk_at"w";intro c;refine⟨_,aj (aj (aj aL)),?_⟩;have:=h c;simp only[wJ,vD,Zd,aaa,Y3]at this;exact this
def l8:FS:=λls k4=>∃(R:aF)(k:Nat)(w:Bool)(t:Nat)(hk:k<R.asks.length),ls=[.d (aO R),.d (.int k),.d (.str (eO w)),.d (.int t)]/\R.Ok/\t<R.n/\k4 (.d (.bl (iS R.n R.asks[k] t == w))) ls
def uG:W Fl:=(bI (ax rT (ao 7) (ax rT (ao 2) (wC (.str "on")))))
def uH:W Fl:=(aT (bq 7 (ax wq (ax fU (ax iu (ao 3) (ao 5)) (ao 4)) (ax fU (ax iu (ao 6) (ao 5)) (ao 4))))
  uG)
def uI:W Fl:=(aT (bq 6 (ax aJ (ax aJ (ax aJ (ao 0) (wC (.int 1))) (ao 1)) (wC (.int 2))))
  uH)
def uJ:W Fl:=(aT (bq 5 (ax aJ (ax aJ (ax aJ (ao 0) (wC (.int 1))) (ao 1)) (wC (.int 1))))
  uI)
def uK:W Fl:=(aT (bq 4 (bj (br dY (au (ax aJ (ao 0) (wC (.int 0))) aG))))
  uJ)
theorem Cc:aa6 4 4 l8 uK:=by
 rintro ls k4 - ⟨R,k,w,t,hk,rfl,hR,ht,h⟩;have ha:=hR.ask _ (YB hk);have h1:=ha.one;have h2:=ha.other;walk_at"uK";walk_at"uJ";refine⟨_,bt hk,?_⟩;walk_at"w";walk_at"uI";refine⟨_,bt hk,?_⟩;walk_at"w";walk_at"uH";rw[xI h1 h2,xI h1 ht];refine⟨xL,xL,?_⟩;walk_at"uG";refine⟨_,aj (aj (aj (aj aL))),?_⟩
 have e:decide (decide ((((t+R.n-R.asks[k].one) % R.n:Nat):Int)<(((R.asks[k].other+R.n-R.asks[k].one) % R.n:Nat):Int))=decide (w=true))=(iS R.n R.asks[k] t == w):=by
  have e1:decide ((((t+R.n-R.asks[k].one) % R.n:Nat):Int)<(((R.asks[k].other+R.n-R.asks[k].one) % R.n:Nat):Int))=iS R.n R.asks[k] t:=by unfold iS VN;rw[aas];omega
  rw[e1];cases iS R.n R.asks[k] t<;>cases w<;>rfl
 rw[e];exact h
def k8:FS:=λls k4=>∃(R:aF)(ps:List Rat)(k t:Nat)(hk:k<R.asks.length)(hp:k<ps.length),ls=[.d (aO R),.d (.lst (ps.map Vp)),.d (.int k),.d (.int t)]/\R.Ok/\RB 4400 ps[k]/\t<R.n/\k4 (.d (Vp (kd R.n R.asks[k] ps[k] t))) ls
def nX:W Fl:=(aT (U9 (a7 (aC l8 (au (ao 0) (au (ao 2) (au (wC (.str "on")) (au (ao 3) aG)))))) (bI (ax aJ (ao 1) (ao 2))) cA)
  (bI (aC fJ (au (ax aJ (ax aJ (ax aJ (ao 0) (wC (.int 1))) (ao 2)) (wC (.int 3))) (au (ax aJ (ao 1) (ao 2)) aG)))))
theorem yz:aa6 4 0 k8 nX:=by
 rintro ls k4 - ⟨R,ps,k,t,hk,hp,rfl,hR,hb,ht,h⟩;have ha:=hR.ask _ (YB hk);walk_at"nX";refine⟨R,k,true,t,hk,rfl,hR,ht,?_⟩;walk_at"w";unfold kd at h;cases e:iS R.n R.asks[k] t
 . rw[e]at h;walk_at"w";refine⟨_,bt hk,?_⟩;walk_at"w";refine⟨_,bt hp,?_⟩;exact iZ ((hR.rb (YB hk)).mono xp) (hb.mono xp) ⟨_,aj (aj (aj (aj aL))),h⟩
 . rw[e]at h;walk_at"w";exact⟨_,bt hp,_,aj (aj (aj (aj aL))),h⟩
def qK:FS:=λls k4=>∃(R:aF)(ps:List Rat)(t:Nat),ls=[.d (aO R),.d (.lst (ps.map Vp)),.d (.int t)]/\R.Ok/\ps.length=R.asks.length/\LB R ps/\t<R.n/\k4 (.d (Vp (aV R.n R.asks ps t))) ls
def uL:W L:=(aC k8 (au (ao 1) (au (ao 2) (au (ao 0) (au (ao 3) aG)))))
def uM:W Fl:=(bI (aC o5 (au (bj (gm 1 [0,1,2] (tG (br dY (au (ax aJ (ao 0) (wC (.int 1))) aG))) (a9 0) iw uL)) aG)))
theorem Cd:aa6 3 0 qK uM:=by
 rintro ls k4 - ⟨R,ps,t,rfl,hR,hl,hb,ht,h⟩;have hfew:=hR.few;walk_at"uM";refine⟨⟨xL,xL⟩,?_⟩;rw[Zl,jk];refine⟨by rw[YD,Y0];exact YH hfew xp,?_⟩;refine fC (h:=λk=>Vp (((R.asks.zip ps).map λx=>kd R.n x.1 x.2 t).getD k 0)) _ _ _ (λk hk Q q=>?_) λl' a=>?_
 .
  have hk:=YO.mp hk;walk_at"uL";refine⟨R,ps,k,t,hk,xL,rfl,hR,(hb.p _ (YB _)).mono xp,ht,?_⟩;walk_at"w";have e:(((R.asks.zip ps).map λx=>kd R.n x.1 x.2 t).getD k 0)=kd R.n R.asks[k] (ps[k]'(by omega)) t:=by rw[YC,YS,gV (by rw[Zh];omega),ZJ];rfl
  rw[e]at q;exact q
 .
  walk_at"w";have e:(List.range R.asks.length).map (λk=>Vp (((R.asks.zip ps).map λx=>kd R.n x.1 x.2 t).getD k 0))=((R.asks.zip ps).map λx=>kd R.n x.1 x.2 t).map Vp:=by refine G0 _ (by rw[YD,Zh];omega) _ λk hk=>?_;rw[YC,gV hk];rfl
  rw[e];refine⟨_,_,rfl,.inl rfl,by rw[YD,Zh];omega,λq hq=>?_,hb.sm t,⟨_,aj (aj (aj aL)),h⟩⟩;obtain⟨x,hx,rfl⟩:=YU.mp hq;obtain⟨j,hj,e⟩:=aaR.mp hx;have hj':j<R.asks.length:=by rw[Zh]at hj;omega
  rw[ZJ]at e;rw[<- e];exact(hb.st j hj' xL t).mono xp
def nY:FS:=λls k4=>∃(R:aF)(ps:List Rat),ls=[.d (aO R),.d (.lst (ps.map Vp))]/\R.Ok/\ps.length=R.asks.length/\LB R ps/\∀a,k4 (.own a (VL R.n (aV R.n R.asks ps))) ls
def rF:W L:=(aC qK (au (ao 1) (au (ao 2) (au (ao 0) aG))))
def qL:W Fl:=(bI (gm 1 [0,1] (tG (br dY (au (ax aJ (ao 0) (wC (.int 0))) aG))) (a9 0) iw rF))
theorem Aw:aa6 2 0 nY qL:=by
 rintro ls k4 - ⟨R,ps,rfl,hR,hl,hb,h⟩;have hhi:=hR.hi;walk_at"qL";refine⟨⟨xL,xL⟩,?_⟩;rw[Zl,jk];refine⟨by rw[YD,Y0];exact YH hhi xp,?_⟩;refine fC (h:=λt=>Vp (aV R.n R.asks ps t)) _ _ _ (λt ht Q q=>?_) λl' a=>?_
 . walk_at"rF";refine⟨R,ps,t,rfl,hR,hl,hb,YO.mp ht,?_⟩;walk_at"w";exact q
 . walk_at"w";exact⟨_,aj (aj aL),h a⟩
def jD:FS:=λls k4=>∃(R:aF)(ps:List Rat),ls=[.d (aO R),.d (.lst (ps.map Vp))]/\R.Ok/\ps.length=R.asks.length/\LB R ps/\∀a,k4 (.own a (VL R.n (bu R ps))) ls
def mH:W L:=(aC yp (au (ao 0) (au (ao 1) aG)))
def k9:W Fl:=(bI (gm 2 [] (P8 (aC nY (au (ao 0) (au (ao 1) aG))) (ax aJ (ao 0) (wC (.int 0)))) (dH [0,1]) iw mH))
theorem vP:aa6 2 0 jD k9:=by
 rintro ls k4 - ⟨R,ps,rfl,hR,hl,hb,h⟩;have hhi:=hR.hi;walk_at"k9";refine⟨R,ps,rfl,hR,hl,hb,λ_=>?_⟩;walk_at"w";rw[KA,N2];refine⟨by rw[YD,Y0];exact YH hhi xp,?_⟩;refine oM (h:=λt=>Vp (bu R ps t)) _ _ _ _ (λt ht Q q=>?_) λl m a=>?_
 . have ht:=YO.mp ht;obtain⟨r1,r2⟩:=eY hR ht;walk_at"mH";exact⟨_,_,rfl,(hb.all hl t).mono xp,r2.mono xp,(by grind),q⟩
 . walk_at"w";exact⟨_,aj (aj aL),h a⟩
noncomputable def SR(R:aF)(ps:List Rat):D:=.tup [Vp (bu R ps (BD R.n (bu R ps))),.int (BD R.n (bu R ps):Nat)]
def uN:FS:=λls k4=>∃(R:aF)(ps:List Rat),ls=[.d (aO R),.d (.lst (ps.map Vp))]/\R.Ok/\ps.length=R.asks.length/\LB R ps/\k4 (.d (SR R ps)) ls
def wW:W Fl:=(U9 (a7 (aC d8 (au (ax aJ (ao 2) (ao 3)) (au (ao 5) aG)))) (bq 3 (ao 4)) cA)
def yA:W Fl:=(aT (bq 2 (bj (aC jD (au (ao 0) (au (ao 1) aG)))))
  (aT (bq 3 (wC (.int 0)))
  (aT (mq (rW (ao 2)) (dH [4,5]) wW)
  (bI (lR (au (ax aJ (ao 2) (ao 3)) (au (ao 3) aG)))))))
theorem Ff:aa6 2 4 uN yA:=by
 rintro ls k4 - ⟨R,ps,rfl,hR,hl,hb,h⟩;have hlo:=hR.lo;have sb:∀t,t<R.n->RB 4400 (bu R ps t):=λt ht=>((hb.all hl t).div (eY hR ht).2 (by have:=(eY hR ht).1;grind)).mono xp;walk_at"yA";refine⟨R,ps,rfl,hR,hl,hb,λ_=>?_⟩;walk_at"w";rw[G6]
 refine cF (enc:=λ(t:Nat)=>D.tup [.int (t:Int),Vp (bu R ps t)]) (List.range R.n) (λpre Z=>∃(b:Nat)(x4 x5:L),Z=[.d (aO R),.d (.lst (ps.map Vp)),.d (.lst (VL R.n (bu R ps))),.d (.int b),x4,x5]/\b=pre.foldl (λb t=>if bu R ps b<bu R ps t then t else b) 0/\b<R.n) _ ⟨0,_,_,rfl,rfl,xL⟩ ?_ ?_
 .
  rintro pre t suf Z hsp ⟨b,x4,x5,rfl,hbe,hbn⟩ Q h1 h2 h3 h4;have ht:t<R.n:=YO.mp (by rw[hsp];simp)
  have ef:(pre++[t]).foldl (λb t=>if bu R ps b<bu R ps t then t else b) 0=if bu R ps b<bu R ps t then t else b:=by rw[aay,<- hbe];rfl
  walk_at"wW";refine⟨_,zR hbn,_,_,rfl,(sb _ hbn).mono xp,(sb _ ht).mono xp,?_⟩;walk_at"w";split
  . rename_i hlt;rw[if_pos hlt]at ef;exact h1 _ ⟨t,_,_,rfl,ef.symm,ht⟩
  . rename_i hlt;rw[if_neg hlt]at ef;exact h1 _ ⟨b,_,_,rfl,ef.symm,hbn⟩
 . rintro Z ⟨b,x4,x5,rfl,hbe,hbn⟩;walk_at"w";refine⟨_,zR hbn,xp,_,aj (aj aL),?_⟩;have e:b=BD R.n (bu R ps):=hbe;rw[e];exact h
def fZ:FS:=λls k4=>∃(qs:List Rat)(P:Nat),ls=[.d (.lst (qs.map Vp))]/\(∀q∈qs,q.den∣P)/\0<P/\P<2^4400/\k4 (.d (.int (VT qs))) ls
def i6:W Fl:=(bq 1 (aC gO (au (ao 1) (au (ax aJ (ao 2) (wC (.int 1))) aG))))
def gT:W Fl:=(aT (bq 1 (wC (.int 1)))
  (aT (mq (pY (ao 0)) (a9 2) i6)
  (bI (iq 1))))
theorem qM:aa6 1 2 fZ gT:=by
 rintro ls k4 - ⟨qs,P,rfl,hd,hP,hP2,h⟩;walk_at"gT";refine cF (enc:=Vp) qs (λpre Z=>∃x2,Z=[.d (.lst (qs.map Vp)),.d (.int (VT pre)),x2]) _ ⟨_,rfl⟩ ?_ ?_
 .
  rintro pre q suf Z hsp ⟨x2,rfl⟩ Q h1 h2 h3 h4;have hq:q.den∣P:=hd q (by rw[hsp];simp);have hc:VT pre∣P:=KJ λp hp=>hd p (by rw[hsp];simp[hp]);have e:VT (pre++[q])=Nat.lcm (VT pre) q.den:=by unfold VT;rw[aay];rfl
  rw[e]at h1;walk_at"i6";refine⟨VT pre,q.den,rfl,den_pos q,YL (ZU hP hc) hP2,YL (ZU hP hq) hP2,?_⟩;exact h1 _ ⟨_,rfl⟩
 . rintro Z ⟨x2,rfl⟩;walk_at"w";exact⟨_,aj aL,h⟩
def jE:FS:=λls k4=>∃(qs:List Rat)(u:Nat),ls=[.d (.lst (qs.map Vp)),.d (.int u)]/\qs.length<=63/\(∀q∈qs,RB 4400 q)/\u<2^4400/\∀c,k4 (.own c (qs.map λq=>D.int (mf u q))) ls
def rG:W L:=(ax bf (ax aJ (ao 0) (wC (.int 0))) (ax p5 (ao 1) (ax aJ (ao 0) (wC (.int 1)))))
def qN:W Fl:=(bI (gm 1 [1] (pY (ao 0)) (a9 0) iw rG))
theorem Ax:aa6 2 0 jE qN:=by
 rintro ls k4 - ⟨qs,u,rfl,hl,hq,hu,h⟩;walk_at"qN";refine⟨YH hl xp,?_⟩;refine fC (h:=λq=>D.int (mf u q)) _ _ _ (λq hm Q hQ=>?_) λl' c=>?_
 .
  walk_at"rG";have hb:=hq q hm;have e:(u:Int).fdiv (q.den:Int)=((u / q.den:Nat):Int):=by rw[ZP _ xL,Int.natCast_ediv]
  rw[e];refine⟨iy q,?_,hb.bn xp,?_,hQ⟩
  . rw[YI];exact so hb.2 (YF xp xp)
  . exact bG (n:=4400) (by rw[YI];exact YL (Nat.div_le_self _ _) hu) xp
 . walk_at"w";exact⟨_,aj (aj aL),h c⟩
def qO:FS:=λls k4=>∃(R:aF)(q:Rat),ls=[.d (aO R),.d (Vp q)]/\R.Ok/\RB 1750 q/\k4 (.d (.tup [.int (bh R q),.lst (t8 R.asks.length (wI R q)),.lst (t8 R.n (VV R q))])) ls
def uO:W L:=(aC sU (au (ao 1) (au (ao 0) aG)))
def uP:W L:=(ax aJ (ao 0) (wC (.int 3)))
def uR:W Fl:=(aT (bq 2 (gm 1 [] (pY (ax aJ (ao 0) (wC (.int 1)))) (a9 0) iw uP))
  (aT (bq 3 (gm 1 [1] (pY (ax aJ (ao 0) (wC (.int 0)))) (a9 0) iw uO))
  (aT (bq 4 (bj (ax bf (wC (.int 2)) (aC fZ (au (bj (ax de (ao 2) (ao 3))) aG)))))
  (bI (lR (au (ao 4) (au (bj (aC jE (au (ao 2) (au (ao 4) aG)))) (au (bj (aC jE (au (ao 3) (au (ao 4) aG)))) aG))))))))
theorem Ce:aa6 2 3 qO uR:=by
 rintro ls k4 - ⟨R,q,rfl,hR,hq,h⟩;have hfew:=hR.few;have hhi:=hR.hi;walk_at"uR";refine⟨YH hfew xp,?_⟩;refine fC (h:=λa=>Vp a.size) _ _ _ (λa hm Q hQ=>?_) λl' c1=>?_
 . walk_at"uP";exact hQ
 walk_at"w";refine⟨YH hhi xp,?_⟩;refine fC (h:=λr=>Vp (q*r)) _ _ _ (λr hm Q hQ=>?_) λl' c2=>?_
 . walk_at"uO";refine⟨_,_,rfl,hq.mono xp,(hR.room r hm).2.mono xp,?_⟩;walk_at"w";exact hQ
 obtain⟨u0,u1⟩:=hW hR hq;have e1:R.asks.map (λa=>Vp a.size)=(mB R).map Vp:=by unfold mB;rw[Y3];rfl
 have e2:R.rooms.map (λr=>Vp (q*r))=(vE R q).map Vp:=by unfold vE;rw[Y3];rfl
 rw[e1,e2];walk_at"w";rw[<- Y9];have ls1:(mB R).length<=20:=by unfold mB;rw[YD];exact hfew
 have ls2:(vE R q).length<=12:=by unfold vE;rw[YD];exact hhi
 have c0:=Hj R q;have c1':VU R q<2^3750:=YL (show VU R q<=bh R q by unfold bh;omega) u1;refine⟨YH (show _<=32 by omega) xp,λ_=>⟨_,VU R q,rfl,λp hp=>Hf hp,c0,so c1' (YF xp xp),?_⟩⟩;walk_at"w";have eu:(2:Int)*((VT (mB R++vE R q):Nat):Int)=((bh R q:Nat):Int):=by show(2:Int)*((VU R q:Nat):Int)=((2*VU R q:Nat):Int);omega
 rw[eu];have u2:bh R q<2^4400:=so u1 (YF xp xp);refine⟨bE xp,bG (n:=3750) (by rw[YI];exact c1') xp,?_⟩;refine⟨mB R,bh R q,rfl,xL,λp hp=>?_,u2,λc3=>?_⟩
 . obtain⟨a,ha,rfl⟩:=YU.mp hp;exact(hR.rb ha).mono xp
 walk_at"w";refine⟨vE R q,bh R q,rfl,xL,λp hp=>?_,u2,λc4=>?_⟩
 . obtain⟨r,hr,rfl⟩:=YU.mp hp;exact(hq.mul (hR.room r hr).2).mono xp
 walk_at"w";rw[QA,QB];exact⟨xp,_,aj (aj aL),h⟩
def gU:FS:=λls k4=>∃(R:aF)(k:Nat)(w:Nat->Int)(c:Nat×Nat),ls=[.d (aO R),.d (.int k),.d (.lst (t8 R.asks.length w)),.d (me c)]/\R.Ok/\k<R.asks.length/\g9 R.n c/\k4 (.d (.int (dI R w (k+1) c.1 c.2))) ls
def j5:W L:=(ax aJ (ao 1) (ao 0))
def iH:W Fl:=(aT (bq 4 (ax aJ (ao 0) (wC (.int 1))))
  (bI (br Qd (au (bj (gm 1 [2,3,4] (F6 (ax de (ao 1) (wC (.int 1))) (br dY (au (ao 4) aG))) (a9 0) (a7 (aC ez (au (ao 2) (au (ax aJ (ax aJ (ao 3) (ao 0)) (wC (.int 1))) (au (ax aJ (ax aJ (ao 3) (ao 0)) (wC (.int 2))) aG))))) j5)) aG))))
theorem si:aa6 4 1 gU iH:=by
 rintro ls k4 - ⟨R,k,w,c,rfl,hR,hk,hc,h⟩;have hfew:=hR.few;walk_at"iH";have el:((R.asks.length:Int)-((k:Int)+1)).toNat=R.asks.length-(k+1):=by omega
 rw[el]
 have er:wo ((k:Int)+1) (R.asks.length-(k+1))=(List.range (R.asks.length-(k+1))).map λ(i:Nat)=>D.int ((k+1+i:Nat):Int):=by
  unfold wo;refine ZD λi _=>?_
  congr 1
 rw[er];refine⟨⟨xL,xL⟩,⟨xL,xL⟩,by rw[YD,Y0];exact YH (show _<=20 by omega) xp,?_⟩
 refine iW (h:=λi=>if apart c (aM R (k+1+i)).one (aM R (k+1+i)).other=true then some (D.int (w (k+1+i)))else none) _ _ _ (λi hi Q q=>?_) λl' cc=>?_
 .
  have hi:k+1+i<R.asks.length:=by have:=YO.mp hi;omega
  walk_at"j5";refine⟨_,bt hi,?_⟩;walk_at"w";refine⟨_,bt hi,?_⟩;walk_at"w";refine⟨c,_,_,rfl,?_⟩;rw[jq hi]at q;cases e:apart c R.asks[k+1+i].one R.asks[k+1+i].other
  . rw[e]at q;walk_at"w";exact q
  . rw[e]at q;walk_at"w";exact⟨_,xW hi,q⟩
 .
  walk_at"w";rw[jr (λi=>apart c (aM R (k+1+i)).one (aM R (k+1+i)).other) (λi=>w (k+1+i))];refine⟨_,rfl,?_⟩;rw[t9]
  have e:dI R w (k+1) c.1 c.2=((List.range (R.asks.length-(k+1))).map λi=>if apart c (aM R (k+1+i)).one (aM R (k+1+i)).other=true then w (k+1+i)else 0).sum:=by
   unfold dI
   congr 1
   refine ZD λi hi=>?_;have hi:k+1+i<R.asks.length:=by have:=YO.mp hi;omega
   rw[t5 (jo hR hi) hc];rfl
  rw[<- e];exact⟨_,aj (aj (aj (aj aL))),h⟩
def qP:FS:=λls k4=>∃(R:aF)(k:Nat)(w f:Nat->Int),ls=[.d (aO R),.d (.int k),.d (.lst (t8 R.asks.length w)),.d (.lst (t8 R.n f))]/\R.Ok/\k<R.asks.length/\bB (w k)/\k4 (.d (.int (xS R w f k))) ls
def uS:W Fl:=(bq 5 (bj (br Bi (au (ao 5) (au (ax iu (ax de (ax aJ (ao 3) (ao 6)) (ax aJ (ao 3) (ao 7))) (aC gU (au (ao 0) (au (ao 1) (au (ao 2) (au (lR (au (ao 6) (au (ao 7) aG))) aG)))))) aG)))))
def uT:W Fl:=(U9 (a7 (ax MZ (ao 6) (ao 7))) uS cA)
def uU:W Fl:=(mq (pY (ao 4)) (a9 7) uT)
def uV:W Fl:=(aT (bq 4 (bj (br xw (au (bj (aC i5 (au (ao 0) (au (ao 1) (au (wC (.str "on")) aG))))) aG))))
  (aT (bq 5 (bj (ax bf (wC (.int 2)) (ax aJ (ao 2) (ao 1)))))
  (aT (mq (pY (ao 4)) (a9 6) uU)
  (bI (ax p5 (ao 5) (wC (.int 2)))))))
theorem Cf:aa6 4 4 qP uV:=by
 rintro ls k4 - ⟨R,k,w,f,rfl,hR,hk,hb,h⟩;have hhi:=hR.hi;walk_at"uV";refine⟨R,k,true,hk,rfl,hR,λc=>?_⟩;walk_at"w";have hwl:=GW (hR.ask _ (YB hk)) true;refine⟨(wJ R.n R.asks[k] true).map λ(t:Nat)=>(t:Int),by rw[Y3];rfl,by rw[YD];omega,λc2=>?_⟩;rw[<- jq hk,KF,Y3];have eT:(VQ R k).map (D.int ∘ λ(t:Nat)=>(t:Int))=(VQ R k).map λ(t:Nat)=>D.int (t:Int):=rfl;rw[eT];walk_at"w";refine⟨_,xW hk,bE xp,hb,?_⟩;have hT:∀t∈VQ R k,t<R.n:=λt ht=>((nh hR hk).mp ht).1;refine cF (enc:=λ(t:Nat)=>D.int (t:Int)) (VQ R k) (λpre Z=>∃x6 x7,Z=[.d (aO R),.d (.int k),.d (.lst (t8 R.asks.length w)),.d (.lst (t8 R.n f)),.d (.lst ((VQ R k).map λ(t:Nat)=>D.int (t:Int))),.d (.int (mz R w f k pre)),x6,x7]) _ ⟨_,_,rfl⟩ ?_ ?_
 .
  rintro pre g suf Z hsp ⟨x6,x7,rfl⟩ Q h1 h2 h3 h4;have hg:g<R.n:=hT g (by rw[hsp];simp);have e1:mz R w f k (pre++[g])=kF R w f k (mz R w f k pre) g (VQ R k):=by unfold mz;rw[aay];rfl
  rw[e1]at h1;walk_at"uU";refine cF (enc:=λ(t:Nat)=>D.int (t:Int)) (VQ R k) (λpre2 Z=>∃x7,Z=[.d (aO R),.d (.int k),.d (.lst (t8 R.asks.length w)),.d (.lst (t8 R.n f)),.d (.lst ((VQ R k).map λ(t:Nat)=>D.int (t:Int))),.d (.int (kF R w f k (mz R w f k pre) g pre2)),.d (.int g),x7]) _ ⟨_,rfl⟩ ?_ ?_
  .
   rintro pre2 t suf2 Z hsp2 ⟨x7,rfl⟩ Q2 g1 g2 g3 g4;have ht:t<R.n:=hT t (by rw[hsp2];simp)
   have e2:kF R w f k (mz R w f k pre) g (pre2++[t])=if decide (g<=t)then VP (kF R w f k (mz R w f k pre) g pre2) (KG R w f k g t)else kF R w f k (mz R w f k pre) g pre2:=by unfold kF;rw[aay];rfl
   rw[e2]at g1;walk_at"uT";by_cases hgt:g<=t
   .
    have hgt':(g:Int)<=(t:Int):=by omega
    simp only[hgt,hgt',decide_true,aad]at g1 ⊢;walk_at"uS";refine⟨_,xW hg,_,xW ht,?_⟩;walk_at"w";refine⟨xp,R,k,w,(g,t),rfl,hR,hk,⟨hgt,ht⟩,?_⟩;walk_at"w";exact g1 _ ⟨_,rfl⟩
   .
    have hgt':¬(g:Int)<=(t:Int):=by omega
    simp only[hgt,hgt',decide_false,aaa,Zd]at g1 ⊢;exact g1 _ ⟨_,rfl⟩
  . rintro Z ⟨x7,rfl⟩;exact h1 _ ⟨_,_,rfl⟩
 . rintro Z ⟨x6,x7,rfl⟩;walk_at"w";exact⟨xp,y_,_,aj (aj (aj (aj aL))),h⟩
def lg:FS:=λls k4=>∃(R:aF)(k:Nat)(w f:Nat->Int)(p:Int),ls=[.d (aO R),.d (.int k),.d (.lst (t8 R.n f)),.d (.int p),.d (.int (w k-p))]/\R.Ok/\k<R.asks.length/\∀c,k4 (.own c (t8 R.n (t6 R w f k p))) ls
def o8:W L:=(ax iu (ao 1) (Ee (a7 (aC l8 (au (ao 2) (au (ao 3) (au (wC (.str "on")) (au (ao 0) aG)))))) (ao 4) (ao 5)))
def nZ:W Fl:=(bI (gm 2 [0,1,3,4] (rW (ao 2)) (dH [0,1]) iw o8))
theorem Mr(n:Nat)(f:Nat->Int):dA (t8 n f)=(List.range n).map λ(t:Nat)=>D.tup [.int (t:Int),.int (f t)]:=by
 refine List.ext_getElem? λj=>?_;unfold dA t8;by_cases hj:j<n
 . simp[ZE,hj]
 . simp[hj]
theorem yB:aa6 5 0 lg nZ:=by
 rintro ls k4 - ⟨R,k,w,f,p,rfl,hR,hk,h⟩;have hhi:=hR.hi;walk_at"nZ";rw[Mr];refine⟨by rw[YD,Y0];exact YH hhi xp,?_⟩;refine oM (h:=λt=>D.int (t6 R w f k p t)) (List.range R.n) _ _ _ (λt ht Q hQ=>?_) λl' m' c=>?_
 .
  have ht:=YO.mp ht;walk_at"o8";refine⟨R,k,true,t,hk,rfl,hR,ht,?_⟩;unfold t6 VO at hQ;rw[jq hk]at hQ;cases e:iS R.n R.asks[k] t
  . rw[e]at hQ;walk_at"w";exact hQ
  . rw[e]at hQ;walk_at"w";exact hQ
 . walk_at"w";exact⟨_,aj (aj (aj (aj (aj aL)))),h c⟩
def eA:FS:=λls k4=>∃(R:aF)(q:Rat),ls=[.d (aO R),.d (Vp q)]/\R.Ok/\RB 1750 q/\∀c,k4 (.own c ((b9 R q).map Vp)) ls
def gW:W Fl:=(aT (bq 8 (bj (aC qP (au (ao 0) (au (ao 6) (au (ao 3) (au (ao 4) aG)))))))
  (aT (bq 4 (bj (aC lg (au (ao 0) (au (ao 6) (au (ao 4) (au (ao 8) (au (ax iu (ao 7) (ao 8)) aG))))))))
  (vA (JM 5 (aC yo (au (ao 8) (au (ax aJ (ao 2) (wC (.int 0))) aG)))))))
def fj:W Fl:=(aT (bq 2 (bj (aC qO (au (ao 0) (au (ao 1) aG)))))
  (aT (bq 3 (ax aJ (ao 2) (wC (.int 1))))
  (aT (bq 4 (ax aJ (ao 2) (wC (.int 2))))
  (aT (bq 5 (pX aG))
  (aT (mq (rW (ao 3)) (dH [6,7]) gW)
  (bI (iq 5)))))))
theorem Iw{m k:Nat}{pre suf:List Nat}(h:List.range m=pre++k::suf):pre=List.range k/\k<m:=by
 have h1:(List.range m)[pre.length]?=some k:=by rw[h];simp
 have hl:pre.length<m:=by have:=congrArg List.length h;simp at this;omega
 rw[ZE hl]at h1;have h1:pre.length=k:=by simpa using h1
 refine⟨?_,xL⟩;have h2:(List.range m).take pre.length=pre:=by rw[h];simp
 rw[<- h2,List.take_range,h1]
 congr 1
 omega
theorem QY{R:aF}(hR:R.Ok){q:Rat}(hq:RB 1750 q){k:Nat}(hk:k<R.asks.length):bB (wI R q k):=by exact bG (n:=4050) (RO hR hq hk) xp
theorem n4:aa6 2 7 eA fj:=by
 rintro ls k4 - ⟨R,q,rfl,hR,hq,h⟩;have hfew:=hR.few;obtain⟨u0,u1⟩:=hW hR hq;walk_at"fj";refine⟨R,q,rfl,hR,hq,?_⟩;walk_at"w";refine⟨xp,λc=>?_⟩;rw[Mr];refine cF (enc:=λ(t:Nat)=>D.tup [.int (t:Int),.int (wI R q t)]) (List.range R.asks.length) (λpre Z=>∃x6 x7 x8,Z=[.d (aO R),.d (Vp q),.d (.tup [.int (bh R q),.lst (t8 R.asks.length (wI R q)),.lst (t8 R.n (VV R q))]),.d (.lst (t8 R.asks.length (wI R q))),.d (.lst (t8 R.n (VR R (wI R q) (VV R q) pre.length))),.own c ((pre.map (vF R q)).map Vp),x6,x7,x8]) _ ⟨_,_,_,rfl⟩ ?_ ?_
 .
  rintro pre k suf Z hsp ⟨x6,x7,x8,rfl⟩ Q h1 h2 h3 h4;obtain⟨ep,hk⟩:=Iw hsp;have el:pre.length=k:=by rw[ep,Y0]
  have e1:(pre++[k]).length=k+1:=by rw[Y4,el];rfl
  rw[e1,Y9,Y9]at h1;rw[el];walk_at"gW";refine⟨R,k,wI R q,_,rfl,hR,hk,QY hR hq hk,?_⟩;walk_at"w";refine⟨R,k,wI R q,_,_,rfl,hR,hk,λc2=>?_⟩;walk_at"w";refine⟨_,_,rfl,xL,?_,?_⟩
  . rw[YI];exact so u1 (YF xp xp)
  walk_at"w";refine⟨so (show _<21 by rw[el];omega) xp,?_⟩;exact h1 _ ⟨_,_,_,rfl⟩
 . rintro Z ⟨x6,x7,x8,rfl⟩;walk_at"w";exact⟨_,aj (aj aL),h c⟩
noncomputable def Ms(as:List VJ)(ws:List Bool):List Rat:=(as.zip ws).map λx=>if x.2 then x.1.size else 0
def qQ:FS:=λls k4=>∃(R:aF)(ws:List Bool),ls=[.d (aO R),.d (.lst (ws.map λw=>D.str (eO w)))]/\R.asks.length<=20/\ws.length=R.asks.length/\∀c,k4 (.own c ((Ms R.asks ws).map Vp)) ls
def uW:W L:=(Ee (a7 (ax rT (ao 1) (wC (.str "on")))) (ax aJ (ao 0) (wC (.int 3))) (wC (.tup [(.int 0),(.int 1)])))
def uX:W Fl:=(bI (gm 2 [] (P8 (ax aJ (ao 0) (wC (.int 1))) (ao 1)) (dH [0,1]) iw uW))
theorem Cg:aa6 2 0 qQ uX:=by
 rintro ls k4 - ⟨R,ws,rfl,hfew,hl,h⟩;walk_at"uX";have e:Bl (R.asks.map j3) (ws.map λw=>D.str (eO w))=(R.asks.zip ws).map λx=>D.tup [j3 x.1,D.str (eO x.2)]:=by unfold Bl;rw[List.zip_map,Y3];rfl
 rw[e];refine⟨by rw[YD,Zh];exact YH (show min R.asks.length ws.length<=20 by omega) xp,?_⟩
 refine oM (h:=λx=>Vp (if x.2 then x.1.size else 0)) _ _ _ _ (λx hx Q q=>?_) λl m a=>?_
 .
  walk_at"uW";split
  . rename_i c;rw[if_pos c]at q;exact q
  . rename_i c;rw[if_neg c]at q;exact q
 . walk_at"w";have:=h a;unfold Ms at this;rw[Y3]at this;exact⟨_,aj (aj aL),this⟩
def uY:FS:=λls k4=>∃(R:aF)(ws:List Bool),ls=[.d (aO R),.d (eZ ws)]/\R.Ok/\SB R/\ws.length=R.asks.length/\k4 (.d (Vp (AZ R ws))) ls
def yC:W Fl:=(bI (ax aJ (aC uN (au (ao 0) (au (bj (aC qQ (au (ao 0) (au (ao 1) aG)))) aG))) (wC (.int 0))))
theorem Fg:aa6 2 0 uY yC:=by rintro ls k4 - ⟨R,ws,rfl,hR,hT,hw,h⟩;walk_at"yC";refine⟨R,ws,rfl,hR.few,hw,λc=>?_⟩;walk_at"w";refine⟨R,fS R.asks ws,rfl,hR,sR hw,LB.waysB hT ws,?_⟩;walk_at"SR";exact⟨_,aj (aj aL),h⟩
def ib:FS:=λls k4=>∃(R:aF),ls=[.d (aO R)]/\R.Ok/\∀c,k4 (.bx none [.d (Vp (d5 R).1),.own c ((b9 R (d5 R).1).map Vp),.d (me (d5 R).2)]) ls
def n5:W Fl:=(aT (bq 1 (bj (aC gS (au (ao 0) aG))))
  (bI (Ny (au (ax aJ (ao 1) (wC (.int 0))) (au (aC eA (au (ao 0) (au (ax aJ (ao 1) (wC (.int 0))) aG))) (au (ax aJ (ao 1) (wC (.int 1))) aG))))))
theorem yD:aa6 1 1 ib n5:=by rintro ls k4 - ⟨R,rfl,hR,h⟩;walk_at"n5";refine⟨R,rfl,hR,?_⟩;walk_at"w";refine⟨R,_,rfl,hR,(xP hR).mono xp,λc=>?_⟩;walk_at"w";exact⟨xp,_,aj aL,h c⟩
def fK:FS:=λls k4=>∃(p am:Rat)(w:Bool),ls=[.d (Vp p),.d (.str (eO w)),.d (Vp am)]/\RB 4400 p/\RB 4400 am/\k4 (.d (Vp (V3 p w am))) ls
def jF:W Fl:=(bI (Ee (a7 (ax rT (ao 1) (wC (.str "on")))) (aC jB (au (ao 0) (au (ao 2) aG))) (aC fJ (au (ao 0) (au (ao 2) aG)))))
theorem uZ:aa6 3 0 fK jF:=by
 rintro ls k4 - ⟨p,am,w,rfl,hp,ha,h⟩;unfold jF;unfold V3 at h;walk_at"w"
 cases w with
 | true =>
  walk_at"w";exact DV hp ha ⟨_,aj (aj (aj aL)),h⟩
 | false =>
  walk_at"w";exact iZ hp ha ⟨_,aj (aj (aj aL)),h⟩
def ic:FS:=λls k4=>∃(ps:List Rat)(s:gn),ls=[.d (.lst (ps.map Vp)),.d (V0 s)]/\ps.length<=20/\s.k<ps.length/\s.l<ps.length/\s.k≠s.l/\(∀p∈ps,RB 4000 p)/\RB 4000 s.am/\∀a,k4 (.own a ((V4 ps s).map Vp)) ls
def n8:W Fl:=(aT (bq 2 (br tJ (au (ao 0) aG)))
  (aT (tK 2 (ax aJ (ao 1) (wC (.int 0))) (aC fK (au (eR 2 (AY 2 (ax aJ (ao 1) (wC (.int 0)))) (ax aJ (ao 2) (ax aJ (ao 1) (wC (.int 0))))) (au (ax aJ (ao 1) (wC (.int 1))) (au (ax aJ (ao 1) (wC (.int 4))) aG)))))
  (aT (tK 2 (ax aJ (ao 1) (wC (.int 2))) (aC fK (au (eR 2 (AY 2 (ax aJ (ao 1) (wC (.int 2)))) (ax aJ (ao 2) (ax aJ (ao 1) (wC (.int 2))))) (au (ax aJ (ao 1) (wC (.int 3))) (au (ax aJ (ao 1) (wC (.int 4))) aG)))))
  (bI (iq 2)))))
theorem Iy{n k:Nat}(h:k<n):UI n (k:Int)=some k:=by unfold UI;rw[if_pos (by omega),if_pos (by omega)];simp
theorem yE:aa6 2 1 ic n8:=by
 rintro ls k4 - ⟨ps,s,rfl,h20,hk,hl,hkl,hp,ha,h⟩;unfold n8;simp only[V0];walk_at"w";have r1:=hp _ (YB hk);have r2:=hp _ (YB hl);refine λa=>⟨_,bt hk,ps[s.k],s.am,s.kw,rfl,r1.mono xp,ha.mono xp,?_⟩;walk_at"w";have hl':s.l<(ps.set s.k (V3 ps[s.k] s.kw s.am)).length:=by rw[aah];exact hl
 have e1:(ps.set s.k (V3 ps[s.k] s.kw s.am))[s.l]=ps[s.l]:=by rw[List.getElem_set_ne hkl]
 refine⟨s.k,Iy hk,?_⟩;rw[<- List.map_set];refine⟨_,bt hl',_,s.am,s.lw,rfl,by rw[e1];exact r2.mono xp,ha.mono xp,?_⟩;walk_at"w";refine⟨s.l,Iy (by simpa using hl),_,aj (aj aL),?_⟩;have h:=h a;unfold V4 at h;rw[bP hk,bP hl',List.map_set]at h;exact h
def eD:FS:=λls k4=>∃(R:aF)(k l:Nat)(kw lw:Bool)(hk:k<R.asks.length)(hl:l<R.asks.length),ls=[.d (aO R),.d (.int (k:Int)),.d (.str (eO kw)),.d (.int (l:Int)),.d (.str (eO lw))]/\R.Ok/\k4 (.d (.bl (ke R.n R.asks[k] kw R.asks[l] lw))) ls
def j6:W L:=(ax (JN false) (ao 0) (ao 1))
def iI:W Fl:=(aT (bq 5 (bj (aC i5 (au (ao 0) (au (ao 3) (au (ao 4) aG))))))
  (bI (FZ (a7 (br Qf (au (bj (gm 1 [5] (pY (aC i5 (au (ao 0) (au (ao 1) (au (ao 2) aG))))) (a9 0) iw j6)) aG))))))
theorem sj:aa6 5 1 eD iI:=by
 rintro ls k4 - ⟨R,k,l,kw,lw,hk,hl,rfl,hR,h⟩;walk_at"iI";refine⟨R,l,lw,hl,rfl,hR,λc=>?_⟩;walk_at"w";refine⟨R,k,kw,hk,rfl,hR,λc2=>?_⟩;walk_at"w";have b0:=GW (hR.ask _ (YB hk)) kw;have hhi:=hR.hi;refine⟨QC xL,fC (h:=λt=>.bl (decide (t∈wJ R.n R.asks[l] lw))) (wJ R.n R.asks[k] kw) [] _ (λt hm Q hq=>?_) λl' a0=>?_⟩
 . walk_at"j6";refine⟨rfl,by simp[tN],?_⟩;rw[Dl];exact hq
 . rw[aaA];refine⟨(wJ R.n R.asks[k] kw).map λt=>decide (t∈wJ R.n R.asks[l] lw),by rw[Y3];rfl,?_⟩;walk_at"w";refine⟨_,aj (aj (aj (aj (aj aL)))),?_⟩;unfold ke at h;simpa[List.any_map]using h
def dz:FS:=λls k4=>∃(d:D)(n:Nat),ls=[.d d,.d (.int (n:Int))]/\k4 (.d (.bl (vH n d))) ls
def cQ:W Fl:=(bI (pW (aC o7 (au (ax aJ (ao 0) (wC (.int 1))) aG)) (pW (aC o7 (au (ax aJ (ao 0) (wC (.int 3))) aG)) (aC nQ (au (ax aJ (ao 0) (wC (.int 4))) aG)))))
def cR:W Fl:=(aT (U9 (U6 (Ed (a7 (aC cH (au (ax aJ (ao 0) (wC (.int 0))) (au (ao 1) aG))))) (Ed (a7 (aC cH (au (ax aJ (ao 0) (wC (.int 2))) (au (ao 1) aG)))))) (bI (wC (.bl false))) cA)
  cQ)
def dP:W Fl:=(aT (U9 (U6 (Ed (a7 (U8 (xk "tuple") (ao 0)))) (a7 (ax Jl (br dY (au (ao 0) aG)) (wC (.int 5))))) (bI (wC (.bl false))) cA)
  cR)
theorem QZ{a b c d e:D}{z:L}{k4:Fl->Ev->Prop}(h:k4 (.rt (.d (.bl (Fu b && (Fu d && BL e))))) [.d (.tup [a,b,c,d,e]),z]):cQ [.d (.tup [a,b,c,d,e]),z] k4:=by
 walk_at"cQ";refine⟨_,rfl,?_⟩
 cases e3:Fu b with
 | false =>
  rw[e3]at h;exact h
 | true =>
  rw[e3,Bool.true_and]at h;refine⟨_,rfl,?_⟩
  cases e4:Fu d with
  | false =>
   rw[e4]at h;exact h
  | true =>
   rw[e4,Bool.true_and]at h;exact⟨_,rfl,h⟩
theorem Q0{a b c d e:D}{n:Nat}{k4:Fl->Ev->Prop}(h:k4 (.rt (.d (.bl (uc a n && (uc c n && (Fu b && (Fu d && BL e))))))) [.d (.tup [a,b,c,d,e]),.d (.int (n:Int))]):cR [.d (.tup [a,b,c,d,e]),.d (.int (n:Int))] k4:=by
 walk_at"cR";refine⟨_,_,rfl,?_⟩
 cases e1:uc a n with
 | false =>
  rw[e1]at h;exact h
 | true =>
  rw[e1,Bool.true_and]at h;refine⟨_,_,rfl,?_⟩
  cases e2:uc c n with
  | false =>
   rw[e2]at h;exact h
  | true =>
   rw[e2,Bool.true_and]at h;exact QZ h
theorem lj:aa6 2 0 dz dP:=by
 rintro ls k4 - ⟨d,n,rfl,h⟩;have bk:∀b:Bool,k4 (.d (.bl b)) [.d d,.d (.int (n:Int))]->aP [.d d,.d (.int (n:Int))] k4 (.rt (.d (.bl b))) [.d d,.d (.int (n:Int))]:=λb h=>⟨_,aj (aj aL),h⟩;have h:=bk _ h;unfold dP;by_cases ht:∃xs,d=.tup xs
 .
  obtain⟨xs,rfl⟩:=ht;by_cases h5:xs.length=5
  . obtain⟨a,b,c,d,e,rfl⟩:=TF h5;rw[Oj]at h;walk_at"w";exact Q0 h
  .
   rw[HE h5]at h;walk_at"w";have:¬((xs.length:Int)=5):=by omega
   simp only[this,not_false_eq_true,decide_true,aad,ite_true];exact h
 .
  rw[K1 (λxs e=>ht ⟨xs,e⟩)]at h
  have ei:p6 "tuple" d=false:=by
   cases d<;>first
    |exact absurd ⟨_,rfl⟩ ht
    |rfl
  walk_at"w";rw[ei];exact h
def jG:FS:=λls k4=>∃(R:aF)(ps:List Rat)(k:Nat)(w:Bool),ls=[.d (aO R),.d (.lst (ps.map Vp)),.d (.int (k:Int)),.d (.str (eO w))]/\d6 R ps/\k<ps.length/\k4 (.d (Vp (V1 R ps k w))) ls
def qR:W Fl:=(bI (Ee (a7 (ax rT (ao 3) (wC (.str "on")))) (aC fJ (au (ax aJ (ax aJ (ax aJ (ao 0) (wC (.int 1))) (ao 2)) (wC (.int 3))) (au (ax aJ (ao 1) (ao 2)) aG))) (ax aJ (ao 1) (ao 2))))
theorem Ay:aa6 4 0 jG qR:=by
 rintro ls k4 - ⟨R,ps,k,w,rfl,hS,hk,h⟩;have hk':k<R.asks.length:=by rw[<- hS.len];exact hk
 have r1:=hS.sz_rb hk;have r2:=hS.rb hk;rw[nu hk']at r1;rw[bP hk]at r2;unfold V1 at h;rw[nu hk',bP hk]at h;walk_at"qR"
 cases w with
 | true =>
  walk_at"w";refine⟨_,bt hk',?_⟩;walk_at"w";refine⟨_,bt hk,?_⟩;walk_at"w";exact iZ (r1.mono xp) (r2.mono xp) ⟨_,aj (aj (aj (aj aL))),h⟩
 | false =>
  walk_at"w";exact⟨_,bt hk,_,aj (aj (aj (aj aL))),h⟩
def ie:FS:=λls k4=>∃(R:aF)(ps:List Rat)(k l:Nat)(kw lw:Bool)(more:List D),ls=[.d (aO R),.d (.lst (ps.map Vp)),.d (.tup (.int (k:Int)::.str (eO kw)::.int (l:Int)::.str (eO lw)::more))]/\d6 R ps/\k<ps.length/\l<ps.length/\k4 (.d (Vp (V2 R ps k kw l lw))) ls
def n9:W Fl:=(bI (aC uv (au (bj (aC jG (au (ao 0) (au (ao 1) (au (ax aJ (ao 2) (wC (.int 0))) (au (ax aJ (ao 2) (wC (.int 1))) aG)))))) (au (bj (aC jG (au (ao 0) (au (ao 1) (au (ax aJ (ao 2) (wC (.int 2))) (au (ax aJ (ao 2) (wC (.int 3))) aG)))))) aG))))
theorem yF:aa6 3 0 ie n9:=by rintro ls k4 - ⟨R,ps,k,l,kw,lw,more,rfl,hS,hk,hl,h⟩;walk_at"n9";refine⟨R,ps,k,kw,rfl,hS,hk,?_⟩;walk_at"w";refine⟨R,ps,l,lw,rfl,hS,hl,?_⟩;walk_at"w";exact⟨_,_,rfl,(z8 hS hk kw).mono xp,(z8 hS hl lw).mono xp,_,aj (aj (aj aL)),h⟩
noncomputable def TV(R:aF)(ps:List Rat)(s:gn):Bool:=!decide (s.k=s.l) && (ke R.n (aM R s.k) s.kw (aM R s.l) s.lw && (decide (0<s.am) && !decide (V2 R ps s.k s.kw s.l s.lw<s.am)))
def oa:FS:=λls k4=>∃(R:aF)(ps:List Rat)(d:D),ls=[.d (aO R),.d (.lst (ps.map Vp)),.d d]/\d6 R ps/\(∀s,A0 d=some s->s.k<ps.length->s.l<ps.length->RB 400000 s.am)/\k4 (.d (.bl (Wc R ps d))) ls
def qS:W Fl:=(aT (U9 (U6 (Ed (a7 (aC dz (au (ao 2) (au (bj (br dY (au (ax aJ (ao 0) (wC (.int 1))) aG))) aG))))) (a7 (ax rT (ax aJ (ao 2) (wC (.int 0))) (ax aJ (ao 2) (wC (.int 2)))))) (bI (wC (.bl false))) cA)
  (aT (U9 (Ed (a7 (aC eD (au (ao 0) (au (ax aJ (ao 2) (wC (.int 0))) (au (ax aJ (ao 2) (wC (.int 1))) (au (ax aJ (ao 2) (wC (.int 2))) (au (ax aJ (ao 2) (wC (.int 3))) aG)))))))) (bI (wC (.bl false))) cA)
  (bI (pW (aC d8 (au (wC (.tup [(.int 0),(.int 1)])) (au (ax aJ (ao 2) (wC (.int 4))) aG))) (FZ (a7 (aC d8 (au (bj (aC ie (au (ao 0) (au (ao 1) (au (ao 2) aG))))) (au (ax aJ (ao 2) (wC (.int 4))) aG)))))))))
theorem Si{R:aF}{ps:List Rat}(h:d6 R ps){k l:Nat}(hk:k<ps.length)(hl:l<ps.length)(kw lw:Bool):RB 400000 (V2 R ps k kw l lw):=by
 rcases(h.ms hk hl kw lw).2.2.2 with e|e
 . rw[e];exact(z8 h hk _).mono xp
 . rw[e];exact(z8 h hl _).mono xp
theorem Az:aa6 3 0 oa qS:=by
 rintro ls k4 - ⟨R,ps,d,rfl,hS,ha,h⟩;walk_at"qS";refine⟨_,R.asks.length,rfl,?_⟩
 cases ef:vH R.asks.length d with
 | false =>
  have e:Wc R ps d=false:=by
   unfold vH at ef;unfold Wc;rw[hS.len];split
   . rename_i s e;rw[e]at ef;have ef:(decide (s.k<R.asks.length) && decide (s.l<R.asks.length))=false:=ef;rw[<- Bool.and_assoc,ef];rfl
   . rfl
  rw[e]at h;walk_at"w";exact⟨_,aj (aj (aj aL)),h⟩
 |true =>
 obtain⟨s,es,hk',hl'⟩:∃s,A0 d=some s/\s.k<R.asks.length/\s.l<R.asks.length:=by
  unfold vH at ef;split at ef
  . rename_i s e;rw[YV,YJ,YJ]at ef;exact⟨s,e,ef.1,ef.2⟩
  . cases ef
 have hk:s.k<ps.length:=by rw[hS.len];exact hk'
 have hl:s.l<ps.length:=by rw[hS.len];exact hl'
 have ha2:=ha s es hk hl;have:=HD es;subst this;rw[Mi hk hl]at h;unfold Vl at h;rw[cG hk',cG hl']at h;simp only[V0]at h ⊢;walk_at"w";by_cases e:s.k=s.l
 . rw[if_pos (by omega)];rw[Zg e]at h;exact⟨_,aj (aj (aj aL)),h⟩
 rw[if_neg (by omega)];rw[YZ e]at h;refine⟨R,s.k,s.l,s.kw,s.lw,hk',hl',rfl,hS.ok,?_⟩;walk_at"w"
 cases e1:ke R.n R.asks[s.k] s.kw R.asks[s.l] s.lw with
 | false =>
  rw[e1]at h;walk_at"w";exact⟨_,aj (aj (aj aL)),h⟩
 | true =>
  rw[e1]at h;walk_at"w";refine⟨0,s.am,rfl,RB.zero.mono xp,ha2,?_⟩;walk_at"w";by_cases e2:0<s.am
  . rw[Zg e2]at h;rw[if_pos e2];refine⟨R,ps,s.k,s.l,s.kw,s.lw,_,rfl,hS,hk,hl,?_⟩;walk_at"w";refine⟨_,s.am,rfl,Si hS hk hl _ _,ha2,?_⟩;walk_at"w";refine⟨_,aj (aj (aj aL)),?_⟩;simpa using h
  . rw[YZ e2]at h;rw[if_neg e2];exact⟨_,aj (aj (aj aL)),h⟩
def qT:FS:=λls k4=>∃(R:aF)(ps:List Rat)(ss:List D)(D:Nat),ls=[.d (aO R),.d (.lst (ps.map Vp)),.d (.lst ss)]/\d6 R ps/\ss.length<=99/\(∀d∈ss,∀s,A0 d=some s->RB 4000 s.am/\s.am.den∣D)/\(0<D/\D<2^1500/\(∀a∈R.asks,a.size.den∣D)/\(∀p∈ps,p.den∣D)) /\
 Mo R 0 ps ss=none/\∀a,k4 (.own a ((Ou R ps ss).map Vp)) ls
def u5:W Fl:=(aT (U9 (Ed (a7 (aC oa (au (ao 0) (au (ao 3) (au (ao 5) aG)))))) zm cA)
  (bq 3 (aC ic (au (ao 3) (au (ao 5) aG)))))
def u6:W Fl:=(aT (U9 (Ed (a7 (U8 (xk "list") (ao 2)))) zm cA)
  (aT (bq 3 (br tJ (au (ao 1) aG)))
  (aT (mq (rW (ao 2)) (dH [4,5]) u5)
  (bI (iq 3)))))
theorem Ci:aa6 3 3 qT u6:=by
 rintro ls k4 - ⟨R,ps,ss,D,rfl,hS,h20,hs,⟨d0,d1,da,dp⟩,hbn,h⟩;walk_at"u6";refine λa0=>fB _ (λj Z=>∃(qs:List Rat)(a:Addr)(x4 x5:L),Z=[.d (aO R),.d (.lst (ps.map Vp)),.d (.lst ss),.own a (qs.map Vp),x4,x5]/\Wq R qs D/\qs.length=ps.length/\Mo R j qs (ss.drop j)=Mo R 0 ps ss/\Ou R qs (ss.drop j)=Ou R ps ss) _ ⟨ps,_,_,_,rfl,⟨hS,d0,d1,da,dp⟩,rfl,rfl,rfl⟩ ?_ ?_
 .
  rintro j x Z hj ⟨qs,a,x4,x5,rfl,hD,hl,hb,hr⟩ Q h1 h2 h3' h4;obtain⟨hj',ex⟩:=K8 hj;subst ex;have hm:=YB hj';have s3:=hs _ hm;rw[HR hj']at hb;have hr':Ou R (Wp qs ss[j]) (ss.drop (j+1))=Ou R ps ss:=by rw[<- hr,Zw hj'];rfl
  walk_at"u5";refine⟨R,qs,ss[j],rfl,hD.ok,λs e _ _=>(s3 s e).1.mono xp,?_⟩;walk_at"w"
  cases e:Wc R qs ss[j]with
  | false =>
   rw[e,if_neg (by decide),hbn]at hb;cases hb
  | true =>
   rw[e,if_pos rfl]at hb;obtain⟨s,es,hk,hl',e'⟩:=QG e;have dd:=Ov hD.ok hk hl' e';have es':A0 ss[j]=some s:=by rw[es];exact yb s
   obtain⟨s4,s5⟩:=s3 s es';have est:Wp qs ss[j]=V4 qs s:=by unfold Wp;rw[es']
   rw[est]at hb hr';rw[es];walk_at"w";refine⟨qs,s,rfl,by rw[hD.ok.len];exact hD.ok.ok.few,hk,hl',dd.kl,QK hD.ok,s4,λc=>?_⟩;walk_at"w";exact h1 _ ⟨_,_,_,_,rfl,hD.slid dd s5,by rw[kI];exact hl,hb,hr'⟩
 .
  rintro Z ⟨qs,a,x4,x5,rfl,hD,hl,hb,hr⟩;have e:ss.drop (dA ss).length=[]:=by simp[dA]
  rw[e]at hb hr;walk_at"w";have h:=h a;rw[<- hr]at h;exact⟨_,aj (aj (aj aL)),h⟩
def jH:FS:=λls k4=>∃(R:aF)(k l:Nat)(hk:k<R.asks.length)(hl:l<R.asks.length),ls=[.d (aO R),.d (.int (k:Int)),.d (.int (l:Int))]/\R.Ok/\k4 (.d (.tup [.str (eO (bW R.n R.asks[k] R.asks[l]).1),.str (eO (bW R.n R.asks[k] R.asks[l]).2)])) ls
def iJ:W Fl:=(U9 (a7 (aC eD (au (ao 0) (au (ao 1) (au (ax aJ (ao 3) (wC (.int 0))) (au (ao 2) (au (ax aJ (ao 3) (wC (.int 1))) aG))))))) (bI (iq 3)) cA)
def ll:W Fl:=(aT (mq (pY (lR (au (lR (au (wC (.str "on")) (au (wC (.str "on")) aG))) (au (lR (au (wC (.str "on")) (au (wC (.str "back")) aG))) (au (lR (au (wC (.str "back")) (au (wC (.str "on")) aG))) aG))))) (a9 3) iJ)
  (bI (lR (au (wC (.str "back")) (au (wC (.str "back")) aG)))))
theorem Cj{R:aF}{k l:Nat}(hk:k<R.asks.length)(hl:l<R.asks.length)(hR:R.Ok)(aw bw:Bool){Q:Fl->Ev->Prop}(h1:ke R.n R.asks[k] aw R.asks[l] bw=true->∀Z,AW Z [.d (aO R),.d (.int (k:Int)),.d (.int (l:Int))] [.d (aO R),.d (.int (k:Int)),.d (.int (l:Int))]->Q (.rt (.d (.tup [.str (eO aw),.str (eO bw)]))) Z)
  (h2:ke R.n R.asks[k] aw R.asks[l] bw=false->Q .nx [.d (aO R),.d (.int (k:Int)),.d (.int (l:Int)),.d (.tup [.str (eO aw),.str (eO bw)])]) :
  iJ [.d (aO R),.d (.int (k:Int)),.d (.int (l:Int)),.d (.tup [.str (eO aw),.str (eO bw)])] Q:=by
 walk_at"iJ";refine⟨R,k,l,aw,bw,hk,hl,rfl,hR,?_⟩;walk_at"w"
 cases e:ke R.n R.asks[k] aw R.asks[l] bw with
 |true=>exact h1 e _ (aj (aj (aj aL)))
 |false=>exact h2 e
theorem vQ:aa6 3 1 jH ll:=by
 rintro ls k4 - ⟨R,k,l,hk,hl,rfl,hR,h⟩;walk_at"ll";have e1:Str.ofString "on"=eO true:=rfl;have e2:Str.ofString "back"=eO false:=rfl;rw[e1,e2];refine⟨xp,xp,xp,xp,?_⟩;unfold bW at h;unfold ck;refine Cj hk hl hR true true (λe Z b=>?_) λe=>?_
 . rw[if_pos e]at h;exact⟨_,b,h⟩
 rw[if_neg (by simp[e])]at h;unfold ck;refine Cj hk hl hR true false (λe Z b=>?_) λe=>?_
 . rw[if_pos e]at h;exact⟨_,b,h⟩
 rw[if_neg (by simp[e])]at h;unfold ck;refine Cj hk hl hR false true (λe Z b=>?_) λe=>?_
 . rw[if_pos e]at h;exact⟨_,b,h⟩
 rw[if_neg (by simp[e])]at h;unfold ck;exact⟨xp,_,aj (aj (aj aL)),h⟩
def fk:FS:=λls k4=>∃(R:aF)(ps:List Rat)(k l:Nat)(hk:k<R.asks.length)(hl:l<R.asks.length),ls=[.d (aO R),.d (.lst (ps.map Vp)),.d (.int (k:Int)),.d (.int (l:Int))]/\d6 R ps/\k4 (.d (V0 (V7 R ps k l (bW R.n R.asks[k] R.asks[l])))) ls
def gb:W Fl:=(aT (bq 4 (bj (aC jH (au (ao 0) (au (ao 2) (au (ao 3) aG))))))
  (aT (bq 5 (lR (au (ao 2) (au (ax aJ (ao 4) (wC (.int 0))) (au (ao 3) (au (ax aJ (ao 4) (wC (.int 1))) aG))))))
  (bI (ax C4 (ao 5) (lR (au (bj (aC ie (au (ao 0) (au (ao 1) (au (ao 5) aG))))) aG))))))
theorem o9:aa6 4 2 fk gb:=by rintro ls k4 - ⟨R,ps,k,l,hk,hl,rfl,hS,h⟩;walk_at"gb";refine⟨R,k,l,hk,hl,rfl,hS.ok,?_⟩;walk_at"w";refine⟨xp,R,ps,k,l,_,_,[],rfl,hS,by rw[hS.len];exact hk,by rw[hS.len];exact hl,?_⟩;walk_at"w";refine⟨xp,x_,x_,xp,_,aj (aj (aj (aj aL))),h⟩
def jI:FS:=λls k4=>∃(R:aF)(ps:List Rat),ls=[.d (aO R),.d (.lst (ps.map Vp))]/\d6 R ps/\∀a,k4 (.own a ((vG R 20 ps).map V0)) ls
def mI:W Fl:=(aT (bq 5 (bj (aC fk (au (ao 0) (au (ao 2) (au (ax aJ (ao 4) (wC (.int 0))) (au (ax aJ (ao 4) (wC (.int 1))) aG)))))))
  (aT (vA (JM 3 (ao 5)))
  (aT (bq 2 (bj (aC ic (au (ao 2) (au (ao 5) aG)))))
  (bq 4 (bj (aC bH (au (ao 0) (au (bj (aC dW (au (ao 0) (au (ao 2) aG)))) aG))))))))
def lp:W Fl:=(aT (bq 2 (ao 1))
  (aT (bq 3 (pX aG))
  (aT (bq 4 (bj (aC bH (au (ao 0) (au (bj (aC dW (au (ao 0) (au (ao 2) aG)))) aG)))))
  (aT (tF (a7 (ax CW (ao 4) (wC .non))) mI)
  (bI (iq 3))))))
theorem AA{R:aF}{ps:List Rat}(h:d6 R ps){k4:L->List L->Prop}(q:k4 (.d (Ht (V9 (V8 R) (Wb R ps)))) [.d (aO R),.d (.lst ((Wb R ps).map λ(k:Nat)=>D.int (k:Int)))]):bH [.d (aO R),.d (.lst ((Wb R ps).map λ(k:Nat)=>D.int (k:Int)))] k4:=by refine⟨R,Wb R ps,rfl,?_,λk hk=>by rw[<- h.len];exact(iY hk).1,q⟩;refine YH (aaf _ _) ?_;rw[Y0,h.len];exact h.ok.few
theorem wX{R:aF}{ps:List Rat}(h:d6 R ps){k4:L->List L->Prop}(q:∀a,k4 (.own a ((Wb R ps).map λ(k:Nat)=>D.int (k:Int))) [.d (aO R),.d (.lst (ps.map Vp))]):dW [.d (aO R),.d (.lst (ps.map Vp))] k4:=by refine⟨R,ps,1800,rfl,h.ok,h.len,λp hp=>?_,xp,q⟩;obtain⟨i,hi,rfl⟩:=ZM hp;rw[<- bP hi];exact h.rb hi
theorem Sj{R:aF}{ps:List Rat}(h:d6 R ps){k l:Nat}(hk:k<ps.length)(hl:l<ps.length)(w:Bool×Bool):RB 4000 (V7 R ps k l w).am:=by
 show RB 4000 (V2 R ps k w.1 l w.2);rcases(h.ms hk hl w.1 w.2).2.2.2 with e|e
 . rw[e];exact(z8 h hk _).mono xp
 . rw[e];exact(z8 h hl _).mono xp
theorem Sl{R:aF}{ps:List Rat}(h:d6 R ps):∀p∈ps,RB 4000 p:=λp hp=>by obtain⟨i,hi,rfl⟩:=ZM hp;rw[<- bP hi];exact(h.rb hi).mono xp
theorem vR:aa6 2 4 jI lp:=by
 rintro ls k4 - ⟨R,ps,rfl,hS,h⟩;walk_at"lp";refine⟨xp,λa=>wX hS λb=>?_⟩;walk_at"w";refine AA hS ?_;walk_at"w";have h20:(Wb R ps).length<=20:=by refine YH (aaf _ _) ?_;rw[Y0,hS.len];exact hS.ok.few
 refine⟨λn Z=>∃(qs:List Rat)(done:List gn)(m:Nat)(x5:L),Z=[.d (aO R),.d (.lst (ps.map Vp)),.d (.lst (qs.map Vp)),.own a (done.map V0),.d (Ht (V9 (V8 R) (Wb R qs))),x5]/\d6 R qs/\(Wb R qs).length=n/\n<=m/\done.length+m=20/\done++vG R m qs=vG R 20 ps,
  ⟨_,ps,[],20,_,rfl,hS,rfl,h20,rfl,rfl⟩,?_⟩
 rintro n Z ⟨qs,done,m,x5,rfl,hQ,hn,hm,hd,hs⟩
 cases e:V9 (V8 R) (Wb R qs)with
 | none =>
  walk_at"Ht"
  have e0:vG R m qs=[]:=by
   cases m with
   |zero=>rfl
   |succ m=>unfold vG ya;rw[e];rfl
  rw[e0,aai]at hs;subst hs;exact⟨_,aj (aj aL),h a⟩
 | some p =>
  obtain⟨k,l⟩:=p;obtain⟨hk,hl,hkl,hc⟩:=sS (wO R qs) e;obtain⟨hk1,hk2⟩:=iY hk;obtain⟨hl1,hl2⟩:=iY hl;have hk':k<R.asks.length:=by rw[<- hQ.len];exact hk1
  have hl':l<R.asks.length:=by rw[<- hQ.len];exact hl1
  have hkl':k≠l:=by omega
  simp only[Ht];walk_at"w";walk_at"mI";refine⟨R,qs,k,l,hk',hl',rfl,hQ,?_⟩;have en:ya R qs=some (V7 R qs k l (bW R.n R.asks[k] R.asks[l])):=by unfold ya;rw[e];show some (V7 R qs k l (bW R.n (aM R k) (aM R l)))=_;rw[cG hk',cG hl']
  have ok2:=Mf hQ hk1 hl1 hkl' (bW R.n R.asks[k] R.asks[l]);have less:=DH hQ hk hl hkl' (bW R.n R.asks[k] R.asks[l]);have arb:=Sj hQ hk1 hl1 (bW R.n R.asks[k] R.asks[l]);generalize hs':V7 R qs k l (bW R.n R.asks[k] R.asks[l])=s at *;have sk:s.k=k:=by rw[<- hs'];rfl
  have sl:s.l=l:=by rw[<- hs'];rfl
  walk_at"w";refine⟨?_,qs,s,rfl,by rw[hQ.len];exact hQ.ok.few,by rw[sk];exact hk1,by rw[sl];exact hl1,by rw[sk,sl];exact hkl',Sl hQ,arb,λc=>?_⟩
  . exact YL (show done.length<=20 by omega) xp
  walk_at"w";refine wX ok2 λd=>?_;walk_at"w";refine AA ok2 ?_;walk_at"w"
  cases m with
  |zero=>omega
  | succ m =>
   refine⟨_,by rw[<- hn];exact less,V4 qs s,done++[s],m,_,by rw[Y9];rfl,ok2,rfl,xL,by simp;omega,?_⟩;rw[<- hs,Zo]
   congr 1
   show s::vG R m (V4 qs s)=vG R (m+1) qs
   conv=>rhs;unfold vG
   rw[en]
def iK:FS:=λls k4=>∃(a:VJ)(p:Rat),ls=[.d (j3 a),.d (Vp p)]/\k4 (.d (.str (eO (decide (p=a.size))))) ls
def jJ:W Fl:=(bI (Ee (a7 (ax rT (ao 1) (ax aJ (ao 0) (wC (.int 3))))) (wC (.str "on")) (wC (.str "back"))))
theorem u7:aa6 2 0 iK jJ:=by
 rintro ls k4 - ⟨a,p,rfl,h⟩;unfold jJ;have es:j3 a=.tup [.str a.nm,.int a.one,.int a.other,Vp a.size]:=rfl;rw[es]at h ⊢;walk_at"w";by_cases hp:p=a.size
 . rw[if_pos hp];rw[Zg hp]at h;exact⟨_,aj (aj aL),h⟩
 . rw[if_neg hp];rw[YZ hp]at h;exact⟨_,aj (aj aL),h⟩
def dQ:FS:=λls k4=>∃(R:aF)(ks:List Nat),ls=[.d (aO R),.d (.lst (ks.map λ(k:Nat)=>D.int (k:Int)))]/\R.Ok/\(∀k∈ks,k<R.asks.length)/\k4 (.d (Vp (fV R ks))) ls
def gi:W Fl:=(bq 2 (bj (aC qE (au (ao 2) (au (ax aJ (ax aJ (ax aJ (ao 0) (wC (.int 1))) (ao 3)) (wC (.int 3))) aG)))))
def eE:W Fl:=(aT (bq 2 (wC (.tup [(.int 0),(.int 1)])))
  (aT (mq (pY (ao 1)) (a9 3) gi)
  (bI (aC sU (au (ao 2) (au (wC (.tup [(.int 1),(.int 2)])) aG))))))
theorem Iz:RB 2 (1 / 2:Rat):=by
 have e:(1 / 2:Rat).num=1/\(1 / 2:Rat).den=2:=by decide +kernel
 unfold RB;rw[e.1,e.2];decide
theorem Lm:Vp (1 / 2:Rat)=.tup [.int 1,.int 2]:=by
 have e:(1 / 2:Rat).num=1/\(1 / 2:Rat).den=2:=by decide +kernel
 unfold Vp;rw[e.1,e.2];rfl
theorem Mt{R:aF}(hR:R.Ok):∀(ks:List Nat)(g:Rat),(∀k∈ks,k<R.asks.length)->RB 1540 g->RB 1540 (Wi R ks g)
 |[],g,_,h=>h
 | k::ks,g,hk,h=>by
  show RB 1540 (Wi R ks _);refine Mt hR ks _ (λx hx=>hk x (fI _ hx)) ?_;dsimp only;split
  . rw[nu (hk k k5)];exact hR.rb (YB _)
  . exact h
theorem OF{R:aF}(hR:R.Ok){ks:List Nat}(hk:∀k∈ks,k<R.asks.length):RB 1542 (fV R ks):=(Mt hR ks 0 hk (RB.zero.mono xp)).mul Iz
theorem mi:aa6 2 2 dQ eE:=by
 rintro ls k4 - ⟨R,ks,rfl,hR,hk,h⟩;walk_at"eE";refine fB _ (λj Z=>∃(g:Rat)(x:L),Z=[.d (aO R),.d (.lst (ks.map λ(k:Nat)=>D.int (k:Int))),.d (Vp g),x]/\RB 1540 g/\Wi R (ks.drop j) g=Wi R ks 0) _ ⟨0,_,rfl,RB.zero.mono xp,rfl⟩ ?_ ?_
 .
  rintro j x Z hj ⟨g,x3,rfl,hg,e⟩ Q h1 h2 h3 h4;rw[YS]at hj
  have hj':j<ks.length:=by
   rcases Nat.lt_or_ge j ks.length with q|q
   . exact q
   . rw[List.getElem?_eq_none q]at hj;exact absurd hj x_
  rw[gV hj']at hj;cases hj;have hk':=hk _ (YB hj');have rb:=hR.rb (YB hk');rw[Zw hj']at e;walk_at"gi";refine⟨_,bt hk',?_⟩;walk_at"w";refine⟨_,_,rfl,hg.mono xp,rb.mono xp,?_⟩;walk_at"w";refine h1 _ ⟨_,_,rfl,?_,?_⟩
  .
   split
   . exact rb
   . exact hg
  .
   rw[<- e]
   show _=Wi R _ (if g<R.sz ks[j]then R.sz ks[j]else g)
   rw[G7 hk']
 . rintro Z ⟨g,x,rfl,hg,e⟩;rw[YD,List.drop_length]at e;walk_at"w";refine⟨g,1 / 2,by rw[Lm],hg.mono xp,Iz.mono xp,?_⟩;walk_at"w";have e':g=Wi R ks 0:=e;rw[e'];exact⟨_,aj (aj aL),h⟩
def cB:FS:=λls k4=>∃(R:aF)(k:Nat)(hk:k<R.asks.length),ls=[.d (.int (k:Int)),.d (aO R)]/\k4 (.d (.int (Wg R.asks[k]))) []
def cS:W L:=(aC cP (au (ao 1) (au (ao 0) aG)))
theorem jK:∀a d k4,cB [.d a,.d d] k4->cS [.d a,.d d] (λr _=>k4 r []):=by rintro a d k4 ⟨R,k,hk,e,h⟩;cases e;walk_at"cS";exact⟨R,k,hk,rfl,h⟩
def eF:FS:=λls k4=>∃(R:aF)(ks:List Nat),ls=[.d (aO R),.d (.lst (ks.map λ(k:Nat)=>D.int (k:Int)))]/\ks.length<=20/\(∀k∈ks,k<R.asks.length) /\
 ∀(a:Addr)(os:List Nat),os.Perm ks->os.Pairwise (λi j=>Wh R i<=Wh R j)->k4 (.own a (os.map λ(k:Nat)=>D.int (k:Int))) ls
def fm:W Fl:=(bI (LX cB 0 (ao 1)))
theorem oe:aa6 2 0 eF fm:=by
 rintro ls k4 - ⟨R,ks,rfl,hl,hk,h⟩;walk_at"fm";refine⟨ks.map λ(k:Nat)=>(k:Int),λn=>(Wh R n.toNat:Int),by rw[Y3];rfl,by rw[YD];omega,λn hn=>?_,λa out op os=>?_⟩
 . obtain⟨k,hkm,rfl⟩:=YU.mp hn;have hk':=hk k hkm;refine⟨R,k,hk',rfl,?_⟩;show D.int _=D.int ((Wh R ((k:Int)).toNat:Nat):Int);rw[Zl];unfold Wh;rw[YC,gV hk'];rfl
 .
  obtain⟨ms,rfl⟩:∃ms:List Nat,out=ms.map λ(k:Nat)=>(k:Int):=by
   refine⟨out.map Int.toNat,?_⟩;rw[Y3]
   conv=>lhs;rw[<- List.map_id out]
   refine ZD λn hn=>?_;obtain⟨k,_,rfl⟩:=YU.mp (op.mem_iff.mp hn);simp
  have inj:∀{l1 l2:List Nat},(l1.map λ(k:Nat)=>(k:Int)).Perm (l2.map λ(k:Nat)=>(k:Int))->l1.Perm l2:=λ{l1 l2} p=>by have:=p.map Int.toNat;rw[Y3,Y3]at this;simpa[Function.comp_def]using this
  refine⟨_,aj (aj aL),?_⟩
  have:=h a ms (inj op) (by
   rw[List.pairwise_map]at os
   exact os.imp λ{i j} q=>by
    simp only[Zl]at q
    omega)
  rw[Y3];exact this
def eG:FS:=λls k4=>∃(R:aF)(k:Nat),ls=[.d (aO R),.d (.int (k:Int))]/\k<R.asks.length/\k4 (.d (.str (eO (vI R k)))) ls
def lq:W Fl:=(bI (Ee (a7 (ax wq (ax aJ (ax aJ (ax aJ (ao 0) (wC (.int 1))) (ao 1)) (wC (.int 1))) (ax aJ (ax aJ (ax aJ (ao 0) (wC (.int 1))) (ao 1)) (wC (.int 2))))) (wC (.str "on")) (wC (.str "back"))))
theorem vS:aa6 2 0 eG lq:=by
 rintro ls k4 - ⟨R,k,rfl,hk,h⟩;have e:vI R k=decide (R.asks[k].one<R.asks[k].other):=by unfold vI;rw[YC,gV hk];rfl
 rw[e]at h;walk_at"lq";refine⟨_,bt hk,?_⟩;walk_at"w";refine⟨_,bt hk,?_⟩;walk_at"w";by_cases c:R.asks[k].one<R.asks[k].other
 . rw[if_pos (by omega)];rw[Zg c]at h;exact⟨_,aj (aj aL),h⟩
 . rw[if_neg (by omega)];rw[YZ c]at h;exact⟨_,aj (aj aL),h⟩
def i7:FS:=λls k4=>∃(R:aF)(ps:List Rat)(k:Nat)(w:Bool),ls=[.d (aO R),.d (.lst (ps.map Vp)),.d (.int (k:Int)),.d (y1 w)]/\k<R.asks.length/\k<ps.length/\RB 1900 (R.sz k)/\RB 1900 (ps.getD k 0)/\k4 (.d (Vp (dM R ps k w))) ls
def u9:W Fl:=(aT (bq 4 (ax aJ (ax aJ (ax aJ (ao 0) (wC (.int 1))) (ao 2)) (wC (.int 3))))
  (aT (bq 5 (bj (Ee (a7 (ax rT (aC eG (au (ao 0) (au (ao 2) aG))) (wC (.str "on")))) (ax aJ (ao 1) (ao 2)) (aC fJ (au (ao 4) (au (ax aJ (ao 1) (ao 2)) aG))))))
  (bI (aC fJ (au (Ee (a7 (ax rT (ao 3) (aC eG (au (ao 0) (au (ao 2) aG))))) (ao 4) (wC (.tup [(.int 0),(.int 1)]))) (au (ao 5) aG))))))
theorem Q1(v w:Bool):Vf (y1 v) (.str (eO w))=decide (v=w):=by cases v<;>cases w<;>decide +kernel
theorem DW{p q:Rat}{b c:Bool}{e:Ev}{k4:L->List L->Prop}(hp:RB 1900 p)(hq:RB 3802 q)(h:k4 (.d (Vp ((if b=c then p else 0)-q))) e)(K:L->Prop)(hK:∀r,k4 r e->K r) :
  (if decide (b=c)=true then fJ [.d (Vp p),.d (Vp q)] λr _=>K r else fJ [.d (.tup [.int 0,.int 1]),.d (Vp q)] λr _=>K r):=by
 by_cases x:b=c
 . rw[if_pos x]at h;rw[if_pos (Zg x)];exact iZ (hp.mono xp) (hq.mono xp) (hK _ h)
 . rw[if_neg x]at h;rw[if_neg (by simp[x])];exact iZ (p:=0) (RB.zero.mono xp) (hq.mono xp) (hK _ h)
theorem OG{R:aF}{ps:List Rat}(h:d6 R ps){k:Nat}(hk:k<ps.length)(w:Bool):RB 5703 (dM R ps k w):=by
 have a:RB 1900 (if w=vI R k then R.sz k else 0):=by
  split
  . exact(h.sz_rb hk).mono xp
  . exact RB.zero.mono xp
 have b:RB 3802 (if vI R k=true then ps.getD k 0 else R.sz k-ps.getD k 0):=by
  split
  . exact(h.rb hk).mono xp
  . exact((h.sz_rb hk).sub (h.rb hk)).mono xp
 exact(a.sub b).mono xp
theorem Ln{R:aF}{ps:List Rat}{D:Nat}(hl:ps.length=R.asks.length)(d0:0<D)(da:∀a∈R.asks,a.size.den∣D)(dp:∀p∈ps,p.den∣D){k:Nat}(hk:k<ps.length)(w:Bool):(dM R ps k w).den∣D:=by
 have s:(R.sz k).den∣D:=by rw[nu xL];exact da _ (YB _)
 have p:(ps.getD k 0).den∣D:=by rw[bP hk];exact dp _ (YB _)
 unfold dM;refine qn d0 ?_ ?_
 .
  split
  . exact s
  . exact⟨D,(Nat.one_mul D).symm⟩
 .
  split
  . exact p
  . exact qn d0 s p
theorem Ck:aa6 4 2 i7 u9:=by
 rintro ls k4 - ⟨R,ps,k,w,rfl,hk,hp,b1,b2,h⟩;walk_at"u9";refine⟨_,bt hk,?_⟩;walk_at"w";refine⟨R,k,rfl,hk,?_⟩;walk_at"w";unfold dM at h;rw[<- G7 hk];by_cases c:vI R k=true
 . rw[if_pos c]at h ⊢;refine⟨_,bt hp,?_⟩;rw[<- qg hp];refine⟨R,k,rfl,hk,?_⟩;refine⟨kC _,kC _,?_⟩;rw[Q1];exact DW b1 (b2.mono xp) h _ λr hr=>⟨_,aj (aj (aj (aj aL))),hr⟩
 . rw[if_neg c]at h ⊢;refine⟨_,bt hp,?_⟩;rw[<- qg hp];refine iZ (b1.mono xp) (b2.mono xp) ?_;refine⟨R,k,rfl,hk,?_⟩;refine⟨kC _,kC _,?_⟩;rw[Q1];exact DW b1 ((b1.sub b2).mono xp) h _ λr hr=>⟨_,aj (aj (aj (aj aL))),hr⟩
def gX:FS:=λls k4=>∃(R:aF)(ps:List Rat),ls=[.d (aO R),.d (.lst (ps.map Vp))]/\d6 R ps /\
 ∀(a:Addr)(os:List Nat),os.Perm (ej R ps)->os.Pairwise (λi j=>Wh R i<=Wh R j)->k4 (.own a ((Wk R ps (fV R (ej R ps)) 0 (Wl R ps) os).map y1)) ls
def j7:W Fl:=(aT (tK 3 (ao 6) (aC eG (au (ao 0) (au (ao 6) aG))))
  (aT (U9 (a7 (aC d8 (au (ao 4) (au (bj (aC jB (au (ao 5) (au (bj (aC i7 (au (ao 0) (au (ao 1) (au (ao 6) (au (eR 3 (AY 3 (ao 6)) (ax aJ (ao 3) (ao 6))) aG)))))) aG)))) aG)))) (tK 3 (ao 6) (aC k7 (au (eR 3 (AY 3 (ao 6)) (ax aJ (ao 3) (ao 6))) aG))) cA)
  (bq 5 (bj (aC jB (au (ao 5) (au (bj (aC i7 (au (ao 0) (au (ao 1) (au (ao 6) (au (eR 3 (AY 3 (ao 6)) (ax aJ (ao 3) (ao 6))) aG)))))) aG)))))))
def j8:W L:=(aC iK (au (ao 0) (au (ao 1) aG)))
def iL:W Fl:=(aT (bq 2 (bj (aC dW (au (ao 0) (au (ao 1) aG)))))
  (aT (bq 3 (gm 2 [] (P8 (ax aJ (ao 0) (wC (.int 1))) (ao 1)) (dH [0,1]) iw j8))
  (aT (bq 4 (bj (aC dQ (au (ao 0) (au (ao 2) aG)))))
  (aT (bq 5 (wC (.tup [(.int 0),(.int 1)])))
  (aT (mq (pY (aC eF (au (ao 0) (au (ao 2) aG)))) (a9 6) j7)
  (bI (iq 3)))))))
theorem sq:aa6 2 5 gX iL:=by
 rintro ls k4 - ⟨R,ps,rfl,hS,h⟩;have hl:=hS.len;have few:=hS.ok.few;have prb:∀p∈ps,RB 1800 p:=λp hp=>by obtain⟨i,hi,rfl⟩:=ZM hp;rw[<- bP hi];exact hS.rb hi
 walk_at"iL";refine⟨R,ps,1800,rfl,hS.ok,hl,prb,xp,λa0=>?_⟩;walk_at"w";have e:Bl (R.asks.map j3) (ps.map Vp)=(R.asks.zip ps).map λx=>D.tup [j3 x.1,Vp x.2]:=by unfold Bl;rw[List.zip_map,Y3];rfl
 rw[e];refine⟨by rw[YD,Zh];exact YH (show min R.asks.length ps.length<=20 by omega) xp,?_⟩;refine oM (h:=λx=>y1 (decide (x.2=x.1.size))) _ _ _ _ (λx hx Q q=>?_) λl m a=>?_
 . walk_at"j8";exact⟨_,_,rfl,q⟩
 have hkp:∀k∈ej R ps,k<ps.length:=λk hk=>by unfold ej at hk;simpa using(Zv.mp hk).1
 have pl:(ej R ps).length<=20:=by unfold ej;refine YH (aaf _ _) ?_;rw[Y0];omega
 have hkr:∀k∈ej R ps,k<R.asks.length:=λk hk=>by have:=hkp k hk;omega
 refine⟨R,_,rfl,hS.ok,hkr,?_⟩;refine⟨R,_,rfl,pl,hkr,λb os op ow=>?_⟩;walk_at"w";have h:=h a os op ow;have hko:∀k∈os,k<R.asks.length:=λk m=>hkr k (op.mem_iff.mp m);have hol:os.length<=20:=by rw[op.length_eq];exact pl
 have hb:=OF hS.ok hkr;obtain⟨M,d0,d1,da,dp⟩:=hS.cd;have en:(R.asks.zip ps).map (λx=>y1 (decide (x.snd=x.fst.size)))=(Wl R ps).map y1:=by unfold Wl;rw[Y3];rfl
 rw[en];have nl:(Wl R ps).length=R.asks.length:=by unfold Wl;rw[YD,Zh];omega
 generalize fV R (ej R ps)=hf at hb h ⊢;refine fB _ (λj Z=>∃(t:Rat)(ws:List Bool)(x:L),Z=[.d (aO R),.d (.lst (ps.map Vp)),.d (.lst ((ej R ps).map λ(k:Nat)=>D.int (k:Int))),.own a (ws.map y1),.d (Vp hf),.d (Vp t),x]/\ws.length=R.asks.length/\RB (5704*j+1) t/\t.den∣M/\Wk R ps hf t ws (os.drop j)=Wk R ps hf 0 (Wl R ps) os) _ ⟨0,_,_,rfl,nl,RB.zero,⟨M,(Nat.one_mul M).symm⟩,rfl⟩ ?_ ?_
 .
  rintro j x Z hj ⟨t,ws,x6,rfl,wl,ht,td,e⟩ Q h1 h2 h3 h4;rw[YS]at hj
  have hj':j<os.length:=by
   rcases Nat.lt_or_ge j os.length with q|q
   . exact q
   . rw[List.getElem?_eq_none q]at hj;exact absurd hj x_
  rw[gV hj']at hj;cases hj;have hk':=hko _ (YB hj');rw[Zw hj']at e;generalize os[j]=k at hk' e ⊢;have hkp:k<ps.length:=by omega
  have gr:=λw=>OG hS hkp w;have gd:=λw=>Ln hl d0 da dp hkp w;have sr:=λw=>ht.add (gr w);have sd:=λw=>xY d0 td (gd w);have b6:5704*(j+1)+1<=114081:=by omega
  have tn:∀w,t.den*(dM R ps k w).den<2^9000:=λw =>
   so (aZ (YL (ZU d0 td) d1) (YL (ZU d0 (gd w)) d1)) (YF xp xp)
  have kl:k<ws.length:=by omega
  have ix:∀{n:Nat},k<n->UI n (k:Int)=some k:=λ{n} hn=>by unfold UI;rw[if_pos (by omega),if_pos (by omega),Zl]
  have st:∀(us:List Bool)(w:Bool),(us.map y1).set k (.str (eO w))=(us.set k w).map y1:=λus w=>by rw[List.map_set];rfl
  have at1:∀(us:List Bool)(w:Bool),k<us.length->UJ ((us.set k w).map y1) (k:Int)=some (y1 w):=λus w hu=>by rw[bt (by rw[aah];exact hu),List.getElem_set_self]
  have pls:∀(w:Bool)(k4:L->List L->Prop),k4 (.d (Vp (t+dM R ps k w))) [.d (Vp t),.d (Vp (dM R ps k w))]->jB [.d (Vp t),.d (Vp (dM R ps k w))] k4:=λw k4 q=>⟨t,_,rfl,ht.mono xL,(gr w).mono xp,tn w,q⟩;have gns:∀(w:Bool)(k4:L->List L->Prop),k4 (.d (Vp (dM R ps k w))) [.d (aO R),.d (.lst (ps.map Vp)),.d (.int (k:Int)),.d (y1 w)]->i7 [.d (aO R),.d (.lst (ps.map Vp)),.d (.int (k:Int)),.d (y1 w)] k4:=λw k4 q=>⟨R,ps,k,w,rfl,hk',hkp,(hS.sz_rb hkp).mono xp,(hS.rb hkp).mono xp,q⟩;have e:Wk R ps hf (t+dM R ps k (Wj R ps hf t k)) (ws.set k (Wj R ps hf t k)) (os.drop (j+1))=_:=e;walk_at"j7";refine⟨R,k,rfl,hk',?_⟩;dsimp only;refine⟨k,ix kl,?_⟩;rw[st];refine⟨_,at1 _ _ kl,gns _ _ (pls _ _ ⟨hf,_,rfl,hb.mono xp,(sr _).mono xL,?_⟩)⟩;dsimp only;by_cases c:hf<t+dM R ps k (vI R k)
  . have ew:Wj R ps hf t k=!vI R k:=if_pos c;rw[ew]at e;rw[if_pos (Zg c)];refine⟨_,at1 _ _ kl,_,rfl,?_⟩;dsimp only;refine⟨k,ix (by simpa using kl),?_⟩;rw[st];refine⟨_,at1 _ _ (by simpa using kl),gns _ _ (pls _ _ ?_)⟩;rw[aaC];exact h1 _ ⟨_,_,_,rfl,by rw[aah];exact wl,(sr _).mono xL,sd _,e⟩
  . have ew:Wj R ps hf t k=vI R k:=if_neg c;rw[ew]at e;rw[if_neg (by rw[YZ c];decide)];refine⟨_,at1 _ _ kl,gns _ _ (pls _ _ ?_)⟩;exact h1 _ ⟨_,_,_,rfl,by rw[aah];exact wl,(sr _).mono xL,sd _,e⟩
 . rintro Z ⟨t,ws,x,rfl,_,_,_,e⟩;rw[YD,List.drop_length]at e;have e:ws=_:=e;walk_at"w";rw[<- e]at h;exact⟨_,aj (aj aL),h⟩
def fL:FS:=λls k4=>∃(R:aF)(ps:List Rat),ls=[.d (aO R),.d (.lst (ps.map Vp))]/\d6 R ps /\
 ∀(a b:Addr)(os:List Nat),os.Perm (ej R (lX R 20 ps))->os.Pairwise (λi j=>Wh R i<=Wh R j) ->
  k4 (.bx none [.own a ((vG R 20 ps).map V0),.own b ((Wk R (lX R 20 ps) (fV R (ej R (lX R 20 ps))) 0 (Wl R (lX R 20 ps)) os).map y1)]) ls
def jL:W Fl:=(aT (bq 2 (aC jI (au (ao 0) (au (ao 1) aG))))
  (bI (NL 2 (pU 2 (au (aC gX (au (ao 0) (au (bj (J1 2 (aC qT (au (ao 0) (au (ao 1) (au (ao 2) aG)))))) aG))) aG)))))
theorem va:aa6 2 1 fL jL:=by
 rintro ls k4 - ⟨R,ps,rfl,hS,h⟩;obtain⟨M,d0,d1,da,dp⟩:=hS.cd;have hD:Wq R ps M:=⟨hS,d0,d1,da,dp⟩;obtain⟨r1,r2,r3⟩:=HS 20 0 ps hD;walk_at"jL";refine⟨R,ps,rfl,hS,λa=>?_⟩;walk_at"w";have len:((vG R 20 ps).map V0).length<=99:=by rw[YD];refine YH (Hv 20 ps hS) (YH (aaf _ _) ?_);rw[Y0,hS.len];exact YH hS.ok.few xp
 refine⟨R,ps,_,M,rfl,hS,len,λd hd s es=>?_,⟨d0,d1,da,dp⟩,r1,λb=>?_⟩
 . obtain⟨u,hu,rfl⟩:=YU.mp hd;rw[yb]at es;cases es;exact Mp 20 ps hD _ hu
 . rw[r2];refine⟨by walk_at"w",?_⟩;refine⟨R,lX R 20 ps,rfl,r3.ok,λc os op ow=>?_⟩;exact⟨xp,⟨_,_,rfl⟩,_,aj (aj aL),h a c os op ow⟩
noncomputable def OH(R:aF)(os:List Nat):D:=.tup [eZ (vJ R (b9 R (d5 R).1) os),Vp (AZ R (vJ R (b9 R (d5 R).1) os)),.tup [.lst ((vG R 20 (b9 R (d5 R).1)).map V0),eZ (vJ R (b9 R (d5 R).1) os)],.tup [Vp (d5 R).1,.lst ((b9 R (d5 R).1).map Vp),me (d5 R).2]]
def jM:FS:=λls k4=>∃(R:aF),ls=[.d (aO R)]/\SB R/\d6 R (b9 R (d5 R).1) /\
 ∀(os:List Nat),os.Perm (Wb R (lX R 20 (b9 R (d5 R).1)))->os.Pairwise (λi j=>Wh R i<=Wh R j)->k4 (.d (OH R os)) ls
def mJ:W Fl:=(bI (lR (au (ao 3) (au (bj (aC uY (au (ao 0) (au (ao 3) aG)))) (au (ao 2) (au (ao 1) aG))))))
def mK:W Fl:=(aT (bq 3 (bj (br tJ (au (ax aJ (ao 2) (wC (.int 1))) aG))))
  mJ)
def mL:W Fl:=(aT (bq 2 (bj (aC fL (au (ao 0) (au (ax aJ (ao 1) (wC (.int 1))) aG)))))
  mK)
def lr:W Fl:=(aT (bq 1 (bj (aC ib (au (ao 0) aG))))
  mL)
theorem vT:aa6 1 3 jM lr:=by rintro ls k4 - ⟨R,rfl,hT,hS,h⟩;have hR:=hS.ok;walk_at"lr";refine⟨R,rfl,hR,λc=>?_⟩;walk_at"w";walk_at"mL";refine⟨R,_,rfl,hS,λa b os op ow=>?_⟩;have hw:=ud hS os;have few:=hR.few;have h:=h os op ow;unfold OH at h;rw[show(Wk R (lX R 20 (b9 R (d5 R).1)) (fV R (ej R (lX R 20 (b9 R (d5 R).1)))) 0 (Wl R (lX R 20 (b9 R (d5 R).1))) os)=vJ R (b9 R (d5 R).1) os from rfl];generalize vJ R (b9 R (d5 R).1) os=ws at h hw ⊢;rw[show ws.map y1=ws.map (λw=>D.str (eO w))from rfl];walk_at"w";walk_at"mK";intro a2;unfold mJ;rw[show D.lst (ws.map λw=>D.str (eO w))=eZ ws from rfl];walk_at"w";refine⟨R,ws,rfl,hR,hT,hw,?_⟩;walk_at"w";exact⟨xp,_,aj aL,h⟩
def cW:FS:=λls k4=>∃(ns:List Int)(k:Int),ls=[.d (.lst (ns.map .int)),.d (.int k)]/\0<=k/\k<=100/\∀a xs,vC xs->k4 (.own a xs) ls
def lu:W Fl:=(aT (bq 2 (wC (.int 0)))
  (aT (U9 (a7 (ax wq (ao 1) (br dY (au (ao 0) aG)))) (bq 2 (ax aJ (ao 0) (ao 1))) cA)
  (bI (pX (au (ao 2) (au (ax fU (ax de (ax de (ax fU (ao 2) (wC (.int 2147483587))) (ax bf (ax bf (wC (.int 48271)) (ao 1)) (ao 1))) (wC (.int 13))) (wC (.int 2147483587))) (au (ax PJ (ao 2) (ax Eh (wC (.int 10)) (wC (.int 18)))) aG)))))))
theorem vU:aa6 2 1 cW lu:=by
 rintro ls k4 - ⟨ns,k,rfl,h0,h1,h⟩;unfold lu
 have Uo:∀(c:Int)(Z:Ev)(e:Z=[.d (.lst (ns.map .int)),.d (.int k),.d (.int c)]),∀a:Addr,aP [.d (.lst (ns.map .int)),.d (.int k)] k4 (.rt (.own a [.int c,.int ((c.fmod 2147483587+48271*k*k+13).fmod 2147483587),.bl (decide ((10:Int)^18<=c))])) Z:=λc Z e a=>by
  refine⟨_,aj (aj aL),h a _ ⟨_,_,_,rfl,?_,?_⟩⟩
  . rw[Y7 _ xp];exact aaQ _ xp
  . rw[Y7 _ xp];have:=aaK (c.fmod 2147483587+48271*k*k+13) (b:=2147483587) xp;omega
 have hb1:bB 48271:=bE xp;have hb2:bB k:=bE (YL (show k.natAbs<=100 by omega) xp);have hb3:bB (48271*k):=bE (YL (show(48271*k).natAbs<=4827100 by omega) xp);walk_at"w"
 try rw[YD]
 split
 .
  rename_i hk;have hk:k<(ns.length:Int):=by simpa using hk
  have hi:k.toNat<ns.length:=by omega
  refine⟨.int ns[k.toNat],LY h0 (by rw[YS,gV hi];rfl),?_⟩;exact⟨xp,hb1,hb2,hb3,hb2,xp,xp,xp,xp,xp,Uo _ _ rfl⟩
 . exact⟨xp,hb1,hb2,hb3,hb2,xp,xp,xp,xp,xp,Uo _ _ rfl⟩
def aQ:FS:=λls k4=>∃(a:Addr)(xs:List D)(m:Int),ls=[.own a xs,.d (.int m)]/\vC xs/\0<m/\m<=10^60/\∀(r:Int)(ys:List D),vC ys->0<=r->r<m->k4 (.d (.int r)) [.own a ys,.d (.int m)]
def jN:W Fl:=(aT (tK 0 (wC (.int 1)) (ax fU (ax de (ax bf (eR 0 (AY 0 (wC (.int 1))) (ax aJ (ao 0) (wC (.int 1)))) (wC (.int 39373))) (wC (.int 17))) (wC (.int 2147483647))))
  (bq 3 (bj (ax de (ax bf (ao 3) (wC (.int 2147483629))) (ax fU (ax bf (eR 0 (AY 0 (wC (.int 1))) (ax aJ (ao 0) (wC (.int 1)))) (eR 0 (AY 0 (wC (.int 1))) (ax aJ (ao 0) (wC (.int 1))))) (wC (.int 2147483629)))))))
def og:W Fl:=(aT (U9 (a7 (eR 0 (AY 0 (wC (.int 2))) (ax aJ (ao 0) (wC (.int 2))))) (aT (bq 2 (ax fU (eR 0 (AY 0 (wC (.int 0))) (ax aJ (ao 0) (wC (.int 0)))) (ao 1)))
  (aT (tK 0 (wC (.int 0)) (ax p5 (eR 0 (AY 0 (wC (.int 0))) (ax aJ (ao 0) (wC (.int 0)))) (ao 1)))
  (aT (tK 0 (wC (.int 2)) (ax PH (eR 0 (AY 0 (wC (.int 0))) (ax aJ (ao 0) (wC (.int 0)))) (wC (.int 0))))
  (bI (iq 2))))) cA)
  (aT (bq 3 (wC (.int 0)))
  (aT (mq (tG (ax de (wC (.int 1)) (ax bf (wC (.int 8)) (br Gc (au (ax PH (ao 1) (ax Eh (wC (.int 10)) (wC (.int 6)))) aG))))) (a9 4) jN)
  (bI (ax fU (ax p5 (ao 3) (wC (.int 64))) (ao 1))))))
theorem AB{a:Addr}{c:Int}{m x2:L}{k4:Fl->Ev->Prop}:∀(items:List D)(sd dr:Int)(j:Nat)(x4:L),j+items.length<=100->0<=sd->sd<2147483647->0<=dr->dr<2^(40*j) ->
  (∀sd' dr' x',0<=sd'->sd' < 2147483647->0<=dr'->k4 .nx [.own a [.int c,.int sd',.bl false],m,x2,.d (.int dr'),x']) ->
  ck (a9 4) jN items [.own a [.int c,.int sd,.bl false],m,x2,.d (.int dr),x4] k4
 |[],sd,dr,j,x4,_,h0,h1,h2,h3,h=>h sd dr x4 h0 h1 h2
 | y::items,sd,dr,j,x4,hl,h0,h1,h2,h3,h=>by
  unfold ck jN;walk_at"w";obtain⟨r0,r1⟩:=jm (sd*39373+17) (m:=2147483647) xp;generalize (sd*39373+17).fmod 2147483647=s' at r0 r1 ⊢;obtain⟨q0,q1⟩:=jm (s'*s') (m:=2147483629) xp;generalize (s'*s').fmod 2147483629=t' at q0 q1 ⊢;have hl':j+(items.length+1)<=100:=hl;have b1:bB sd:=Bu (n:=40) h0 xL xp;have b2:bB s':=Bu (n:=40) r0 xL xp;have b3:bB dr:=Bu (n:=40*j) h2 h3 xL;have b4:bB 39373:=bE xp;have b5:bB 2147483629:=bE xp;refine⟨b1,b4,xp,b3,b5,b2,b2,xp,?_⟩;refine AB items s' (dr*2147483629+t') (j+1) _ xL r0 r1 xL ?_ h;have e:(2:Int)^(40*(j+1))=2^(40*j)*1099511627776:=by rw[Nat.mul_succ,Int.pow_add];rfl
  omega
theorem yG:aa6 2 3 aQ og:=by
 rintro ls k4 - ⟨a,xs,m,rfl,⟨c,sd,t,rfl,h0,h1⟩,hm,hM,h⟩;unfold og;have hm0:m≠0:=by omega
 have hmz:=zM xL hM
 cases t with
 | true =>
  walk_at"w";obtain⟨r0,r1⟩:=jm c hm;exact⟨hm0,hm0,hmz,_,je k5 (aj aL),h _ _ ⟨_,_,_,rfl,h0,h1⟩ r0 r1⟩
 | false =>
  walk_at"w";refine⟨xp,xp,xp,bE xp,bE (by split<;>decide),⟨by split<;>decide,by split<;>decide⟩,?_⟩;refine AB (c:=c) _ sd 0 0 _ (by simp only[wo,YD,Y0];split<;>decide) h0 h1 xp xp λsd' dr' x' g0 g1 g2=>?_;walk_at"w";obtain⟨r0,r1⟩:=jm (dr'.fdiv 64) hm;exact⟨xp,xp,hm0,_,je k5 (aj aL),h _ _ ⟨_,_,_,rfl,g0,g1⟩ r0 r1⟩
def jO:FS:=λls k4=>∃(a:Addr)(xs:List D)(many:Nat),ls=[.own a xs,.d (.int many)]/\vC xs/\many<=26 /\
 ∀(zs:List Str)(c:Addr)(ys:List D),vC ys->zs.length=many->(∀z∈zs,Jm z)->zs.Nodup->k4 (.own c (zs.map .str)) [.own a ys,.d (.int many)]
def mM:W L:=(ax de (ax de (P7 (ao 1) none (some (ao 2))) (ax aJ (ao 3) (ax fU (ax de (ao 4) (ao 0)) (wC (.int 26))))) (P7 (ao 1) (some (ax de (ao 2) (wC (.int 1)))) none))
def mN:W Fl:=(bI (gm 1 [3,4,2,5] (tG (ao 1)) (a9 0) iw mM))
def mO:W Fl:=(aT (bq 5 (bj (cb aQ 0 0 (pU 0 (au (wC (.int 26)) aG)))))
  mN)
def mP:W L:=(ax aJ (ao 1) (cb aQ 0 2 (pU 2 (au (wC (.int 26)) aG))))
def mQ:W Fl:=(aT (bq 4 (bj (cb aQ 0 0 (pU 0 (au (bj (br dY (au (ao 3) aG))) aG)))))
  mO)
def mR:W Fl:=(aT (bq 3 (bj (Nl "" (gm 1 [2,0] (tG (ax de (wC (.int 1)) (cb aQ 0 0 (pU 0 (au (wC (.int 8)) aG))))) (a9 0) iw mP))))
  mQ)
def lx:W Fl:=(aT (bq 2 (wC (.str "abcdefghijklmnopqrstuvwxyz")))
  mR)
theorem vV:aa6 2 4 jO lx:=by
 rintro ls k4 - ⟨a,xs,many,rfl,hx,hm,h⟩;walk_at"lx";walk_at"mR";refine⟨a,xs,8,rfl,hx,xp,xp,λr ys hy r0 r1=>⟨ys,rfl,?_⟩⟩;walk_at"w";refine⟨⟨xL,xL⟩,?_⟩;rw[jk];refine⟨by rw[YD,Y0];exact YH (show(1+r).toNat<=8 by omega) xp,?_⟩;refine xC _ (λj Z acc=>∃(l:L)(ys:List D)(cs:List Nat),Z=[l,.d (.str xG),.own a ys]/\vC ys/\acc=cs.map (λc=>D.str ⟨#[c]⟩)/\cs.length=j/\∀c∈cs,tZ c) _ _ ⟨_,ys,[],rfl,hy,rfl,rfl,λc hc=>by simp at hc⟩ ?_ ?_
 .
  rintro j x Z acc hx ⟨l,ys,cs,rfl,hy,rfl,hl,hc⟩ Q hQ;unfold iw mP;walk_at"w";refine⟨a,ys,26,rfl,hy,xp,xp,λq ws hw q0 q1=>⟨ws,rfl,xp,_,wG q0 q1,?_⟩⟩;refine hQ _ _ ⟨_,ws,cs++[q.toNat+97],rfl,hw,x_,by simp[hl],λc hm=>?_⟩;rcases YY.mp hm with hm|hm
  . exact hc c hm
  . rw[Za.mp hm];unfold tZ;omega
 .
  rintro Z acc ⟨l,ys,cs,rfl,hy,rfl,hl,hc⟩;rw[YD,Y0]at hl;walk_at"w";intro aa;refine⟨cs.map λc=>⟨#[c]⟩,x_,by rw[Df,YD];show cs.length+cs.length*0<=_;omega,?_⟩
  have hb:Jm (Txt.join "" (cs.map λc=>(⟨#[c]⟩:Str))):=by
   refine⟨?_,?_,?_⟩
   . rw[qd];omega
   . rw[qd];omega
   . rw[qd];exact hc
  generalize Txt.join "" (cs.map λc=>(⟨#[c]⟩:Str))=base at hb ⊢;have hbl:=lV base;have hb1:=hb.lo;have hb2:=hb.hi;walk_at"mQ";refine⟨YH (show base.length<=8 by omega) xp,a,ys,base.length,rfl,hy,xL,xL,λp ws hw p0 p1=>⟨ws,rfl,?_⟩⟩;walk_at"mO";refine⟨a,ws,26,rfl,hw,xp,xp,λt vs hv t0 t1=>⟨vs,rfl,?_⟩⟩;walk_at"mN";refine⟨⟨xL,xL⟩,?_⟩;rw[jk];refine⟨by rw[YD,Y0];exact YH (show((many:Int)).toNat<=26 by omega) xp,?_⟩;refine fC (h:=λk=>D.str (nameAt base p.toNat t.toNat k)) _ _ _ (λk hk Q q=>?_) λl'=>?_
  .
   have hk:k<many:=by have:=YO.mp hk;omega
   walk_at"mM";refine⟨YH (show base.length<=8 by omega) xp,xp,xp,_,wG (i:=(t+(k:Int)).fmod 26) (jm _ xp).1 (jm _ xp).2,?_⟩;have e1:=Kv (x:=base) p0 xL;have e2:=Ez (x:=base) (i:=p+1) xL xL;have l1:(Txt.slice base none (some p)).length<=8:=by rw[lV,e1,Zz];omega
   have l2:(Txt.slice base (some (p+1)) none).length<=8:=by rw[lV,e2,Z5];omega
   have e3:((t+(k:Int)).fmod 26).toNat=(t.toNat+k) % 26:=by rw[Y7 _ xp];omega
   have e4:Txt.slice base none (some p)++(⟨#[((t+(k:Int)).fmod 26).toNat+97]⟩:Str)++Txt.slice base (some (p+1)) none=nameAt base p.toNat t.toNat k:=by
    apply NY;rw[oP,oP,e1,e2,e3];have:(p+1).toNat=p.toNat+1:=by omega
    simp[L2.nameAt,this]
   have one:∀c:Nat,(⟨#[c]⟩:Str).length=1:=λ_=>rfl;have lc:(Txt.slice base none (some p)++(⟨#[((t+(k:Int)).fmod 26).toNat+97]⟩:Str)).length<=9:=by rw[lV,oP,Y4,<- lV,<- lV,one];omega
   refine⟨YH (show _<=9 by rw[one];omega) xp,YH (show base.length<=8 by omega) xp,YH (Nat.add_le_add lc l2) xp,?_⟩;rw[e4];exact q
  .
   walk_at"w";intro c;refine⟨_,je (ys:=vs) x_ (aj aL),?_⟩;have e:List.map (λk=>D.str (nameAt base p.toNat t.toNat k)) (List.range ((many:Int)).toNat)=((List.range many).map λk=>nameAt base p.toNat t.toNat k).map D.str:=by rw[Y3,Zl];rfl
   rw[e];refine h _ c vs hv x_ (λz hz=>?_) (zW List.nodup_range λx hx y hy=>?_)
   . obtain⟨k,_,rfl⟩:=YU.mp hz;exact GU hb xL
   . exact EC xL (by have:=YO.mp hx;omega) (by have:=YO.mp hy;omega)
def cm:FS:=λls k4=>∃t b:Int,ls=[.d (.int t),.d (.int b)]/\b≠0/\b.natAbs<2^9000/\k4 (.d (Vp (Rat.divInt t b))) ls
def rH:W Fl:=(Ra 2 3 (ax fU (ao 3) (ao 2)) (ao 2))
def qU:W Fl:=(aT (bq 2 (bj (br Ei (au (ao 0) aG))))
  (aT (bq 3 (bj (br Ei (au (ao 1) aG))))
  (aT (tF (a7 (ax Jl (ao 2) (wC (.int 0)))) rH)
  (aT (U9 (a7 (ax wq (ao 1) (wC (.int 0)))) (bq 3 (ax iu (wC (.int 0)) (ao 3))) cA)
  (bI (lR (au (ax p5 (ao 0) (ao 3)) (au (ax p5 (ao 1) (ao 3)) aG))))))))
theorem AC:aa6 2 2 cm qU:=by
 rintro ls k4 - ⟨t,b,rfl,hb,hz,h⟩;walk_at"qU";have h1:=CZ (t:=t) hb;have h2:=YL (C0 (t:=t) hb) hz
 have Uo:∀{g:Int}{Z:Ev},g=dh t b->g≠0/\g.natAbs<2^9000/\g≠0/\g.natAbs<2^9000/\2<=sizeLine/\aP [.d (.int t),.d (.int b)] k4 (.rt (.d (.tup [.int (t.fdiv g),.int (b.fdiv g)]))) Z:=λ{g Z} e=>by
  have e1:g≠0:=by rw[e];exact h1
  have e2:g.natAbs<2^9000:=by rw[e];exact h2
  refine⟨e1,e2,e1,e2,xp,_,aj (aj aL),?_⟩;rw[Dc hb e];exact h
 refine⟨λn Z=>∃x y:Int,Z=[.d (.int t),.d (.int b),.d (.int x),.d (.int y)]/\0<=x/\0<=y/\Int.gcd x y=Int.gcd t b/\n=x.natAbs,⟨_,_,_,rfl,by split<;>omega,by split<;>omega,?_,rfl⟩,?_⟩
 .
  have e1:(if t<0 then -t else t)=(t.natAbs:Int):=by split<;>omega
  have e2:(if b<0 then -b else b)=(b.natAbs:Int):=by split<;>omega
  rw[e1,e2];simp[Int.gcd]
 .
  rintro n Z ⟨x,y,rfl,x0,y0,hg,rfl⟩;walk_at"rH";split
  .
   rename_i hx;have hx:x≠0:=by simpa using hx
   refine⟨hx,_,mv y hx,_,_,rfl,(jm y xL).1,x0,?_,rfl⟩;rw[Int.gcd_comm,CY,Int.gcd_comm];exact hg
  .
   rename_i hx;have hx:x=0:=by simpa using hx
   subst hx;have hy:y=(Int.gcd t b:Int):=by rw[<- hg,Int.gcd_zero_left];omega
   split
   . rename_i hlt;exact Uo (by simp[dh,hlt,hy])
   . rename_i hlt;exact Uo (by simp[dh,hlt,hy])
def dC:FS:=λls k4=>∃(a:Addr)(xs:List D)(least kind:Int),ls=[.own a xs,.d (.int least),.d (.int kind)]/\vC xs/\0<=least/\least<=1/\0<=kind/\kind<5 /\
 ∀(q:Rat)(ys:List D),vC ys->0<=q->(least=1->0<q)->RB 60 q->k4 (.d (Vp q)) [.own a ys,.d (.int least),.d (.int kind)]
def ly:W Fl:=(bI (aC cm (au (ao 4) (au (ao 3) aG))))
def lz:W Fl:=(aT (bq 4 (bj (ax de (ao 1) (cb aQ 0 0 (pU 0 (au (ax aJ (pX (au (wC (.int 3)) (au (wC (.int 10)) (au (wC (.int 10)) (au (wC (.int 40)) (au (ax Eh (wC (.int 10)) (wC (.int 12))) aG)))))) (ao 2)) aG))))))
  ly)
def jP:W Fl:=(aT (bq 3 (bj (ax de (wC (.int 1)) (cb aQ 0 0 (pU 0 (au (ax aJ (pX (au (wC (.int 1)) (au (wC (.int 1)) (au (wC (.int 4)) (au (wC (.int 12)) (au (wC (.int 12)) aG)))))) (ao 2)) aG))))))
  lz)
theorem ID{t b:Int}(h0:0<=t)(h1:t<2^59)(h2:0<b)(h3:b<2^59):0<=Rat.divInt t b/\(0<t->0<Rat.divInt t b)/\RB 60 (Rat.divInt t b):=by
 have e:=Rat.divInt_nonneg (a:=t) (b:=b) h0 xL;refine⟨e,λht=>?_,RB.of_divInt xL ?_ ?_⟩
 .
  refine Rat.lt_of_le_of_ne e λz=>?_;have:Rat.divInt 0 1=Rat.divInt t b:=by rw[<- z];rfl
  rw[Rat.divInt_eq_divInt_iff xp xL]at this;omega
 .
  have:(2:Int)^59=((2^59:Nat):Int):=by decide
  have:(2:Nat)^59<2^60:=by decide
  omega
 .
  have:(2:Int)^59=((2^59:Nat):Int):=by decide
  have:(2:Nat)^59<2^60:=by decide
  omega
theorem Sm{k:Int}(h0:0<=k)(h1:k<5):∃m:Int,UJ [D.int 1,.int 1,.int 4,.int 12,.int 12] k=some (.int m)/\1<=m/\m<=12:=by
 obtain rfl|rfl|rfl|rfl|rfl:k=0∨k=1∨k=2∨k=3∨k=4:=by omega
 all_goals exact⟨_,rfl,xp,xp⟩
theorem Sn{k:Int}(h0:0<=k)(h1:k<5):∃m:Int,UJ [D.int 3,.int 10,.int 10,.int 40,.int (10^12)] k=some (.int m)/\1<=m/\m<=10^12:=by
 obtain rfl|rfl|rfl|rfl|rfl:k=0∨k=1∨k=2∨k=3∨k=4:=by omega
 all_goals exact⟨_,rfl,xp,xp⟩
theorem vb:aa6 3 2 dC jP:=by rintro ls k4 - ⟨a,xs,least,kind,rfl,hx,l0,l1,k0,k1,h⟩;obtain⟨m1,e1,m10,m11⟩:=Sm k0 k1;obtain⟨m2,e2,m20,m21⟩:=Sn k0 k1;walk_at"jP";refine⟨xp,λ_=>⟨_,e1,a,xs,m1,rfl,hx,xL,xL,λr ys hy r0 r1=>⟨ys,rfl,?_⟩⟩⟩;walk_at"lz";refine⟨xp,xp,xp,xp,λ_=>⟨_,e2,a,ys,m2,rfl,hy,xL,xL,λs zs hz s0 s1=>⟨zs,rfl,?_⟩⟩⟩;walk_at"ly";obtain⟨a1,a2,a3⟩:=ID (t:=least+s) (b:=1+r) xL xL xL xL;exact⟨_,_,rfl,xL,zM xL xL,_,je x_ (aj (aj aL)),h _ zs hz a1 (λe=>a2 xL) a3⟩
def jQ:FS:=λls k4=>∃(a:Addr)(xs:List D)(n:Nat)(kind:Int),ls=[.own a xs,.d (.int n),.d (.int kind)]/\vC xs/\1<=n/\n<=1000/\0<=kind/\kind<5 /\
 ∀(qs:List Rat)(c:Addr)(ys:List D),vC ys->qs.length=n->(∀q∈qs,0<q/\RB 60 q)->k4 (.own c (qs.map Vp)) [.own a ys,.d (.int n),.d (.int kind)]
def mS:W Fl:=(aT (bq 6 (bj (cb dC 0 0 (pU 0 (au (wC (.int 1)) (au (ao 2) aG))))))
  (vA (JM 5 (ax aJ (pX (au (ao 4) (au (ao 6) aG))) (br Gc (au (ax rT (ao 3) (wC (.int 2))) aG))))))
def mT:W Fl:=(bI (iq 5))
def mU:W Fl:=(aT (tF (a7 (ax wq (eR 5 (M9 5) (br dY (au (ao 5) aG))) (ao 1))) mS)
  mT)
def iM:W Fl:=(aT (bq 5 (pX (au (ao 4) aG)))
  mU)
def mV:W Fl:=(aT (U9 (a7 (ax rT (ao 3) (wC (.int 0)))) (bq 4 (lR (au (wC (.int 1)) (au (wC (.int 1)) aG)))) cA)
  iM)
def mW:W Fl:=(aT (bq 4 (bj (cb dC 0 0 (pU 0 (au (wC (.int 1)) (au (ao 2) aG))))))
  mV)
def lA:W Fl:=(aT (bq 3 (bj (cb aQ 0 0 (pU 0 (au (wC (.int 3)) aG)))))
  mW)
theorem vW:aa6 3 4 jQ lA:=by
 rintro ls k4 - ⟨a,xs,n,kind,rfl,hx,n1,n2,k0,k1,h⟩;have one:Vp 1=.tup [.int 1,.int 1]:=rfl
 have rest:∀(alike:Int)(p:Rat)(ys:List D),vC ys->0<p->RB 60 p ->
   iM [.own a ys,.d (.int n),.d (.int kind),.d (.int alike),.d (Vp p),.un,.un] (aP [.own a xs,.d (.int n),.d (.int kind)] k4):=by
  intro alike p ys hy hp hb;walk_at"iM";refine⟨xp,λc=>?_⟩;walk_at"mU";refine⟨λm Z=>∃(qs:List Rat)(zs:List D)(l:L),Z=[.own a zs,.d (.int n),.d (.int kind),.d (.int alike),.d (Vp p),.own c (qs.map Vp),l]/\vC zs/\qs.length<=n/\m=n-qs.length/\∀q∈qs,0<q/\RB 60 q,⟨_,[p],ys,_,rfl,hy,n1,rfl,by intro q hq;rw[Za.mp hq];exact⟨hp,hb⟩⟩,?_⟩;rintro m Z ⟨qs,zs,l,rfl,hz,hl,rfl,hq⟩;walk_at"w"
  try rw[YD]
  split
  .
   rename_i hlt;walk_at"mS";refine⟨a,zs,1,kind,rfl,hz,xp,xp,k0,k1,λq ws hw q0 q1 qb=>⟨ws,rfl,?_⟩⟩;walk_at"w";have hs:qs.length<sizeLine:=by exact YL (show qs.length<=1000 by omega) xp
   have more:∀q':Rat,0<q'->RB 60 q'->∃m,m<n-qs.length/\∃(qs':List Rat)(zs:List D)(l:L),[L.own a ws,.d (.int n),.d (.int kind),.d (.int alike),.d (Vp p),.own c (qs.map Vp++[Vp q']),.d (Vp q)]=[.own a zs,.d (.int n),.d (.int kind),.d (.int alike),.d (Vp p),.own c (qs'.map Vp),l]/\vC zs/\qs'.length<=n/\m=n-qs'.length/\∀q∈qs',0<q/\RB 60 q:=by
    intro q' p0 pb;refine⟨n-(qs++[q']).length,by rw[Y4];simp only[List.length_singleton];omega,qs++[q'],ws,.d (Vp q),by rw[Y9];rfl,hw,by rw[Y4];simp only[List.length_singleton];omega,rfl,λz hz=>?_⟩;rcases YY.mp hz with hz|hz
    . exact hq z hz
    . rw[Za.mp hz];exact⟨p0,pb⟩
   refine⟨xp,λ_=>?_⟩;by_cases h2:alike=2
   . refine⟨Vp q,?_,hs,more q (q1 rfl) qb⟩;simp[h2,zL]
   . refine⟨Vp p,?_,hs,more p hp hb⟩;simp[h2,zK]
  .
   have e:qs.length=n:=by omega
   walk_at"mT";exact⟨_,je x_ (aj (aj aL)),h qs c zs hz e hq⟩
 walk_at"lA";refine⟨a,xs,3,rfl,hx,xp,xp,λr ys hy r0 r1=>⟨ys,rfl,?_⟩⟩;walk_at"mW";refine⟨a,ys,1,kind,rfl,hy,xp,xp,k0,k1,λq zs hz q0 q1 qb=>⟨zs,rfl,?_⟩⟩;walk_at"mV";split
 . exact⟨xp,rest r 1 zs hz xp ⟨xp,xp⟩⟩
 . exact rest r q zs hz (q1 rfl) qb
def lB:FS:=λls k4=>∃(a:Addr)(xs:List D)(shape k:Int)(n:Nat),ls=[.own a xs,.d (.int shape),.d (.int n),.d (.int k)]/\vC xs/\2<=n/\n<=1000/\0<=k/\k<=1000 /\
 ∀(i j:Nat)(ys:List D),vC ys->i<n->j<n->i≠j->k4 (.d (.tup [.int i,.int j])) [.own a ys,.d (.int shape),.d (.int n),.d (.int k)]
def pd:W Fl:=(bI (lR (au (ao 4) (au (ao 5) aG))))
def pf:W Fl:=(aT (U9 (a7 (ax rT (ao 1) (wC (.int 3)))) (bI (lR (au (wC (.int 0)) (au (bj (ax de (wC (.int 1)) (ax fU (ao 5) (ax iu (ao 2) (wC (.int 1)))))) aG)))) cA)
  pd)
def ph:W Fl:=(aT (U9 (a7 (ax rT (ao 1) (wC (.int 2)))) (bI (lR (au (bj (ax bf (ax fU (ao 3) (wC (.int 2))) (ax iu (ao 2) (wC (.int 1))))) (au (bj (ax bf (ax iu (wC (.int 1)) (ax fU (ao 3) (wC (.int 2)))) (ax iu (ao 2) (wC (.int 1))))) aG)))) cA)
  pf)
def pj:W Fl:=(aT (U9 (a7 (ax rT (ao 1) (wC (.int 1)))) (bI (lR (au (ax fU (ao 3) (ao 2)) (au (ax fU (ax de (ao 3) (ax p5 (ao 2) (wC (.int 2)))) (ao 2)) aG)))) cA)
  ph)
def pk:W Fl:=(aT (bq 5 (ax fU (ax de (ax de (ao 4) (wC (.int 1))) (cb aQ 0 0 (pU 0 (au (ax iu (ao 2) (wC (.int 1))) aG)))) (ao 2)))
  pj)
def oh:W Fl:=(aT (bq 4 (bj (cb aQ 0 0 (pU 0 (au (ao 2) aG)))))
  pk)
theorem yH:aa6 4 2 lB oh:=by
 rintro ls k4 - ⟨a,xs,shape,k,n,rfl,hx,n2,n3,k0,k1,h⟩;have Uo:∀(ys:List D)(i j:Int)(Z:Ev),vC ys->0<=i->i<n->0<=j->j<n->i≠j->.own a ys∈Z->aP [.own a xs,.d (.int shape),.d (.int n),.d (.int k)] k4 (.rt (.d (.tup [.int i,.int j]))) Z:=by intro ys i j Z hy i0 i1 j0 j1 hij hm;have:=h i.toNat j.toNat ys hy xL xL xL;rw[Int.toNat_of_nonneg i0,Int.toNat_of_nonneg j0]at this;exact⟨_,je hm (aj (aj (aj aL))),this⟩
 walk_at"oh";refine⟨a,xs,n,rfl,hx,xL,xL,λr ys hy r0 r1=>⟨ys,rfl,?_⟩⟩;walk_at"pk";refine⟨a,ys,n-1,rfl,hy,xL,xL,λs zs hz s0 s1=>⟨zs,rfl,?_⟩⟩;walk_at"w";refine⟨xL,?_⟩;have e1:=Y7 (r+1+s) (b:=n) xL;have e2:=Y7 k (b:=n) xL;have e3:=ZP (n:Int) (b:=2) xL;have e4:=Y7 (k+(n:Int) / 2) (b:=n) xL;have e5:=Y7 k (b:=2) xL;have e6:=Y7 ((r+1+s) % (n:Int)) (b:=(n:Int)-1) xL;rw[e1];have o0:=aaQ (r+1+s) (b:=n) xL;have o1:=aaK (r+1+s) (b:=n) xL
 have o2:(r+1+s) % (n:Int)≠r:=λz=>by
  by_cases q:r+1+s<n
  . rw[Int.emod_eq_of_lt xL q]at z;omega
  .
   have:(r+1+s) % (n:Int)=r+1+s-n:=by rw[<- Int.sub_emod_right,Int.emod_eq_of_lt xL xL]
   omega
 walk_at"pj";split
 .
  rw[e2,e3,e4];refine⟨xL,xp,xp,xL,xp,Uo zs _ _ _ hz (aaQ _ xL) (aaK _ xL) (aaQ _ xL) (aaK _ xL) (λz=>?_) x_⟩;have h1:(k+(n:Int) / 2-k) % n=0:=Int.emod_eq_emod_iff_emod_sub_eq_zero.mp z.symm;have e9:k+(n:Int) / 2-k=n / 2:=by omega
  rw[e9,Int.emod_eq_of_lt xL xL]at h1;omega
 .
  walk_at"ph";split
  .
   rw[e5];have m0:=Int.emod_two_eq k;refine⟨xp,bE xL,bE xL,xp,bE xL,bE xL,xp,?_⟩;rcases m0 with m0|m0
   . rw[m0];exact Uo zs _ _ _ hz xL xL xL xL xL x_
   . rw[m0];exact Uo zs _ _ _ hz xL xL xL xL xL x_
  .
   walk_at"pf";split
   . rw[e6];have p0:=aaQ ((r+1+s) % (n:Int)) (b:=(n:Int)-1) xL;have p1:=aaK ((r+1+s) % (n:Int)) (b:=(n:Int)-1) xL;exact⟨xL,xp,Uo zs _ _ _ hz xL xL xL xL xL x_⟩
   . walk_at"pd";exact⟨xp,Uo zs _ _ _ hz xL xL xL xL (Z4 o2) x_⟩
structure Drawn (most count:Nat) (R:aF):Prop where
 ok:R.Ok
 hi:R.n<=most
 few:R.asks.length<=count
 nms:(∀a∈R.asks,Jm a.nm)/\(R.asks.map (·.nm)).Nodup
 tt:∀a∈R.asks,RB 60 a.size
def lC:FS:=λls k4=>∃(ns:List Int)(at_ most count:Nat),ls=[.d (.lst (ns.map .int)),.d (.int at_),.d (.int most),.d (.int count)]/\at_<=90/\2<=most/\most<=12/\count<=20 /\
 ∀R:aF,Drawn most count R->k4 (.d (aO R)) ls
def jR:W Fl:=(aT (El [13,14] (cb lB 0 4 (pU 4 (au (ao 8) (au (ao 5) (au (ao 12) aG))))))
  (vA (JM 11 (lR (au (ax aJ (ao 9) (ao 12)) (au (ao 13) (au (ao 14) (au (bj (cb dC 0 4 (pU 4 (au (wC (.int 0)) (au (ax aJ (ao 7) (wC (.int 1))) aG))))) aG))))))))
def pq:W Fl:=(bI (lR (au (ao 10) (au (ao 11) aG))))
def pA:W Fl:=(aT (mq (tG (ao 6)) (a9 12) jR)
  pq)
def pB:W Fl:=(aT (bq 11 (pX aG))
  pA)
def pC:W Fl:=(aT (bq 4 (aC cW (au (ao 0) (au (bj (ax de (ao 1) (wC (.int 2)))) aG))))
  pB)
def pD:W Fl:=(aT (bq 10 (bj (aC jQ (au (aC cW (au (ao 0) (au (bj (ax de (ao 1) (wC (.int 1)))) aG))) (au (ao 5) (au (ax aJ (ao 7) (wC (.int 0))) aG))))))
  pC)
def pE:W Fl:=(aT (bq 9 (bj (cb jO 0 4 (pU 4 (au (ao 6) aG)))))
  pD)
def pF:W Fl:=(aT (bq 8 (bj (cb aQ 0 4 (pU 4 (au (wC (.int 6)) aG)))))
  pE)
def pG:W Fl:=(aT (bq 7 (bj (pX (au (bj (cb aQ 0 4 (pU 4 (au (wC (.int 5)) aG)))) (au (bj (cb aQ 0 4 (pU 4 (au (wC (.int 5)) aG)))) aG)))))
  pF)
def pH:W Fl:=(aT (bq 6 (bj (cb aQ 0 4 (pU 4 (au (bj (ax de (ao 3) (wC (.int 1)))) aG)))))
  pG)
def pJ:W Fl:=(aT (bq 5 (bj (ax de (wC (.int 2)) (cb aQ 0 4 (pU 4 (au (ax iu (ao 2) (wC (.int 1))) aG))))))
  pH)
def oj:W Fl:=(aT (bq 4 (aC cW (au (ao 0) (au (ao 1) aG))))
  pJ)
theorem IE{S a1 m3 c3 rms:D}{b c:Addr}{n shape kind:Nat}{zs:List Str}{k4:Fl->Ev->Prop}(hn:2<=n)(hn2:n<=12)(hk:kind<5)(k0:Nat)(hzl:zs.length<=20)(hz:∀z∈zs,Jm z)(xs:List D)(hx:vC xs)(x13 x14:L)
  (Uo:∀(as:List VJ)(ys:List D)(x12 x13 x14:L),(∀a∈as,gK n a/\RB 60 a.size)->as.map (·.nm)=zs->k4 .nx [.d S,.d a1,.d m3,.d c3,.own b ys,.d (.int n),.d (.int (zs.length:Int)),.d (.lst [.int k0,.int kind]),.d (.int shape),.d (.lst (zs.map .str)),.d rms,.own c (as.map j3),x12,x13,x14]) :
  ck (a9 12) jR ((List.range zs.length).map λ(i:Nat)=>D.int (i:Int)) [.d S,.d a1,.d m3,.d c3,.own b xs,.d (.int n),.d (.int (zs.length:Int)),.d (.lst [.int k0,.int kind]),.d (.int shape),.d (.lst (zs.map .str)),.d rms,.own c [],.un,x13,x14] k4:=by
 refine fB _ (λj Z=>∃(as:List VJ)(ys:List D)(x12 x13 x14:L),Z=[.d S,.d a1,.d m3,.d c3,.own b ys,.d (.int n),.d (.int (zs.length:Int)),.d (.lst [.int k0,.int kind]),.d (.int shape),.d (.lst (zs.map .str)),.d rms,.own c (as.map j3),x12,x13,x14]/\vC ys/\(∀a∈as,gK n a/\RB 60 a.size)/\as.map (·.nm)=zs.take j) _ ⟨[],xs,_,_,_,rfl,hx,λa ha=>by simp at ha,rfl⟩ ?_ ?_
 .
  rintro j x Z hj ⟨as,ys,x12,x13,x14,rfl,hy,ha,hn'⟩ Q h1 h2 h3 h4;have hj':j<zs.length:=by have:=(YA.mp hj).1;simpa using this
  have ex:x=.int (j:Int):=by rw[YS,ZE hj']at hj;exact(Y5 hj).symm
  subst ex;walk_at"jR";refine⟨b,ys,shape,j,n,rfl,hy,hn,xL,xL,xL,λi k ws hw i1 k1 hik=>⟨ws,rfl,?_⟩⟩;walk_at"w";refine⟨.str zs[j],bt hj',?_⟩;refine⟨b,ws,0,kind,rfl,hw,xp,xp,xL,xL,λq vs hv q0 _ qb=>⟨vs,rfl,?_⟩⟩;walk_at"w";have b0:as.length=j:=by have:=congrArg List.length hn';rw[YD,Zz]at this;omega
  refine⟨xp,by rw[b0];exact so hj' (YH hzl xp),h1 _ ⟨as++[⟨zs[j],i,k,q⟩],vs,_,_,_,by rw[Y9];rfl,hv,λa hm=>?_,?_⟩⟩
  .
   rcases YY.mp hm with hm|hm
   . exact ha a hm
   . rw[Za.mp hm];exact⟨⟨i1,k1,hik,q0,Kx qb,(hz _ (YB hj')).ok⟩,qb⟩
  . rw[Y9,hn',List.take_succ,gV hj'];rfl
 . rintro Z ⟨as,ys,x12,x13,x14,rfl,hy,ha,hn'⟩;rw[YD,Y0,Y8 (YN _)]at hn';exact Uo as ys x12 x13 x14 ha hn'
theorem yI:aa6 4 11 lC oj:=by
 rintro ls k4 - ⟨ns,at_,most,count,rfl,ha,m2,m12,c20,h⟩;walk_at"oj";refine⟨ns,at_,rfl,xL,xL,λb xs hx=>?_⟩;walk_at"pJ";refine⟨b,xs,(most:Int)-1,rfl,hx,xL,xL,λr ys hy r0 r1=>⟨ys,rfl,?_⟩⟩;walk_at"pH";refine⟨b,ys,(count:Int)+1,rfl,hy,xL,xL,λs zs hz s0 s1=>⟨zs,rfl,?_⟩⟩;walk_at"pG";refine⟨b,zs,5,rfl,hz,xp,xp,λk1 ws hw k10 k11=>⟨ws,rfl,?_⟩⟩;walk_at"w";refine⟨b,ws,5,rfl,hw,xp,xp,λk2 vs hv k20 k21=>⟨vs,rfl,?_⟩⟩;walk_at"w";refine⟨xp,λkk=>?_⟩;walk_at"pF";refine⟨b,vs,6,rfl,hv,xp,xp,λsh us hu sh0 sh1=>⟨us,rfl,?_⟩⟩;walk_at"pE";obtain⟨many,rfl⟩:=ZO s0;obtain⟨pl,epl⟩:∃pl:Nat,2+r=(pl:Int):=ZO xL;obtain⟨sh',rfl⟩:=ZO sh0;obtain⟨k1',rfl⟩:=ZO k10;obtain⟨k2',rfl⟩:=ZO k20;rw[epl];refine⟨b,us,many,rfl,hu,xL,λnms c ts ht hnl hnm hnd=>⟨ts,rfl,?_⟩⟩;walk_at"pD";refine⟨ns,at_+1,rfl,xL,xL,λb2 xs2 hx2=>?_⟩;refine⟨b2,xs2,pl,k1',rfl,hx2,xL,xL,xL,xL,λqs c2 ys2 hy2 hql hq=>?_⟩;walk_at"pC";refine⟨ns,at_+2,rfl,xL,xL,λb3 xs3 hx3=>?_⟩;walk_at"pB";refine⟨xp,λc3=>?_⟩;walk_at"pA";refine⟨⟨xL,xL⟩,?_⟩;rw[jk,Zl,<- hnl];refine IE (n:=pl) xL xL xL k1' xL hnm xs3 hx3 _ _ λas ys' x12 x13 x14 hao han=>?_;walk_at"w";walk_at"pq";refine⟨xp,_,aj (aj (aj (aj aL))),h ⟨qs,as⟩ ?_⟩;have hal:as.length=nms.length:=by rw[<- han,YD]
 refine⟨⟨?_,?_,?_,hq,?_,RN (λa ha=>(hao a ha).2) (by show as.length<=20;omega)⟩,?_,?_,⟨?_,?_⟩,λa ha=>(hao a ha).2⟩
 . show 2<=qs.length;omega
 . show qs.length<=12;omega
 . show as.length<=20;omega
 . show ∀a∈as,gK qs.length a;rw[hql];exact λa ha=>(hao a ha).1
 . show qs.length<=most;omega
 . show as.length<=count;omega
 . intro a ha;exact hnm _ (by rw[<- han];exact List.mem_map_of_mem ha)
 . show(as.map (·.nm)).Nodup;rw[han];exact hnd
noncomputable def vc(n:Nat)(a:VJ)(w:Bool):List Nat:=if w then VM n a.one a.other else VM n a.other a.one
def ig:FS:=λls k4=>∃(R:aF)(k:Nat)(w:Bool)(hk:k<R.asks.length),ls=[.d (aO R),.d (.int k),.d (.str (eO w))]/\R.Ok/\∀c,k4 (.own c ((vc R.n R.asks[k] w).map λ(t:Nat)=>D.int (t:Int))) ls
def jS:W Fl:=(aT (vA (JM 7 (ao 4)))
  (bq 4 (ax fU (ax de (ao 4) (wC (.int 1))) (br dY (au (ax aJ (ao 0) (wC (.int 0))) aG)))))
def om:W Fl:=(aT (El [3,4,5,6] (ax aJ (ax aJ (ao 0) (wC (.int 1))) (ao 1)))
  (aT (U9 (a7 (ax rT (ao 2) (wC (.str "back")))) (Ra 4 5 (ao 5) (ao 4)) cA)
  (aT (bq 7 (pX aG))
  (aT (tF (a7 (ax Jl (ao 4) (ao 5))) jS)
  (bI (iq 7))))))
theorem vX{f:Nat->Nat}{s m:Nat}(h:s<m):((List.range m).map f).take (s+1)=((List.range m).map f).take s++[f s]:=by rw[List.take_succ,YS,ZE h];rfl
theorem AD{R:aF}(hR:R.Ok){x1 x2 x3 x6:L}{i j:Nat}(hi:i<R.n)(hj:j<R.n)(c:Addr){k4:Fl->Ev->Prop}(Uo:k4 .nx [.d (aO R),x1,x2,x3,.d (.int j),.d (.int j),x6,.own c ((VM R.n i j).map λ(t:Nat)=>D.int (t:Int))]) :
  tF (a7 (ax Jl (ao 4) (ao 5))) jS [.d (aO R),x1,x2,x3,.d (.int i),.d (.int j),x6,.own c []] k4:=by
 have hhi:=hR.hi;have hlo:=hR.lo;refine⟨λm Z=>∃s,Z=[.d (aO R),x1,x2,x3,.d (.int (((i+s) % R.n:Nat):Int)),.d (.int j),x6,.own c (((VM R.n i j).take s).map λ(t:Nat)=>D.int (t:Int))]/\s<=VN R.n i j/\m=VN R.n i j-s,⟨_,0,by rw[Nat.add_zero,Nat.mod_eq_of_lt hi];rfl,aae _,rfl⟩,?_⟩;rintro m Z ⟨s,rfl,hs,rfl⟩;have hf:VN R.n i j<R.n:=aaL _ xL;have hfe:=my hi hj
 have hm:(i+s) % R.n=if i+s<R.n then i+s else i+s-R.n:=oR xL
 walk_at"w";by_cases hne:(i+s) % R.n=j
 .
  have hs':s=VN R.n i j:=by rw[hm]at hne;rw[hfe]at hs ⊢;split at hne<;>split at hs<;>split<;>omega
  rw[if_neg (λz=>z (by rw[hne]))];rw[Y8 (by rw[Dh];omega),hne];exact Uo
 .
  have hs':s<VN R.n i j:=by refine Nat.lt_of_le_of_ne hs λz=>hne ?_;rw[z,hfe]at hm;rw[z,hfe,hm];split<;>split<;>omega
  rw[if_pos (λz=>hne (Int.ofNat_inj.mp z))];walk_at"jS";refine⟨?_,xL,?_⟩
  . rw[Zz];exact YL (Nat.min_le_left _ _) (so (show s<12 by omega) xp)
  refine⟨VN R.n i j-(s+1),xL,s+1,?_,hs',rfl⟩;have e1:(VM R.n i j).take (s+1)=(VM R.n i j).take s++[(i+s) % R.n]:=vX hs';have e2:((((i+s) % R.n:Nat):Int)+1).fmod (R.n:Int)=(((i+(s+1)) % R.n:Nat):Int):=by have:=Dg (n:=R.n) (i:=(i+s) % R.n) (s:=1);rw[Nat.mod_add_mod,Nat.add_assoc]at this;exact this
  rw[e1,Y9];rw[e2];rfl
theorem yJ{n:Nat}{a:VJ}(h:gK n a)(w:Bool){t:Nat}(ht:t<n):t∈vc n a w↔(iS n a t == w)=true:=by
 cases w with
 |true=>exact kE h true ht
 | false =>
  have e:vc n a false=(vD n a.one a.other).reverse:=Qv h.one h.other h.ne;rw[e,List.mem_reverse];exact kE h false ht
theorem wY{n:Nat}{a:VJ}(h:gK n a)(w:Bool):(vc n a w).Nodup:=by
 cases w with
 |true=>exact Dn h.one
 |false=>exact Dn h.other
theorem IF{n:Nat}{a:VJ}(hn:0<n)(w:Bool){t:Nat}(h:t∈vc n a w):t<n:=by
 cases w with
 |true=>exact Qu hn h
 |false=>exact Qu hn h
theorem IG(n:Nat)(f:Nat->Rat)(h:∀t,f t=0):(List.replicate n [D.tup [.int 0,.int 1]]).flatten=VL n f:=by
 unfold VL;refine ZI x_ λj h1 h2=>?_
 have e:(List.replicate n [D.tup [.int 0,.int 1]]).flatten=List.replicate n (Vp 0):=by
  clear h1 h2
  induction n with
  |zero=>rfl
  |succ n ih=>rw[Zp,Zp,aao,ih];rfl
 simp only[e,List.getElem_replicate,Z8,h]
theorem yK:aa6 3 5 ig om:=by
 rintro ls k4 - ⟨R,k,w,hk,rfl,hR,h⟩;have ha:=hR.ask _ (YB hk);walk_at"om";refine⟨j3 R.asks[k],bt hk,?_⟩;walk_at"w"
 cases w with
 | true =>
  simp only[Bool.true_eq_false,aaa];refine⟨xp,λc=>?_⟩;refine AD hR ha.one ha.other c ?_;walk_at"w";exact⟨_,aj (aj (aj aL)),h c⟩
 | false =>
  simp only[aad];refine⟨xp,λc=>?_⟩;refine AD hR ha.other ha.one c ?_;walk_at"w";exact⟨_,aj (aj (aj aL)),h c⟩
def cT:FS:=λls k4=>∃p q:Rat,ls=[.d (Vp p),.d (Vp q)]/\RB 400000 p/\RB 400000 q/\p.den*q.den<2^9000/\k4 (.d (Vp (p+q))) ls
def oo:W Fl:=(bI (aC cm (au (bj (ax de (ax bf (ax aJ (ao 0) (wC (.int 0))) (ax aJ (ao 1) (wC (.int 1)))) (ax bf (ax aJ (ao 1) (wC (.int 0))) (ax aJ (ao 0) (wC (.int 1)))))) (au (bj (ax bf (ax aJ (ao 0) (wC (.int 1))) (ax aJ (ao 1) (wC (.int 1))))) aG))))
theorem yL:aa6 2 0 cT oo:=by rintro ls k4 - ⟨p,q,rfl,hp,hq,hz,h⟩;walk_at"oo";refine⟨hp.bn xp,hq.bd xp,hq.bn xp,hp.bd xp,hp.bd xp,hq.bd xp,_,_,rfl,qc p q,by rw[lU];exact hz,_,aj (aj aL),?_⟩;rw[zz];exact h
theorem pK{p q:Rat}{k4:L->List L->Prop}(hp:RB 4400 p)(hq:RB 4400 q)(h:k4 (.d (Vp (p+q))) [.d (Vp p),.d (Vp q)]):cT [.d (Vp p),.d (Vp q)] k4 :=
 ⟨p,q,rfl,hp.mono xp,hq.mono xp,so (aZ hp.2 hq.2) (YF xp xp),h⟩
def fu:FS:=λls k4=>∃(R:aF),ls=[.d (aO R)]/\R.Ok/\SB R/\R.asks.length<=5/\∀r,(r=.d (.lst ((dZ R.asks.length).map (A1 R)))∨∃a,r=.own a ((dZ R.asks.length).map (A1 R)))->k4 r ls
def eH:W Fl:=(tK 8 (ao 9) (aC cT (au (eR 8 (AY 8 (ao 9)) (ax aJ (ao 8) (ao 9))) (au (ax aJ (ao 3) (wC (.int 3))) aG))))
def eI:W Fl:=(aT (bq 8 (br tJ (au (ao 6) aG)))
  (aT (mq (pY (aC ig (au (ao 0) (au (ao 2) (au (ao 7) aG))))) (a9 9) eH)
  (vA (JM 4 (pX (au (bj (ax de (ao 5) (pX (au (ao 7) aG)))) (au (ao 8) aG)))))))
def eK:W Fl:=(mq (pY (pX (au (wC (.str "on")) (au (wC (.str "back")) aG)))) (a9 7) eI)
def eL:W Fl:=(aT (bq 4 (pX aG))
  (aT (mq (pY (ao 1)) (Br [5,6]) eK)
  (bq 1 (ao 4))))
def gh:W Fl:=(aT (bq 1 (pX (au (bj (pX (au (bj (pX aG)) (au (bj (Rc (pX (au (lR (au (wC (.int 0)) (au (wC (.int 1)) aG))) aG)) (br dY (au (ax aJ (ao 0) (wC (.int 0))) aG)))) aG)))) aG)))
  (aT (mq (rW (ax aJ (ao 0) (wC (.int 1)))) (dH [2,3]) eL)
  (bI (iq 1))))
theorem OI{x0 x1 x2 x4 x5 x6 x7:L}{a:VJ}{c:Addr}{n:Nat}{f:Nat->Rat}{k4:Fl->Ev->Prop}(T:List Nat)(hT:T.Nodup)(ht:∀t∈T,t<n)(hf:∀t,RB 4400 (f t))(hv:RB 4400 a.size)(x9:L)
  (Uo:∀x9,k4 .nx [x0,x1,x2,.d (j3 a),x4,x5,x6,x7,.own c (VL n λs=>if s∈T then f s+a.size else f s),x9]) :
  ck (a9 9) eH (T.map λ(t:Nat)=>D.int (t:Int)) [x0,x1,x2,.d (j3 a),x4,x5,x6,x7,.own c (VL n f),x9] k4:=by
 refine cF (enc:=λ(t:Nat)=>D.int (t:Int)) T (λpre Z=>∃x9,Z=[x0,x1,x2,.d (j3 a),x4,x5,x6,x7,.own c (VL n λs=>if s∈pre then f s+a.size else f s),x9]) _ ⟨_,by simp;rfl⟩ ?_ λZ ⟨x9,e⟩=>by rw[e];exact Uo x9
 rintro pre t suf Z hsp ⟨x9,rfl⟩ Q h1 h2 h3 h4;have htn:t<n:=ht t (by rw[hsp];simp);have hni:t∉pre:=by rw[hsp]at hT;intro hm;exact(Zj.mp hT).2.2 t hm t x_ rfl
 walk_at"eH";refine⟨_,zR htn,?_⟩;walk_at"w";rw[if_neg hni];refine pK (hf t) hv ?_;walk_at"w"
 have:=Mb (n:=n) (f:=λs=>if s∈pre then f s+a.size else f s) htn
 rw[xF]at this;refine⟨t,this,?_⟩;rw[GO];refine h1 _ ⟨.d (.int t),?_⟩
 have ef:(VL n λs=>if s=t then f t+a.size else if s∈pre then f s+a.size else f s)=VL n λs=>if s∈pre++[t]then f s+a.size else f s:=by
  refine oO λs hs=>?_;by_cases e:s=t
  . subst e;simp
  . simp[e]
 rw[ef]
theorem OJ{R:aF}(hR:R.Ok){k:Nat}(hk:k<R.asks.length){vs:List Bool}(hv:vs.length=k)(w:Bool) :
  (VL R.n λs=>if s∈vc R.n R.asks[k] w then aV R.n (R.asks.take k) (fS (R.asks.take k) vs) s+R.asks[k].size else aV R.n (R.asks.take k) (fS (R.asks.take k) vs) s)=VL R.n (aV R.n (R.asks.take (k+1)) (fS (R.asks.take (k+1)) (vs++[w]))):=by
 refine oO λt ht=>?_;rw[List.take_succ_eq_append_getElem hk,EK (by rw[Zz,hv];omega)];have m:=yJ (hR.ask _ (YB hk)) w ht;by_cases c:t∈vc R.n R.asks[k] w
 . rw[if_pos c,if_pos (m.mp c)]
 . rw[if_neg c,if_neg λh=>c (m.mpr h),Rat.add_zero]
theorem So{R:aF}(hT:SB R)(k:Nat)(vs:List Bool)(t:Nat):RB 4400 (aV R.n (R.asks.take k) (fS (R.asks.take k) vs) t):=by obtain⟨b,hb,hl,hT⟩:=hT;refine(kH hb (λa h=>hT a (List.mem_of_mem_take h)) (YH (aap _ ?_) hl) vs t).mono xp;rw[Zz];exact Nat.min_le_right _ _
theorem Mu{R:aF}(hR:R.Ok)(hT:SB R){k:Nat}(hk:k<R.asks.length){vs:List Bool}(hv:vs.length=k)(w:Bool){a4:Addr}{ys:List D}(hy:ys.length<=100){x1 x8 x9:L}{k4:Fl->Ev->Prop}
  (Uo:∀x8 x9,k4 .nx [.d (aO R),x1,.d (.int k),.d (j3 R.asks[k]),.own a4 (ys++[DS R (k+1) (vs++[w])]),.d (eZ vs),.d (.lst (VL R.n (aV R.n (R.asks.take k) (fS (R.asks.take k) vs)))),.d (.str (eO w)),x8,x9]) :
  eI [.d (aO R),x1,.d (.int k),.d (j3 R.asks[k]),.own a4 ys,.d (eZ vs),.d (.lst (VL R.n (aV R.n (R.asks.take k) (fS (R.asks.take k) vs)))),.d (.str (eO w)),x8,x9] k4:=by
 have hi:=hR.hi;have hlo:=hR.lo;have hfew:=hR.few;have es:(sizeLine:Nat)=16777216:=by decide
 have ha:=hR.ask _ (YB hk);walk_at"eI";refine λc=>⟨R,k,w,hk,rfl,hR,λc5=>?_⟩;walk_at"w";refine OI _ (wY ha w) (λt ht=>IF xL w ht) (So hT k vs) ((hR.rb (YB hk)).mono xp) _ λx9=>?_;rw[OJ hR hk hv];walk_at"eZ";refine⟨xp,λc6=>⟨by rw[hv];omega,λc7=>⟨xp,λc8=>⟨xL,?_⟩⟩⟩⟩;simp only[DS,eZ,Y9,YQ,aaW]at Uo;exact Uo _ _
theorem Q3(l:List (List Bool)):(l.flatMap λvs=>[vs++[true],vs++[false]]).length=2*l.length:=by
 induction l with
 |nil=>rfl
 |cons a l ih=>rw[List.flatMap_cons,Y4,ih];simp only[Zy,List.length_nil];omega
theorem pL:aa6 1 9 fu gh:=by
 rintro ls k4 - ⟨R,rfl,hR,hT,few,h⟩;have hi:=hR.hi;have hlo:=hR.lo;have es:(sizeLine:Nat)=16777216:=by decide
 walk_at"gh";refine⟨xp,λa0=>⟨xp,xp,λa1=>⟨⟨xL,xL⟩,by rw[Zl];omega,λa2=>⟨xp,λa3=>⟨xp,λa=>?_⟩⟩⟩⟩⟩;rw[Zl,IG R.n (aV R.n (R.asks.take 0) (fS (R.asks.take 0) [])) (λt=>rfl),Hw];refine qm _ (λk Z=>∃x1 x2 x3 x4 x5 x6 x7 x8 x9,Z=[.d (aO R),x1,x2,x3,x4,x5,x6,x7,x8,x9]/\(x1=.d (.lst ((dZ k).map (DS R k)))∨∃a,x1=.own a ((dZ k).map (DS R k)))) _ ⟨_,_,_,_,_,_,_,_,_,rfl,.inr ⟨a,rfl⟩⟩ ?_ ?_
 .
  rintro k Z hk ⟨x1,x2,x3,x4,x5,x6,x7,x8,x9,rfl,hx⟩ Q h1 h2 h3 h4;have e:aM R k=R.asks[k]:=by simp[aM,hk]
  rw[e];rw[kD]
  have rest:∀a4:Addr,ck (Br [5,6]) eK ((dZ k).map (DS R k)) [.d (aO R),.d (.lst ((dZ k).map (DS R k))),.d (.int k),.d (j3 R.asks[k]),.own a4 [],x5,x6,x7,x8,x9] λf Z2=>match f with
    |.nx=>OU Z2[4]? 4 Z2 λr Z1=>Q .nx (Z1.set 1 r)
    |f=>Q f Z2:=by
   intro a4;refine cF (enc:=DS R k) (dZ k) (λpre Z=>∃x5 x6 x7 x8 x9,Z=[.d (aO R),.d (.lst ((dZ k).map (DS R k))),.d (.int k),.d (j3 R.asks[k]),.own a4 ((pre.flatMap λvs=>[vs++[true],vs++[false]]).map (DS R (k+1))),x5,x6,x7,x8,x9]) _ ⟨_,_,_,_,_,rfl⟩ ?_ ?_
   .
    rintro pre vs suf Z hsp ⟨x5,x6,x7,x8,x9,rfl⟩ Q' g1 g2 g3 g4;have hv:=oU (show vs∈dZ k by rw[hsp];simp);have hy:((pre.flatMap λvs=>[vs++[true],vs++[false]]).map (DS R (k+1))).length<=64:=by rw[YD,Q3];have h5:=congrArg List.length hsp;rw[ju,Y4,Zy]at h5;have h6:2^k<=2^5:=YF xp xL;omega
    have er:DS R k vs=.lst [eZ vs,.lst (VL R.n (aV R.n (R.asks.take k) (fS (R.asks.take k) vs)))]:=rfl;rw[er];walk_at"eK";refine⟨xp,λa6=>?_⟩;walk_at"ck";refine Mu hR hT hk hv true xL λx8 x9=>?_;dsimp only;walk_at"ck";refine Mu hR hT hk hv false (by simp only[Y4,Zy,List.length_nil];omega) λx8 x9=>?_;dsimp only;unfold ck;refine g1 _ ⟨.d (eZ vs),.d (.lst (VL R.n (aV R.n (R.asks.take k) (fS (R.asks.take k) vs)))),.d (.str (eO false)),x8,x9,?_⟩;rw[List.flatMap_append,Y9,Zo];rfl
   . rintro Z ⟨x5,x6,x7,x8,x9,rfl⟩;walk_at"w";exact h1 _ ⟨_,_,_,_,_,_,_,_,_,rfl,.inl rfl⟩
  rcases hx with rfl|⟨b,rfl⟩
  . walk_at"eL";refine⟨xp,λa4=>?_⟩;exact rest a4
  . walk_at"eL";refine⟨xp,λa4=>?_⟩;exact rest a4
 .
  rintro Z ⟨x1,x2,x3,x4,x5,x6,x7,x8,x9,rfl,hx⟩;have e:(dZ R.asks.length).map (DS R R.asks.length)=(dZ R.asks.length).map (A1 R):=ZD λvs _=>Ow R vs;rw[e]at hx;rcases hx with rfl|⟨b,rfl⟩
  . walk_at"w";exact⟨_,aj aL,h _ (.inl rfl)⟩
  . walk_at"w";exact⟨_,aj aL,h _ (.inr ⟨_,rfl⟩)⟩
def bC:FS:=λls k4=>∃p q:Rat,ls=[.d (Vp p),.d (Vp q)]/\RB 400000 p/\RB 400000 q/\k4 (.d (.bl (decide (p<q)))) ls
def lD:W Fl:=(bI (ax wq (ax bf (ax aJ (ao 0) (wC (.int 0))) (ax aJ (ao 1) (wC (.int 1)))) (ax bf (ax aJ (ao 1) (wC (.int 0))) (ax aJ (ao 0) (wC (.int 1))))))
theorem vY:aa6 2 0 bC lD:=by rintro ls k4 - ⟨p,q,rfl,hp,hq,h⟩;walk_at"lD";refine⟨hp.bn xp,hq.bd xp,hq.bn xp,hp.bd xp,_,aj (aj aL),?_⟩;rw[Qq];exact h
def ou:FS:=λls k4=>∃(R:aF)(f:Nat->Rat),ls=[.d (aO R),.d (.lst (VL R.n f))]/\R.Ok/\(∀t,t<R.n->RB 2000 (f t))/\k4 (.d (Vp (Dy (λt=>f t / R.room t) (List.range R.n)))) ls
def rJ:W Fl:=(aT (bq 5 (bj (aC cm (au (bj (ax bf (ax aJ (ao 4) (wC (.int 0))) (ax aJ (ax aJ (ax aJ (ao 0) (wC (.int 0))) (ao 3)) (wC (.int 1))))) (au (bj (ax bf (ax aJ (ao 4) (wC (.int 1))) (ax aJ (ax aJ (ax aJ (ao 0) (wC (.int 0))) (ao 3)) (wC (.int 0))))) aG)))))
  (U9 (a7 (aC bC (au (ao 2) (au (ao 5) aG)))) (bq 2 (ao 5)) cA))
def qV:W Fl:=(aT (bq 2 (lR (au (wC (.int 0)) (au (wC (.int 1)) aG))))
  (aT (mq (rW (ao 1)) (dH [3,4]) rJ)
  (bI (iq 2))))
theorem Lo(n:Nat)(f:Nat->Rat):dA (VL n f)=(List.range n).map λ(t:Nat)=>D.tup [.int (t:Int),Vp (f t)]:=by refine ZI (by simp[dA,VL]) λi h1 h2=>?_;simp[dA,VL]
theorem OK{R:aF}{k:Nat}(h:k<R.n):UJ (R.rooms.map Vp) (k:Int)=some (Vp (R.room k)):=by rw[bt h,aF.room,YC,gV h];rfl
theorem AE:aa6 2 4 ou qV:=by
 rintro ls k4 - ⟨R,f,rfl,hR,hf,h⟩;have hi:=hR.hi;walk_at"qV";rw[Lo];refine⟨xp,?_⟩;refine cF (enc:=λ(t:Nat)=>D.tup [.int (t:Int),Vp (f t)]) (List.range R.n) (λpre Z=>∃x3 x4 x5,Z=[.d (aO R),.d (.lst (VL R.n f)),.d (Vp (Dy (λt=>f t / R.room t) pre)),x3,x4,x5]/\RB 2100 (Dy (λt=>f t / R.room t) pre)) _ ⟨_,_,_,rfl,RB.zero.mono xp⟩ ?_ ?_
 .
  rintro pre t suf Z hsp ⟨x3,x4,x5,rfl,hb⟩ Q h1 h2 h3 h4;have ht:t<R.n:=YO.mp (by rw[hsp];simp);have ft:=hf t ht;obtain⟨r0,rb⟩:=eY hR ht
  have em:Dy (λt=>f t / R.room t) (pre++[t])=if Dy (λt=>f t / R.room t) pre<f t / R.room t then f t / R.room t else Dy (λt=>f t / R.room t) pre:=by unfold Dy;rw[aay];rfl
  have sb:RB 2100 (f t / R.room t):=(ft.div rb (by grind)).mono xp;walk_at"rJ";refine⟨_,OK ht,?_⟩;walk_at"w";have b1:bB (f t).num:=bG ft.1 xp;have b2:bB ((f t).den:Int):=bG (n:=2000) (by rw[YI];exact ft.2) xp;have b3:bB (R.room t).num:=bG rb.1 xp;have b4:bB ((R.room t).den:Int):=bG (n:=60) (by rw[YI];exact rb.2) xp;have nz:R.room t≠0:=by grind
  have dn:((f t).den:Int)*(R.room t).num≠0:=ZN (iy _) (wB nz);have db:(((f t).den:Int)*(R.room t).num).natAbs<2^9000:=by rw[Zn,YI];exact so (aZ ft.2 rb.1) (YF xp xp)
  refine⟨b1,b4,_,OK ht,?_⟩;walk_at"w";refine⟨b2,b3,_,_,rfl,dn,db,?_⟩;rw[zN _ nz];walk_at"w";refine⟨_,_,rfl,hb.mono xp,sb.mono xp,?_⟩;walk_at"w";by_cases c1:Dy (λt=>f t / R.room t) pre<f t / R.room t
  . rw[if_pos c1]at em;rw[if_pos c1];exact h1 _ ⟨_,_,_,by rw[em],by rw[em];exact sb⟩
  . rw[if_neg c1]at em;rw[if_neg c1];exact h1 _ ⟨_,_,_,by rw[em],by rw[em];exact hb⟩
 . rintro Z ⟨x3,x4,x5,rfl,hb⟩;walk_at"w";exact⟨_,aj (aj aL),h⟩
def lE:FS:=λls k4=>∃(R:aF)(rows:List (List Bool)),ls=[.d (aO R),.d (.lst (rows.map (A1 R)))]/\R.Ok/\SB R/\rows≠[]/\(∀vs∈rows,vs.length=R.asks.length) /\
 ∀m:Rat,(∃vs∈rows,m=AZ R vs)->(∀vs∈rows,m<=AZ R vs)->k4 (.d (Vp m)) ls
def pM:W Fl:=(aT (bq 5 (bj (aC ou (au (ao 0) (au (ao 4) aG)))))
  (U9 (U6 (a7 (ax Em (ao 2) (wC .non))) (a7 (aC bC (au (ao 5) (au (ao 2) aG))))) (bq 2 (ao 5)) cA))
def oy:W Fl:=(aT (bq 2 (wC .non))
  (aT (mq (pY (ao 1)) (Br [3,4]) pM)
  (bI (iq 2))))
theorem Lp{R:aF}(hR:R.Ok){vs:List Bool}:Dy (λt=>aV R.n R.asks (fS R.asks vs) t / R.room t) (List.range R.n)=AZ R vs:=by
 have h:=KP hR (ps:=fS R.asks vs) λt ht=>by unfold bu;rw[aav];exact Rat.mul_nonneg (DB λa h=>(hR.ask a h).size) (ZS (Rat.inv_pos.mpr (eY hR ht).1))
 exact h
theorem IH{R:aF}(hT:SB R)(vs:List Bool)(t:Nat):RB 2000 (aV R.n R.asks (fS R.asks vs) t):=by obtain⟨b,hb,hl,hT⟩:=hT;exact(kH hb hT hl vs t).mono xp
theorem yM:aa6 2 4 lE oy:=by
 rintro ls k4 - ⟨R,rows,rfl,hR,hT,hne,hl,h⟩;walk_at"oy";refine cF (enc:=A1 R) rows (λpre Z=>∃x2 x3 x4 x5,Z=[.d (aO R),.d (.lst (rows.map (A1 R))),.d x2,x3,x4,x5]/\((pre=[]/\x2=.non)∨∃m:Rat,x2=Vp m/\(∃vs∈pre,m=AZ R vs)/\∀vs∈pre,m<=AZ R vs)) _ ⟨_,_,_,_,rfl,.inl ⟨rfl,rfl⟩⟩ ?_ ?_
 .
  rintro pre vs suf Z hsp ⟨x2,x3,x4,x5,rfl,hx⟩ Q h1 h2 h3 h4;have hv:vs.length=R.asks.length:=hl vs (by rw[hsp];simp);have tb:=(sQ hR hT vs).mono (show 1401<=4400 by decide);unfold A1 pM;walk_at"w";refine⟨R,_,rfl,hR,λt _=>IH hT vs t,?_⟩;rw[Lp hR];walk_at"w";rcases hx with⟨rfl,rfl⟩|⟨m,rfl,⟨us,u1,rfl⟩,hm⟩
  . walk_at"w";exact h1 _ ⟨_,_,_,_,rfl,.inr ⟨_,rfl,⟨vs,x_,rfl⟩,x_⟩⟩
  .
   have tu:=(sQ hR hT us).mono (show 1401<=4400 by decide);walk_at"w";refine⟨_,_,rfl,tb.mono xp,tu.mono xp,?_⟩;walk_at"w";by_cases c:AZ R vs<AZ R us
   .
    rw[if_pos c];refine h1 _ ⟨_,_,_,_,rfl,.inr ⟨_,rfl,⟨vs,x_,rfl⟩,λws hw=>?_⟩⟩;rcases YY.mp hw with hw|hw
    . exact Zx (ZS c) (hm ws hw)
    . rw[Za.mp hw];exact Zs
   .
    rw[if_neg c];refine h1 _ ⟨_,_,_,_,rfl,.inr ⟨_,rfl,⟨us,by simp[u1],rfl⟩,λws hw=>?_⟩⟩;rcases YY.mp hw with hw|hw
    . exact hm ws hw
    . rw[Za.mp hw];exact ZH.mp c
 .
  rintro Z ⟨x2,x3,x4,x5,rfl,hx⟩;rcases hx with⟨e,_⟩|⟨m,rfl,h1,h2⟩
  . exact absurd e hne
  walk_at"w";exact⟨_,aj (aj aL),h m h1 h2⟩
def jT:FS:=λls k4=>∃p q:Rat,ls=[.d (Vp p),.d (Vp q)]/\RB 4400 p/\RB 4400 q/\k4 (.d (Vp (p-q))) ls
def lF:W Fl:=(bI (aC cm (au (ax iu (ax bf (ax aJ (ao 0) (wC (.int 0))) (ax aJ (ao 1) (wC (.int 1)))) (ax bf (ax aJ (ao 1) (wC (.int 0))) (ax aJ (ao 0) (wC (.int 1))))) (au (bj (ax bf (ax aJ (ao 0) (wC (.int 1))) (ax aJ (ao 1) (wC (.int 1))))) aG))))
theorem vZ:aa6 2 0 jT lF:=by
 rintro ls k4 - ⟨p,q,rfl,hp,hq,h⟩;walk_at"lF";refine⟨hp.bn xp,hq.bd xp,hq.bn xp,hp.bd xp,hp.bd xp,hq.bd xp,_,_,rfl,qc p q,?_,_,aj (aj aL),?_⟩
 . rw[lU];exact so (aZ hp.2 hq.2) (YF xp xp)
 . rw[LR];exact h
def jU:FS:=λls k4=>∃(R:aF)(ps:List Rat),ls=[.d (aO R),.d (.lst (ps.map Vp))]/\d6 R ps/\∀a,k4 (.own a (VL R.n (aV R.n R.asks ps))) ls
def iN:W Fl:=(tK 2 (ao 7) (aC cT (au (eR 2 (AY 2 (ao 7)) (ax aJ (ao 2) (ao 7))) (au (ao 6) aG))))
def iO:W Fl:=(mq (pY (aC ig (au (ao 0) (au (ao 3) (au (ao 5) aG))))) (a9 7) iN)
def mX:W Fl:=(mq (pY (pX (au (lR (au (wC (.str "on")) (au (ao 4) aG))) (au (lR (au (wC (.str "back")) (au (bj (aC jT (au (ax aJ (ax aJ (ax aJ (ao 0) (wC (.int 1))) (ao 3)) (wC (.int 3))) (au (ao 4) aG)))) aG))) aG)))) (dH [5,6]) iO)
def lG:W Fl:=(aT (bq 2 (Rc (pX (au (lR (au (wC (.int 0)) (au (wC (.int 1)) aG))) aG)) (br dY (au (ax aJ (ao 0) (wC (.int 0))) aG))))
  (aT (mq (rW (ao 1)) (dH [3,4]) mX)
  (bI (iq 2))))
theorem OL{r:aF}{P:D}{c:Addr}{n k:Nat}{x4 x5:L}{f:Nat->Rat}{v:Rat}{k4:Fl->Ev->Prop}(T:List Nat)(hT:T.Nodup)(ht:∀t∈T,t<n)(hf:∀t,t<n->RB 4400 (f t))(hv:RB 4400 v)(x7:L)
  (Uo:∀x7,k4 .nx [.d (aO r),.d P,.own c (VL n λs=>if s∈T then f s+v else f s),.d (.int k),x4,x5,.d (Vp v),x7]) :
  ck (a9 7) iN (T.map λ(t:Nat)=>D.int (t:Int)) [.d (aO r),.d P,.own c (VL n f),.d (.int k),x4,x5,.d (Vp v),x7] k4:=by
 refine cF (enc:=λ(t:Nat)=>D.int (t:Int)) T (λpre Z=>∃x7,Z=[.d (aO r),.d P,.own c (VL n λs=>if s∈pre then f s+v else f s),.d (.int k),x4,x5,.d (Vp v),x7]) _ ⟨_,by simp;rfl⟩ ?_ λZ ⟨x7,e⟩=>by rw[e];exact Uo x7
 rintro pre t suf Z hsp ⟨x7,rfl⟩ Q h1 h2 h3 h4;have htn:t<n:=ht t (by rw[hsp];simp);have hni:t∉pre:=by rw[hsp]at hT;intro hm;exact(Zj.mp hT).2.2 t hm t x_ rfl
 walk_at"iN";refine⟨_,zR htn,?_⟩;walk_at"w";rw[if_neg hni];refine pK (hf t htn) hv ?_;walk_at"w"
 have:=Mb (n:=n) (f:=λs=>if s∈pre then f s+v else f s) htn
 rw[xF]at this;refine⟨t,this,?_⟩;rw[GO];refine h1 _ ⟨.d (.int t),?_⟩
 congr 4
 refine oO λs hs=>?_;by_cases e:s=t
 . subst e;simp
 . simp[e]
theorem v5:aa6 2 6 jU lG:=by
 rintro ls k4 - ⟨R,ps,rfl,hS,h⟩;have hR:=hS.ok;have hl:=hS.len;have hfew:=hR.few;have hlo:=hR.lo;have hhi:=hR.hi;walk_at"lG";have es:(sizeLine:Nat)=16777216:=by decide
 refine⟨xp,xp,λa0=>⟨⟨xL,xL⟩,by rw[Zl];omega,λa=>?_⟩⟩;rw[Zl,IG R.n (aV R.n (R.asks.take 0) (ps.take 0)) (λt=>rfl),Dr];refine qm _ (λk Z=>∃x3 x4 x5 x6 x7,Z=[.d (aO R),.d (.lst (ps.map Vp)),.own a (VL R.n (aV R.n (R.asks.take k) (ps.take k))),x3,x4,x5,x6,x7]) _ ⟨_,_,_,_,_,rfl⟩ ?_ ?_
 .
  rintro k Z hk ⟨x3,x4,x5,x6,x7,rfl⟩ Q h1 h2 h3 h4;have hk2:k<R.asks.length:=by omega
  have ha:=hR.ask _ (YB hk2);have hpb:RB 1800 ps[k]:=by rw[<- bP hk];exact hS.rb hk
  have hab:RB 1800 R.asks[k].size:=by rw[<- nu hk2];exact hS.sz_rb hk
  have hf:∀t,RB 1900 (aV R.n (R.asks.take k) (ps.take k) t):=λt=>(QF hS).1 k t;unfold mX;rw[qg hk];walk_at"w";refine⟨xp,_,bt hk2,?_⟩;walk_at"w";refine⟨_,_,rfl,hab.mono xp,hpb.mono xL,?_⟩;walk_at"w";refine⟨xp,xp,λa4=>?_⟩
  have step:∀(w:Bool)(v:Rat)(f:Nat->Rat)(x5 x6 x7:L)(post':Fl->Ev->Prop),(∀t,t<R.n->RB 4400 (f t))->RB 4400 v->(∀x7,post' .nx [.d (aO R),.d (.lst (ps.map Vp)),.own a (VL R.n λs=>if s∈vc R.n R.asks[k] w then f s+v else f s),.d (.int k),.d (Vp ps[k]),.d (.str (eO w)),.d (Vp v),x7]) ->
    iO [.d (aO R),.d (.lst (ps.map Vp)),.own a (VL R.n f),.d (.int k),.d (Vp ps[k]),.d (.str (eO w)),.d (Vp v),x7] post':=by
   intro w v f x5 x6 x7 post' hf' hv Uo;walk_at"iO";refine⟨R,k,w,hk2,rfl,hR,λc5=>?_⟩;walk_at"w";exact OL _ (wY ha w) (λt ht=>IF xL w ht) hf' hv _ Uo
  have unf:∀(x y:D)(x5 x6:L)(Z':List L)(post':Fl->Ev->Prop),True:=λ_ _ _ _ _ _=>trivial;unfold ck;rw[kD];walk_at"w";refine step true ps[k] _ .un .un x7 _ (λt _=>(hf t).mono xL) (hpb.mono xL) λx7=>?_;dsimp only;unfold ck;rw[kD];walk_at"w";refine step false (R.asks[k].size-ps[k]) _ .un .un x7 _ (λt _=>?_) ((hab.sub hpb).mono xL) λx7=>?_
  .
   split
   . exact((hf t).add hpb).mono xL
   . exact(hf t).mono xL
  dsimp only;unfold ck
  have ef:(VL R.n λs=>if s∈vc R.n R.asks[k] false then(if s∈vc R.n R.asks[k] true then aV R.n (R.asks.take k) (ps.take k) s+ps[k]else aV R.n (R.asks.take k) (ps.take k) s)+(R.asks[k].size-ps[k])else if s∈vc R.n R.asks[k] true then aV R.n (R.asks.take k) (ps.take k) s+ps[k]else aV R.n (R.asks.take k) (ps.take k) s)=VL R.n (aV R.n (R.asks.take (k+1)) (ps.take (k+1))):=by
   refine oO λt ht=>?_;rw[ED hk2 hk];have m1:=yJ ha true ht;have m2:=yJ ha false ht;unfold kd;cases e:iS R.n R.asks[k] t
   . rw[e]at m1 m2;rw[if_pos (by rw[m2];rfl),if_neg (by rw[m1];decide)];rfl
   . rw[e]at m1 m2;rw[if_neg (by rw[m2];decide),if_pos (by rw[m1];rfl)];rfl
  rw[ef];exact h1 _ ⟨_,_,_,_,_,rfl⟩
 . rintro Z ⟨x3,x4,x5,x6,x7,rfl⟩;walk_at"w";rw[Y8 xL,Y8 xL];exact⟨_,aj (aj aL),h a⟩
def gY:FS:=λls k4=>∃(R:aF)(ps:List Rat)(m:Rat),ls=[.d (aO R),.d (.lst ((dZ R.asks.length).map (A1 R))),.d (.lst (ps.map Vp)),.d (Vp m)]/\d6 R ps/\SB R/\R.asks.length<=5/\(∀a∈R.asks,a.size<=m)/\0<=m/\RB 400 m/\k4 (.d (.bl true)) ls
def j9:W Fl:=(U9 (a7 (aC bC (au (bj (aC cT (au (ax aJ (ao 6) (ao 8)) (au (bj (aC cm (au (bj (ax bf (wC (.int 3)) (ax aJ (ao 3) (wC (.int 0))))) (au (bj (ax bf (wC (.int 2)) (ax aJ (ao 3) (wC (.int 1))))) aG)))) aG)))) (au (ao 9) aG)))) (bI (wC (.bl false))) cA)
def ka:W L:=(ao 1)
def iP:W Fl:=(aT (El [4,5] (aC fL (au (ao 0) (au (ao 2) aG))))
  (aT (bq 6 (bj (aC jU (au (ao 0) (au (ao 2) aG)))))
  (aT (bq 7 (gm 2 [5] (pY (ao 1)) (Br [0,1]) (a7 (ax rT (ao 0) (ao 2))) ka))
  (aT (U9 (a7 (ax Jl (br dY (au (ao 7) aG)) (wC (.int 1)))) (bI (wC (.bl false))) cA)
  (aT (mq (rW (ax aJ (ao 7) (wC (.int 0)))) (dH [8,9]) j9)
  (bI (wC (.bl true))))))))
theorem II{l:List (List Bool)}{v:List Bool}(hn:l.Nodup)(h:v∈l):l.filter (·=v)=[v]:=by rw[List.filter_eq,List.Nodup.count hn,if_pos h];rfl
theorem Lq{m:Rat}:Rat.divInt (3*m.num) (2*(m.den:Int))=3 / 2*m:=by
 rw[<- ZV];have h1:Rat.divInt 3 2=3 / 2:=by decide +kernel
 have h2:Rat.divInt m.num (m.den:Int)=m:=Zk m;rw[h1,h2]
theorem Sq{R:aF}{ps:List Rat}(hS:d6 R ps){os:List Nat}(op:os.Perm (Wb R (lX R 20 ps)))(ow:os.Pairwise λi j=>Wh R i<=Wh R j){m:Rat}(m0:0<=m)(hm:∀a∈R.asks,a.size<=m){t:Nat}(ht:t<R.n) :
  aV R.n R.asks (fS R.asks (vJ R ps os)) t<=aV R.n R.asks ps t+3 / 2*m:=by
 obtain⟨M,d0,d1,da,dp⟩:=hS.cd;have h:=DQ ⟨hS,d0,d1,da,dp⟩ op ow ht;have:=Aa m0 (HV hS hm);grind
theorem su:aa6 4 6 gY iP:=by
 rintro ls k4 - ⟨R,ps,m,rfl,hS,hT,few,hm,m0,mb,h⟩;have hR:=hS.ok;have hi:=hR.hi;walk_at"iP";refine⟨R,ps,rfl,hS,λa b os op ow=>?_⟩;rw[show(Wk R (lX R 20 ps) (fV R (ej R (lX R 20 ps))) 0 (Wl R (lX R 20 ps)) os)=vJ R ps os from rfl];have hw:=ud hS os;have rl:=λt ht=>Sq (t:=t) hS op ow m0 hm ht;generalize vJ R ps os=v at hw rl ⊢;walk_at"w";refine⟨R,ps,rfl,hS,λc=>?_⟩;walk_at"w";have hc:(dZ R.asks.length).length<=32:=by rw[ju];exact YF (n:=2) xp few
 refine⟨YH hc xp,?_⟩;have hv:v∈dZ R.asks.length:=kJ hw;refine xC _ (λj Z acc=>∃l m,Z=[l,m,.d (.lst (v.map y1))]/\acc=(((dZ R.asks.length).take j).filter (·=v)).map λus=>D.lst (VL R.n (aV R.n R.asks (fS R.asks us)))) _ _ ⟨_,_,rfl,rfl⟩ ?_ ?_
 .
  rintro j x Z acc hj ⟨l,l2,rfl,rfl⟩ Q hQ;rw[YS]at hj;obtain⟨us,hu,rfl⟩:=aaB.mp hj;rw[show D.lst (v.map y1)=eZ v from rfl]at hQ ⊢;walk_at"A1";refine⟨lW _,lW _,?_⟩;have et:(dZ R.asks.length).take (j+1)=(dZ R.asks.length).take j++[us]:=by rw[List.take_add_one,hu];rfl
  rw[DC];by_cases c:us=v
  . rw[if_pos (Zg c)];walk_at"ka";refine hQ _ _ ⟨_,_,rfl,?_⟩;rw[et,List.filter_append,Y9,show[us].filter (λx=>decide (x=v))=[us] by simp[c]];rfl
  . rw[if_neg λh=>c (aaw h)];refine hQ _ _ ⟨_,_,rfl,?_⟩;rw[et,List.filter_append,show[us].filter (λx=>decide (x=v))=[] by simp[c],aai]
 .
  rintro Z acc ⟨l,l2,rfl,rfl⟩;rw[Y8 (by rw[YD];exact YN _),II (nv _) hv];walk_at"w";intro a2;rw[if_neg (by decide),G6];refine qm R.n (λj Z=>∃x8 x9,Z=[.d (aO R),.d (.lst ((dZ R.asks.length).map (A1 R))),.d (.lst (ps.map Vp)),.d (Vp m),.d (.lst ((vG R 20 ps).map V0)),.d (.lst (v.map y1)),.d (.lst (VL R.n (aV R.n R.asks ps))),.d (.lst [.lst (VL R.n (aV R.n R.asks (fS R.asks v)))]),x8,x9]) _ ⟨_,_,rfl⟩ ?_ ?_
  .
   rintro t Z ht ⟨x8,x9,rfl⟩ Q h1 h2 h3 h4;have f1:RB 1900 (aV R.n R.asks ps t):=(QF hS).2 t;have f2:RB 4400 (aV R.n R.asks (fS R.asks v) t):=by obtain⟨b,hb,hl,hT⟩:=hT;exact(kH hb hT hl v t).mono xp
   have b1:bB m.num:=bG mb.1 xp;have b2:bB (m.den:Int):=bG (n:=400) (by rw[YI];exact mb.2) xp;have b3:bB (3:Int):=bG (n:=2) xp xp;have b4:bB (2:Int):=bG (n:=2) xp xp;have d9:(2*(m.den:Int)).natAbs<2^9000:=by rw[Zn,YI];exact so (aZ (show(2:Int).natAbs<2^2 by decide) mb.2) (YF xp xp)
   have hb:RB 410 (3 / 2*m):=(RB.mul (p:=3 / 2) (m:=5) ⟨y_,y_⟩ mb).mono xp;walk_at"j9";refine⟨_,zR ht,b3,b1,b4,b2,_,_,rfl,ZN xp (iy _),d9,?_⟩;rw[Lq];walk_at"w";refine pK (f1.mono xp) (hb.mono xp) ?_;walk_at"w";refine⟨_,_,rfl,((f1.add hb).mono xp),f2.mono xp,?_⟩;walk_at"w";rw[if_neg (ZH.mpr (rl t ht))];exact h1 _ ⟨_,_,rfl⟩
  . rintro Z ⟨x8,x9,rfl⟩;walk_at"w";exact⟨_,aj (aj (aj (aj aL))),h⟩
structure IJ (R:aF) (ps:List Rat):Prop extends xK R ps 70 where
 tw:Tw R ps
def jV:FS:=λls k4=>∃(a:Addr)(xs:List D)(R:aF),ls=[.own a xs,.d (aO R)]/\vC xs/\R.Ok/\(∀a∈R.asks,RB 60 a.size)/\∀(ps:List Rat)(c:Addr)(ys:List D),vC ys->IJ R ps->k4 (.own c (ps.map Vp)) [.own a ys,.d (aO R)]
def mY:W Fl:=(aT (bq 7 (bj (cb aQ 0 0 (pU 0 (au (wC (.int 4)) aG)))))
  (aT (bq 8 (bj (cb aQ 0 0 (pU 0 (au (wC (.int 13)) aG)))))
  (vA (JM 2 (ax aJ (pX (au (lR (au (wC (.int 0)) (au (wC (.int 1)) aG))) (au (ao 6) (au (bj (aC cm (au (bj (ax bf (ax aJ (ao 6) (wC (.int 0))) (ao 8))) (au (bj (ax bf (ax aJ (ao 6) (wC (.int 1))) (wC (.int 12)))) aG)))) aG)))) (br Bi (au (ao 7) (au (wC (.int 2)) aG))))))))
def lH:W Fl:=(aT (bq 2 (pX aG))
  (aT (mq (pY (ax aJ (ao 1) (wC (.int 1)))) (dH [3,4,5,6]) mY)
  (bI (iq 2))))
def Yn(z p:Rat):Prop:=∃v:Int,0<=v/\v<=12/\p=z*Rat.divInt v 12
theorem Sr{R:aF}{ps:List Rat}(hl:ps.length=R.asks.length)(h:∀x∈R.asks.zip ps,Yn x.1.size x.2):Tw R ps:=λk hk=>by
 have h1:k<ps.length:=by omega
 have:=h (R.asks[k],ps[k]) (by
  rw[aaR]
  exact⟨k,by rw[Zh];omega,by rw[ZJ]⟩)
 rw[qg h1,G7 hk];exact this
theorem IK{s:Rat}{v:Int}(h0:0<=s)(hb:RB 60 s)(v0:0<=v)(v1:v<13):(0<=Rat.divInt (s.num*v) ((s.den:Int)*12)/\Rat.divInt (s.num*v) ((s.den:Int)*12)<=s)/\RB 70 (Rat.divInt (s.num*v) ((s.den:Int)*12)):=by
 have e:Rat.divInt (s.num*v) ((s.den:Int)*12)=s*Rat.divInt v 12:=by rw[<- ZV,Zk]
 have f0:0<=Rat.divInt v 12:=Rat.divInt_nonneg v0 xp
 have f1:0<=1-Rat.divInt v 12:=by
  have e1:1-Rat.divInt v 12=Rat.divInt (12-v) 12:=by have:(1:Rat)=Rat.divInt 12 12:=rfl;rw[this,Rat.divInt_sub_divInt _ _ xp xp,Rat.divInt_eq_divInt_iff xp xp];omega
  rw[e1];exact Rat.divInt_nonneg xL xp
 have m0:=Rat.mul_nonneg h0 f0;have m1:=Rat.mul_nonneg h0 f1;have hd:=den_pos s;refine⟨⟨by rw[e];exact m0,by rw[e];grind⟩,RB.of_divInt (ZN xL xp) ?_ ?_⟩
 . rw[Zn];exact so (aZ (n:=10) hb.1 (show v.natAbs<2^10 by omega)) (YN _)
 . rw[Zn];exact so (aZ (m:=60) (n:=10) (by rw[YI];exact hb.2) (show(12:Int).natAbs<2^10 by decide)) (YN _)
theorem v7:aa6 2 7 jV lH:=by
 rintro ls k4 - ⟨a,xs,R,rfl,hx,hR,hT,h⟩;have hfew:=hR.few;walk_at"lH";refine⟨xp,λc=>?_⟩;refine cF (enc:=j3) R.asks (λpre Z=>∃(ps:List Rat)(ys:List D)(x3 x4 x5 x6 x7 x8:L),Z=[.own a ys,.d (aO R),.own c (ps.map Vp),x3,x4,x5,x6,x7,x8]/\vC ys/\ps.length=pre.length/\(∀x∈pre.zip ps,0<=x.2/\x.2<=x.1.size)/\(∀p∈ps,RB 70 p)/\∀x∈pre.zip ps,Yn x.1.size x.2) _ ⟨[],xs,_,_,_,_,_,_,rfl,hx,rfl,(λx hx=>by simp at hx),(λx hx=>by simp at hx),λx hx=>by simp at hx⟩ ?_ ?_
 .
  rintro pre A suf Z hsp ⟨ps,ys,x3,x4,x5,x6,x7,x8,rfl,hy,hl,hlo,hb,hw1⟩ Q h1 h2 h3 h4;have hA:gK R.n A:=hR.ask A (by rw[hsp];simp);have hAb:RB 60 A.size:=hT A (by rw[hsp];simp);have b0:pre.length<20:=by have:=congrArg List.length hsp;rw[Y4,Zy]at this;omega
  walk_at"mY";refine⟨a,ys,4,rfl,hy,xp,xp,λr zs hz r0 r1=>⟨zs,rfl,?_⟩⟩;walk_at"w";refine⟨a,zs,13,rfl,hz,xp,xp,λv ws hw v0 v1=>⟨ws,rfl,?_⟩⟩;walk_at"w";obtain⟨p1,p2⟩:=IK hA.size hAb v0 v1;have hd:=den_pos A.size
  have Uo:∀p:Rat,(0<=p/\p<=A.size)->RB 70 p->Yn A.size p->Q .nx [.own a ws,.d (aO R),.own c (ps.map Vp++[Vp p]),.d (.str A.nm),.d (.int A.one),.d (.int A.other),.d (Vp A.size),.d (.int r),.d (.int v)]:=by
   intro p hp hpb hpw;refine h1 _ ⟨ps++[p],ws,_,_,_,_,_,_,by rw[Y9];rfl,hw,by rw[Y4,Y4,hl];rfl,λx hx=>?_,λq hq=>?_,λx hx=>?_⟩
   .
    rw[ZA xL]at hx;rcases YY.mp hx with hx|hx
    . exact hlo x hx
    .
     have:x=(A,p):=by simpa using hx
     subst this;exact hp
   .
    rcases YY.mp hq with hq|hq
    . exact hb q hq
    . rw[Za.mp hq];exact hpb
   .
    rw[ZA xL]at hx;rcases YY.mp hx with hx|hx
    . exact hw1 x hx
    .
     have:x=(A,p):=by simpa using hx
     subst this;exact hpw
  have hsz:ps.length<sizeLine:=so (show ps.length<20 by omega) xp;refine⟨xp,hAb.bn xp,bE xL,hAb.bd xp,bE xp,A.size.num*v,(A.size.den:Int)*12,rfl,ZN xL xp,?_,?_⟩
  . rw[Zn];exact so (aZ (m:=60) (n:=10) (by rw[YI];exact hAb.2) (show(12:Int).natAbs<2^10 by decide)) (YF xp xp)
  .
   walk_at"w";refine⟨xp,λ_=>?_⟩;have hr:r=0∨r=1∨r=2∨r=3:=by omega
   rcases hr with rfl|rfl|rfl|rfl
   . exact⟨Vp 0,zK,hsz,Uo 0 ⟨xp,hA.size⟩ (RB.zero.mono xp) ⟨0,xp,xp,by rw[show Rat.divInt 0 12=0 from rfl,Rat.mul_zero]⟩⟩
   . exact⟨Vp A.size,zL,hsz,Uo A.size ⟨hA.size,Zs⟩ (hAb.mono xp) ⟨12,xp,xp,by rw[show Rat.divInt 12 12=1 from rfl,Rat.mul_one]⟩⟩
   . exact⟨_,Kc,hsz,Uo _ p1 p2 ⟨v,v0,xL,by rw[<- ZV,Zk]⟩⟩
   . exact⟨_,Kc,hsz,Uo _ p1 p2 ⟨v,v0,xL,by rw[<- ZV,Zk]⟩⟩
 . rintro Z ⟨ps,ys,x3,x4,x5,x6,x7,x8,rfl,hy,hl,hlo,hb,hw1⟩;walk_at"w";exact⟨_,je (ys:=ys) x_ (aj aL),h ps c ys hy ⟨⟨hl,hlo,hb⟩,Sr hl hw1⟩⟩
def fs_law:FS:=λls k4=>∃ns:List Int,ls=[.d (.lst (ns.map .int))]/\ns.length<=63/\k4 (.d (.bl true)) ls
theorem IL{ns:List Int}(hl:ns.length<=63):fs_law [.d (.lst (ns.map .int))] (λr _=>r=.d (.bl true)):=⟨ns,rfl,hl,rfl⟩
def IM:W Fl:=(aT (bq 17 (aC cW (au (ao 0) (au (ao 16) aG))))
  (aT (bq 18 (bj (br xw (au (bj (pX (au (bj (cb aQ 0 17 (pU 17 (au (bj (br dY (au (ax aJ (ao 1) (wC (.int 0))) aG))) aG)))) (au (bj (cb aQ 0 17 (pU 17 (au (bj (br dY (au (ax aJ (ao 1) (wC (.int 0))) aG))) aG)))) aG)))) aG))))
  (aT (U9 (a7 (aC bC (au (ao 3) (au (bj (aC jC (au (ao 1) (au (lR (au (ax aJ (ao 18) (wC (.int 0))) (au (ax aJ (ao 18) (wC (.int 1))) aG))) aG)))) aG)))) (bI (wC (.bl false))) cA)
  (U9 (Ed (a7 (aC gY (au (ao 1) (au (ao 2) (au (bj (cb jV 0 17 (pU 17 (au (ao 1) aG)))) (au (ao 9) aG))))))) (bI (wC (.bl false))) cA))))
def DX:W Fl:=(bI (wC (.bl true)))
def DY:W Fl:=(aT (mq (F6 (wC (.int 3)) (br Gb (au (wC (.int 4)) (au (bj (br Bi (au (bj (br dY (au (ao 0) aG))) (au (wC (.int 40)) aG)))) aG)))) (a9 16) IM)
  DX)
def DZ:W Fl:=(aT (U9 (a7 (aC bC (au (ao 15) (au (ao 6) aG)))) (bI (wC (.bl false))) cA)
  DY)
def Cm:W Fl:=(U9 (a7 (aC bC (au (ao 12) (au (ao 14) aG)))) (bq 14 (ao 12)) cA)
def IP:W Fl:=(aT (bq 15 (bj (aC cT (au (ao 4) (au (bj (aC cm (au (bj (ax bf (ax bf (wC (.int 3)) (ax aJ (ao 9) (wC (.int 0)))) (ax aJ (ao 14) (wC (.int 1))))) (au (bj (ax bf (ax bf (wC (.int 2)) (ax aJ (ao 9) (wC (.int 1)))) (ax aJ (ao 14) (wC (.int 0))))) aG)))) aG)))))
  DZ)
def IQ:W Fl:=(aT (mq (pY (ax aJ (ao 1) (wC (.int 0)))) (a9 12) Cm)
  IP)
def IR:W L:=(ax aJ (ao 0) (wC (.int 0)))
def IS:W Fl:=(aT (bq 14 (ax aJ (ax aJ (ao 1) (wC (.int 0))) (wC (.int 0))))
  IQ)
def Cn:W Fl:=(U9 (a7 (aC bC (au (ao 9) (au (ao 13) aG)))) (bq 9 (ao 13)) cA)
def IT:W Fl:=(aT (U9 (U6 (a7 (aC bC (au (ao 3) (au (ao 4) aG)))) (U6 (a7 (aC bC (au (ao 6) (au (ao 3) aG)))) (a7 (ax Jl (pX (au (ao 5) aG)) (gm 1 [5] (pY (ao 2)) (a9 0) (a7 (ax rT (ax aJ (ao 0) (wC (.int 0))) (ao 1))) IR))))) (bI (wC (.bl false))) cA)
  IS)
def IU:W Fl:=(aT (mq (pY (ax aJ (ao 1) (wC (.int 1)))) (dH [10,11,12,13]) Cn)
  IT)
def IV:W Fl:=(aT (bq 9 (lR (au (wC (.int 0)) (au (wC (.int 1)) aG))))
  IU)
def IW:W Fl:=(aT (El [5,6,7,8] (aC jM (au (ao 1) aG)))
  IV)
def IX:W Fl:=(aT (bq 4 (ax aJ (aC ib (au (ao 1) aG)) (wC (.int 0))))
  IW)
def Co:W Fl:=(aT (bq 3 (bj (aC lE (au (ao 1) (au (ao 2) aG)))))
  IX)
def IY:W Fl:=(aT (bq 2 (bj (aC fu (au (ao 1) aG))))
  Co)
def OM:W Fl:=(aT (bq 1 (bj (aC lC (au (ao 0) (au (wC (.int 0)) (au (wC (.int 6)) (au (wC (.int 5)) aG)))))))
  IY)
theorem Lr{R:aF}{ps:List Rat}(hR:R.Ok)(h:IJ R ps):d6 R ps:=by
 refine⟨hR,h.len,λk hk=>?_,?_⟩
 .
  have hk':k<R.asks.length:=by rw[<- h.len];exact hk
  have hz:k<(R.asks.zip ps).length:=by rw[Zh];omega
  have:=h.lo _ (YB hz);rw[ZJ]at this;rw[bP hk,nu hk'];exact this
 .
  obtain⟨D,d0,d1,da⟩:=hR.cd;refine⟨D*12,xL,xL,λa ha=>ZK (da a ha) (aax _ _),λp hp=>?_⟩;obtain⟨k,hk,rfl⟩:=ZM hp;have hk':k<R.asks.length:=by rw[<- h.len];exact hk
  obtain⟨v,v0,v1,e⟩:=h.tw k hk';rw[<- bP hk,e];refine ZK (nj _ _) (Nat.mul_dvd_mul ?_ ?_)
  . rw[nu hk'];exact da _ (YB hk')
  . have:=BG (t:=v) (b:=12) xp;exact this
theorem I0{x0 x1 x2 x3 x4 x5 x6 x7 x8 x10 x11 x12 x13 x14 x15 x16 x17 x18:L}{R:aF}(hR:R.Ok)(hT:∀a∈R.asks,RB 60 a.size){k4:Fl->Ev->Prop}
  (Uo:∀(m:Rat) x10 x11 x12 x13,(∀a∈R.asks,a.size<=m)->0<=m->RB 60 m->k4 .nx [x0,x1,x2,x3,x4,x5,x6,x7,x8,.d (Vp m),x10,x11,x12,x13,x14,x15,x16,x17,x18]) :
  ck (dH [10,11,12,13]) Cn (R.asks.map j3) [x0,x1,x2,x3,x4,x5,x6,x7,x8,.d (.tup [.int 0,.int 1]),x10,x11,x12,x13,x14,x15,x16,x17,x18] k4:=by
 refine cF (enc:=j3) R.asks (λpre Z=>∃(m:Rat)(x10 x11 x12 x13:L),Z=[x0,x1,x2,x3,x4,x5,x6,x7,x8,.d (Vp m),x10,x11,x12,x13,x14,x15,x16,x17,x18]/\(∀a∈pre,a.size<=m)/\0<=m/\RB 60 m) _ ⟨0,_,_,_,_,rfl,x_,Zs,RB.zero.mono xp⟩ ?_ λZ ⟨m,x10,x11,x12,x13,e,h1,h2,h3⟩=>by rw[e];exact Uo m _ _ _ _ h1 h2 h3
 rintro pre a suf Z hsp ⟨m,x10,x11,x12,x13,rfl,h5,h6,h7⟩ Q h1 h2 h3 h4;have ha:a∈R.asks:=by rw[hsp];simp
 walk_at"Cn";refine⟨_,_,rfl,h7.mono xp,(hT a ha).mono xp,?_⟩;walk_at"w";by_cases c:m<a.size
 .
  rw[if_pos c];refine h1 _ ⟨_,_,_,_,_,rfl,λb hb=>?_,Zx h6 (ZS c),hT a ha⟩;rcases YY.mp hb with hb|hb
  . exact Zx (h5 b hb) (ZS c)
  . rw[Za.mp hb];exact Zs
 .
  rw[if_neg c];refine h1 _ ⟨_,_,_,_,_,rfl,λb hb=>?_,h6,h7⟩;rcases YY.mp hb with hb|hb
  . exact h5 b hb
  . rw[Za.mp hb];exact ZH.mp c
theorem Ja{x0 x1 x2 x3 x4 x5 x6 x7 x8 x9 x10 x11 x12 x13 x15 x16 x17 x18:L}{R:aF}(hR:R.Ok){r:Rat}(r0:0<r)(rb:RB 60 r){k4:Fl->Ev->Prop}
  (Uo:∀(r:Rat) x12,(∀t∈R.rooms,r<=t)->0<r->RB 60 r->k4 .nx [x0,x1,x2,x3,x4,x5,x6,x7,x8,x9,x10,x11,x12,x13,.d (Vp r),x15,x16,x17,x18]) :
  ck (a9 12) Cm (R.rooms.map Vp) [x0,x1,x2,x3,x4,x5,x6,x7,x8,x9,x10,x11,x12,x13,.d (Vp r),x15,x16,x17,x18] k4:=by
 refine cF (enc:=Vp) R.rooms (λpre Z=>∃(r:Rat)(x12:L),Z=[x0,x1,x2,x3,x4,x5,x6,x7,x8,x9,x10,x11,x12,x13,.d (Vp r),x15,x16,x17,x18]/\(∀t∈pre,r<=t)/\0<r/\RB 60 r) _ ⟨r,_,rfl,x_,r0,rb⟩ ?_ λZ ⟨m,x12,e,h1,h2,h3⟩=>by rw[e];exact Uo m _ h1 h2 h3
 rintro pre t suf Z hsp ⟨r,x12,rfl,h5,h6,h7⟩ Q h1 h2 h3 h4;obtain⟨t0,tb⟩:=hR.room t (by rw[hsp];simp);walk_at"Cm";refine⟨_,_,rfl,tb.mono xp,h7.mono xp,?_⟩;walk_at"w";by_cases c:t<r
 .
  rw[if_pos c];refine h1 _ ⟨_,_,rfl,λb hb=>?_,t0,tb⟩;rcases YY.mp hb with hb|hb
  . exact Zx (ZS c) (h5 b hb)
  . rw[Za.mp hb];exact Zs
 .
  rw[if_neg c];refine h1 _ ⟨_,_,rfl,λb hb=>?_,h6,h7⟩;rcases YY.mp hb with hb|hb
  . exact h5 b hb
  . rw[Za.mp hb];exact ZH.mp c
theorem Q4{m r:Rat}(r0:0<r):Rat.divInt (3*m.num*(r.den:Int)) (2*(m.den:Int)*r.num)=3 / 2*m / r:=by
 have h1:Rat.divInt 3 2=3 / 2:=by decide +kernel
 rw[show 3*m.num*(r.den:Int)=3*(m.num*(r.den:Int)) by rw[Int.mul_assoc],show 2*(m.den:Int)*r.num=2*((m.den:Int)*r.num) by rw[Int.mul_assoc],<- ZV,zN m (by grind),h1,aav,aav,aav,<- Rat.mul_assoc]
theorem OO{n:Nat}{v:List Bool}(h:v.length=n):(dZ n).filterMap (λus=>if us=v then some (eZ us)else none)=[eZ v]:=by
 have e:(λus:List Bool=>if us=v then some (eZ us)else none)=λus=>(if us=v then some us else none).map eZ:=by
  funext us
  split<;>rfl
 have e2:∀l:List (List Bool),l.filterMap (λus=>if us=v then some us else none)=l.filter (·=v):=λl=>by
  induction l with
  |nil=>rfl
  | cons a l ih =>
   by_cases c:a=v
   . rw[ZF,if_pos c,Zu,if_pos (Zg c),ih]
   . rw[ZF,if_neg c,Zu,if_neg (λz=>c (aaw z)),ih]
 rw[e,<- List.map_filterMap,e2,II (nv n) (kJ h)];rfl
theorem Cp(v:List Bool):Vq 2 (.lst [eZ v])=true:=by simp only[Vq,Gn,DD,Bool.and_true]
theorem OP:aa6 1 18 fs_law OM:=by
 rintro ls k4 - ⟨ns,rfl,hl,h⟩;walk_at"OM";refine⟨ns,0,6,5,rfl,xL,xp,xp,xp,λR hDr=>?_⟩;have hR:=hDr.ok;have few:R.asks.length<=5:=hDr.few;have n6:R.n<=6:=hDr.hi;have hlo:=hR.lo;have hT:SB R:=⟨60,xp,xL,hDr.tt⟩;obtain⟨N,hN⟩:=BO hR hDr.tt xL n6;have hq:=(xP hR).mono (show 1667<=1750 by decide);obtain⟨g1,g2,g3,g4⟩:=qe hR;have hSl:d6 R (b9 R (d5 R).1):=⟨hR,Dx R _,Oa hR hq g3,N,hN.n0,Nat.lt_trans hN.n1 (aaU xp xp),hN.ask,hN.sp⟩;have hD:Wq R (b9 R (d5 R).1) N:=⟨hSl,hN.n0,Nat.lt_trans hN.n1 (aaU xp xp),hN.ask,hN.sp⟩;walk_at"IY";refine⟨R,rfl,hR,hT,few,λr hr=>?_⟩
 have rest:Co [.d (.lst (ns.map .int)),.d (aO R),.d (.lst ((dZ R.asks.length).map (A1 R))),.un,.un,.un,.un,.un,.un,.un,.un,.un,.un,.un,.un,.un,.un,.un,.un] (aP [.d (.lst (ns.map .int))] k4):=by
  walk_at"Co";refine⟨R,_,rfl,hR,hT,λe=>(by have h:=kJ (k:=R.asks.length) (vs:=List.replicate R.asks.length true) x_;rw[e]at h;exact absurd h x_),λvs hv=>oU hv,λB ⟨bw,b1,eB⟩ b2=>?_⟩;walk_at"w";walk_at"IX";refine⟨R,rfl,hR,λc=>?_⟩;walk_at"w";walk_at"IW";refine⟨R,rfl,hT,hSl,λos op ow=>?_⟩;walk_at"OH";walk_at"IV";walk_at"IU";refine⟨xp,I0 hR hDr.tt λm x10 x11 x12 x13 hm m0 mb=>?_⟩;have hw:(vJ R (b9 R (d5 R).1) os).length=R.asks.length:=ud hSl os;have near:∀r:Rat,0<r->(∀t,t<R.n->r<=R.room t)->AZ R (vJ R (b9 R (d5 R).1) os)<=(d5 R).1+3 / 2*m / r:=λr r0 hr=>La hR hD op ow m0 hm r0 hr;have tb1:=(sQ hR hT (vJ R (b9 R (d5 R).1) os)).mono (show 1401<=4400 by decide);generalize vJ R (b9 R (d5 R).1) os=v at hw near tb1 ⊢;have Bb:RB 4400 B:=by rw[eB];exact(sQ hR hT bw).mono xp
  have lb:(d5 R).1<=B:=by rw[eB];exact EJ hR bw (oU b1)
  have bv:B<=AZ R v:=b2 v (kJ hw);walk_at"IT";refine⟨_,_,rfl,Bb.mono xp,hq.mono xp,?_⟩;walk_at"w";rw[if_neg (ZH.mpr lb)];refine⟨_,_,rfl,tb1.mono xp,Bb.mono xp,?_⟩;walk_at"w";rw[if_neg (ZH.mpr bv)];have hc:(dZ R.asks.length).length<=32:=by rw[ju];exact YF (n:=2) xp few
  refine⟨xp,λa0=>⟨YH hc xp,iW (enc:=A1 R) (h:=λus=>if us=v then some (eZ us)else none) _ _ _ (λus hu Q q=>?_) λl' a1=>?_⟩⟩
  .
   walk_at"A1";refine⟨lW _,lW _,?_⟩;rw[DC];by_cases c:us=v
   . rw[if_pos c]at q;rw[if_pos (Zg c)];walk_at"IR";exact q
   . rw[if_neg c]at q;rw[if_neg λz=>c (aaw z)];exact q
  rw[aaA,OO hw];refine⟨ji (Cp v) xp,ji (Cp v) xp,?_⟩;rw[if_neg (by rw[JS (n:=2) (Cp v)];decide)];walk_at"IS";refine⟨_,OK (k:=0) xL,?_⟩;walk_at"w";walk_at"IQ";obtain⟨r0,rb⟩:=eY hR (show 0<R.n by omega);refine Ja hR r0 rb λr x12 hr r0 rb=>?_;have hr':∀t,t<R.n->r<=R.room t:=λt ht=>hr _ (Dt ht);have near:=near r r0 hr';dsimp only;walk_at"IP";have c1:bB (3:Int):=bG (n:=2) xp xp;have c2:bB (2:Int):=bG (n:=2) xp xp;have c3:bB m.num:=bG mb.1 xp;have c4:bB (m.den:Int):=bG (n:=60) (by rw[YI];exact mb.2) xp;have c5:bB r.num:=bG rb.1 xp;have c6:bB (r.den:Int):=bG (n:=60) (by rw[YI];exact rb.2) xp;have d3:(3*m.num).natAbs<2^(2+60):=by rw[Zn];exact aZ xp mb.1
  have d2:(2*(m.den:Int)).natAbs<2^(2+60):=by rw[Zn,YI];exact aZ xp mb.2
  have c7:bB (3*m.num):=bG d3 xp;have c8:bB (2*(m.den:Int)):=bG d2 xp;have d9:(2*(m.den:Int)*r.num).natAbs<2^9000:=by rw[Zn];exact so (aZ d2 rb.1) (YF xp xp)
  have nz:2*(m.den:Int)*r.num≠0:=ZN (ZN xp (iy _)) (wB (by grind));have xb:RB 200 (3 / 2*m / r):=((RB.mul (p:=3 / 2) (m:=5) ⟨y_,y_⟩ mb).div rb (by grind)).mono xp;refine⟨c1,c3,c7,c6,c2,c4,c8,c5,_,_,rfl,nz,d9,?_⟩;rw[Q4 r0];walk_at"w";refine pK (hq.mono xp) (xb.mono xp) ?_;walk_at"w";walk_at"DZ";refine⟨_,_,rfl,(hq.add xb).mono xp,tb1.mono xp,?_⟩;walk_at"w";rw[if_neg (ZH.mpr near)];walk_at"DY";refine⟨⟨xL,xL⟩,⟨?_,?_⟩,?_⟩
  . split<;>split<;>omega
  . split<;>split<;>omega
  refine Da 3 _ (λi Z=>∃x17 x18 x16,Z=[.d (.lst (ns.map .int)),.d (aO R),.d (.lst ((dZ R.asks.length).map (A1 R))),.d (Vp B),.d (Vp (d5 R).1),.d (eZ v),.d (Vp (AZ R v)),.d (.tup [.lst ((vG R 20 (b9 R (d5 R).1)).map V0),eZ v]),.d (.tup [Vp (d5 R).1,.lst ((b9 R (d5 R).1).map Vp),me (d5 R).2]),.d (Vp m),x10,x11,x12,x13,.d (Vp r),.d (Vp ((d5 R).1+3 / 2*m / r)),x16,x17,x18]) _ ⟨_,_,_,rfl⟩ ?_ ?_
  .
   rintro i Z hi ⟨x17,x18,x16,rfl⟩ Q h1 h2 h3 h4;have hi':i<40:=by split at hi<;>split at hi<;>omega
   have nn:(0:Int)<(R.n:Int):=by omega
   have nb:(R.n:Int)<=10^60:=by omega
   walk_at"IM";refine⟨ns,3+i,rfl,xL,xL,λb us hu=>?_⟩;walk_at"w";refine⟨b,us,_,rfl,hu,nn,nb,λt vs hv t0 t1=>⟨vs,rfl,?_⟩⟩;walk_at"w";refine⟨b,vs,_,rfl,hv,nn,nb,λu ws hw2 u0 u1=>⟨ws,rfl,?_⟩⟩;walk_at"w";obtain⟨T,rfl⟩:=ZO t0;obtain⟨U,rfl⟩:=ZO u0;refine⟨xp,λa2=>⟨[(T:Int),(U:Int)],rfl,(show 2<64 by decide),λa3=>?_⟩⟩;rw[RS];walk_at"w";have hcut:g9 R.n (min T U,max T U):=⟨by show min T U<=max T U;omega,by show max T U<R.n;omega⟩;refine⟨xp,R,(min T U,max T U),rfl,hR,hcut,?_⟩;walk_at"w"
   have sb:RB 1750 (cf R (min T U,max T U)):=by
    obtain⟨_,r2⟩:=gL hR hcut;have h1:=t4 hR (min T U,max T U);have nz:oS R (min T U,max T U)≠0:=by have:=(gL hR hcut).1;grind
    unfold cf;exact(h1.div r2 nz).mono xp
   refine⟨_,_,rfl,Bb.mono xp,sb.mono xp,?_⟩;walk_at"w";rw[if_neg (ZH.mpr (Zx (g3 _ hcut) lb))];refine⟨b,ws,R,rfl,hw2,hR,hDr.tt,λps c ys hy hp=>⟨ys,rfl,?_⟩⟩;walk_at"w";refine⟨R,ps,m,rfl,Lr hR hp,hT,few,hm,m0,mb.mono xp,?_⟩;walk_at"w";exact h1 _ ⟨_,_,_,rfl⟩
  . rintro Z ⟨x17,x18,x16,rfl⟩;walk_at"DX";exact⟨_,aj aL,h⟩
 rcases hr with rfl|⟨a,rfl⟩
 . walk_at"w";exact rest
 . walk_at"w";exact rest
structure Tx (K:W.Frag) (mg:Str->Option Value) (ad:Nat->Addr) (fd:Nat->FuncData):Prop where
 abq:FX K mg "greatest_shared" e8 (ad 0) (fd 0) ["one","other"]
 abX:FX K mg "least_common" iz (ad 1) (fd 1) ["one","other"]
 abi:FX K mg "is_whole" qp (ad 2) (fd 2) ["thing"]
 aby:FX K mg "is_number_below" fb (ad 3) (fd 3) ["thing","many"]
 abY:FX K mg "are_two_wholes" fW (ad 4) (fd 4) ["thing"]
 abZ:FX K mg "is_ratio" qr (ad 5) (fd 5) ["thing"]
 abj:FX K mg "lowest" yd (ad 6) (fd 6) ["top","bottom"]
 ab0:FX K mg "ratio" BP (ad 7) (fd 7) ["top","bottom"]
 abk:FX K mg "plus" Ib (ad 8) (fd 8) ["one","other"]
 abl:FX K mg "minus" BQ (ad 9) (fd 9) ["one","other"]
 abz:FX K mg "times" BR (ad 10) (fd 10) ["one","other"]
 abA:FX K mg "over" Ic (ad 11) (fd 11) ["one","other"]
 abc:FX K mg "under" BS (ad 12) (fd 12) ["one","other"]
 ab1:FX K mg "greater" ue (ad 13) (fd 13) ["one","other"]
 ab2:FX K mg "lesser" ye (ad 14) (fd 14) ["one","other"]
 abB:FX K mg "sum_of" yf (ad 15) (fd 15) ["some"]
 abr:FX K mg "lesser_place" iA (ad 16) (fd 16) ["ring","k"]
 abC:FX K mg "greater_place" gM (ad 17) (fd 17) ["ring","k"]
 ab3:FX K mg "do_cross" qt (ad 18) (fd 18) ["ring","k","l"]
 abt:FX K mg "parted_in" jv (ad 19) (fd 19) ["ring","sending"]
 abD:FX K mg "first_side_by_side" dj (ad 20) (fd 20) ["ring","some"]
 abE:FX K mg "is_within" ny (ad 21) (fd 21) ["cut","place"]
 abF:FX K mg "parts_places" iB (ad 22) (fd 22) ["cut","one","other"]
 ab4:FX K mg "across" sT (ad 23) (fd 23) ["ring","cut"]
 ab5:FX K mg "rooms_of" qu (ad 24) (fd 24) ["ring","cut"]
 abG:FX K mg "shown_by" qv (ad 25) (fd 25) ["ring","cut"]
 ab6:FX K mg "all_cuts" lY (ad 26) (fd 26) ["ring"]
 ab7:FX K mg "greatest_cut" iC (ad 27) (fd 27) ["ring"]
 abH:FX K mg "is_way" yg (ad 28) (fd 28) ["thing"]
 ab8:FX K mg "other_way" nA (ad 29) (fd 29) ["way"]
 abu:FX K mg "ties_of" kL (ad 30) (fd 30) ["ring","k","way"]
 abI:FX K mg "is_over" ui (ad 31) (fd 31) ["ring","k","way","tie"]
 ab9:FX K mg "sent_over" nB (ad 32) (fd 32) ["ring","sending","k","tie"]
 aca:FX K mg "load_of" oW (ad 33) (fd 33) ["ring","sending","tie"]
 acb:FX K mg "loads_of" lZ (ad 34) (fd 34) ["ring","sending"]
 acd:FX K mg "strains_of" hX (ad 35) (fd 35) ["ring","sending"]
 ace:FX K mg "top_of" yh (ad 36) (fd 36) ["ring","sending"]
 acf:FX K mg "common_bottom" gN (ad 37) (fd 37) ["some"]
 abJ:FX K mg "in_units" l5 (ad 38) (fd 38) ["some","units"]
 acg:FX K mg "weighed" kM (ad 39) (fd 39) ["ring","top"]
 ach:FX K mg "still_across" fE (ad 40) (fd 40) ["ring","k","waiting","cut"]
 aci:FX K mg "most_on" um (ad 41) (fd 41) ["ring","k","waiting","free"]
 acj:FX K mg "left_free" jw (ad 42) (fd 42) ["ring","k","free","part","rest"]
 ack:FX K mg "sent_one_by_one" fc (ad 43) (fd 43) ["ring","top"]
 acm:FX K mg "sent_by" oX (ad 44) (fd 44) ["ring","ways"]
 acn:FX K mg "top_by" yi (ad 45) (fd 45) ["ring","ways"]
 abK:FX K mg "least_top" nC (ad 46) (fd 46) ["ring"]
 abL:FX K mg "part_behind" jx (ad 47) (fd 47) ["part","way","amount"]
 abM:FX K mg "slid_once" nD (ad 48) (fd 48) ["sending","slide"]
 abN:FX K mg "share_no_tie" fF (ad 49) (fd 49) ["ring","k","way","l","other"]
 aco:FX K mg "has_form_of_slide" dN (ad 50) (fd 50) ["thing","asks"]
 abO:FX K mg "not_sent" qx (ad 51) (fd 51) ["ring","sending","k","way"]
 abP:FX K mg "most_slid" nF (ad 52) (fd 52) ["ring","sending","slide"]
 acp:FX K mg "is_slide" qy (ad 53) (fd 53) ["ring","sending","thing"]
 acq:FX K mg "slid_by" uq (ad 54) (fd 54) ["ring","sending","thing"]
 acr:FX K mg "ways_apart" kN (ad 55) (fd 55) ["ring","k","l"]
 acs:FX K mg "greatest_slide" fX (ad 56) (fd 56) ["ring","sending","k","l"]
 acu:FX K mg "slides_for" kO (ad 57) (fd 57) ["ring","sending"]
 acv:FX K mg "nearest_way" jy (ad 58) (fd 58) ["ask","part"]
 acw:FX K mg "half_of_greatest" d7 (ad 59) (fd 59) ["ring","some"]
 acx:FX K mg "by_lesser_place" cV (ad 60) (fd 60) ["ring","some"]
 acy:Qm K "by_lesser_place" (fd 60) cV
 abv:FX K mg "rising_way" kP (ad 61) (fd 61) ["ring","k"]
 abQ:FX K mg "gain_of" ur (ad 62) (fd 62) ["ring","sending","k","way"]
 acz:FX K mg "rounded_ways" fG (ad 63) (fd 63) ["ring","slid"]
 abR:FX K mg "rounding_of" jz (ad 64) (fd 64) ["ring","sending"]
 acA:FX K mg "near_whole" kQ (ad 65) (fd 65) ["ring"]
 abn:FX K mg "_law_begun" kR (ad 66) (fd 66) ["_law_script","_law_k"]
 aa9:FX K mg "_law_take" nG (ad 67) (fd 67) ["_law_state","_law_many"]
 acB:FX K mg "_law_names" fP (ad 68) (fd 68) ["_law_state","_law_many"]
 abf:FX K mg "_law_low" qC (ad 69) (fd 69) ["_law_top_here","_law_bottom"]
 abw:FX K mg "_law_amount" jA (ad 70) (fd 70) ["_law_state","_law_least","_law_kind"]
 acC:FX K mg "_law_rooms" kU (ad 71) (fd 71) ["_law_state","_law_ties_here","_law_kind"]
 acD:FX K mg "_law_ends" nH (ad 72) (fd 72) ["_law_state","_law_shape","_law_places","_law_k"]
 acE:FX K mg "_law_ring" nI (ad 73) (fd 73) ["_law_script","_law_at","_law_most","_law_count"]
 abS:FX K mg "_law_ties" nJ (ad 74) (fd 74) ["_law_ring_here","_law_k","_law_way"]
 abo:FX K mg "_law_plus" nK (ad 75) (fd 75) ["_law_one","_law_other"]
 acF:FX K mg "_law_all_loads" fY (ad 76) (fd 76) ["_law_ring_here"]
 abd:FX K mg "_law_under" kW (ad 77) (fd 77) ["_law_one","_law_other"]
 acG:FX K mg "_law_top" qD (ad 78) (fd 78) ["_law_ring_here","_law_loads_here"]
 acH:FX K mg "_law_tops" nL (ad 79) (fd 79) ["_law_ring_here","_law_rows"]
 acI:FX K mg "_law_minus" kX (ad 80) (fd 80) ["_law_one","_law_other"]
 acJ:FX K mg "_law_loads" kY (ad 81) (fd 81) ["_law_ring_here","_law_sending"]
 acK:FX K mg "_law_rounded" fH (ad 82) (fd 82) ["_law_ring_here","_law_rows","_law_sending","_law_most"]
 acL:FX K mg "_law_parts" kZ (ad 83) (fd 83) ["_law_state","_law_ring_here"]
 acM:FX K mg "law" Ik (ad 84) (fd 84) ["_law_script"]
 abT:mg "abs"=none
 acP:mg "any"=none
 acQ:mg "bool"=none
 abe:mg "enumerate"=none
 abU:mg "int"=none
 abm:mg "isinstance"=none
 aa8:mg "len"=none
 abp:mg "list"=none
 acN:mg "max"=none
 abx:mg "min"=none
 abb:mg "range"=none
 abV:mg "sorted"=none
 acR:mg "str"=none
 acS:mg "sum"=none
 acO:mg "tuple"=none
 abW:mg "zip"=none
 abg:Bj K mg "BACK" (.str "back")
 acT:Bj K mg "HALF" (.tup [(.int 1),(.int 2)])
 abh:Bj K mg "NOUGHT" (.tup [(.int 0),(.int 1)])
 aba:Bj K mg "ON" (.str "on")
section
variable{P:Program}{w:World}{K:W.Frag}{mg:Str->Option Value}{base:Heap}{ad:Nat->Addr}{fd:Nat->FuncData}
theorem cI:aB qo ["one","other"] (ar e8):=⟨rfl,rfl,rfl,y_,rfl,y_,y_⟩
abbrev aa7(T:Tx K mg ad fd)(P:Program)(w:World)(base:Heap)(d i:Nat)(ps:List Str)(n:Nat)(f:FS):Prop:=FnOk P w K mg base CX0 d (ad i) (fd i) ps (spF K n f)
theorem eM(T:Tx K mg ad fd):aa7 T P w base 1 0 ["one","other"] 2 bZ:=
 aX (k:=0) T.abq.f cI ff (λcdv A outer s H E hr=>(ai (oF YR (U7 (Bg hr.units) (ae 1) ah (bc _)) (ai (aA (i:=2) cI.nd rfl v6 (az cY (ae 0) (ae 1)))
  (ai (aA (i:=0) cI.nd rfl v6 (ae 1))
  (aq (aA (i:=1) cI.nd rfl v6 (ae 2))))))
  (aq (aD (aY Ga rfl T.abT y_ (af (ae 0) ag))))))
  nN
theorem vd:aB vL ["one","other"] (ar iz):=⟨rfl,rfl,rfl,y_,rfl,y_,y_⟩
theorem ve(T:Tx K mg ad fd):aa7 T P w base 2 1 ["one","other"] 2 gO:=
 aX (k:=1) T.abX.f vd iD (λcdv A outer s H E hr=>(aq (aD (az aU (az mr (ae 0) (aE (eM T) T.abq hr (af (ae 0) (af (ae 1) ag)))) (ae 1)))))
  r6
theorem Cq:aB EM ["thing"] (ar qp):=⟨rfl,rfl,rfl,y_,rfl,y_,y_⟩
theorem gZ(T:Tx K mg ad fd):aa7 T P w base 1 2 ["thing"] 1 dO:=
 aX (k:=0) T.abi.f Cq l6 (λcdv A outer s H E hr=>(aq (aD (kr (wu Ng rfl T.abm rfl T.abU y_ (ae 0)) (rm (F0 (wu JP rfl T.abm rfl T.acQ y_ (ae 0))))))))
  An
theorem pN:aB qq ["thing","many"] (ar fb):=⟨rfl,rfl,rfl,y_,rfl,y_,y_⟩
theorem ij(T:Tx K mg ad fd):aa7 T P w base 2 3 ["thing","many"] 2 cH:=
 aX (k:=1) T.aby.f pN fg (λcdv A outer s H E hr=>(aq (aD (kr (aE (gZ T) T.abi hr (af (ae 0) ag)) (rm (C2 P5 P4 ah (ae 0) (ae 1)))))))
  nO
theorem qW:aB rX ["thing"] (ar fW):=⟨rfl,rfl,rfl,y_,rfl,y_,y_⟩
theorem qX(T:Tx K mg ad fd):aa7 T P w base 2 4 ["thing"] 1 fh:=
 aX (k:=1) T.abY.f qW dE (λcdv A outer s H E hr=>(aq (aD (kr (wu zy rfl T.abm rfl T.acO y_ (ae 0)) (kr (gB (gF hr.units) (aY dU rfl T.aa8 y_ (af (ae 0) ag)) ah (bc _)) (kr (aE (gZ T) T.abi hr (af (av (ae 0) ah aa1) ag)) (rm (aE (gZ T) T.abi hr (af (av (ae 0) ah aa1) ag)))))))))
  oZ
theorem Cr:aB EN ["thing"] (ar qr):=⟨rfl,rfl,rfl,y_,rfl,y_,y_⟩
theorem Cs(T:Tx K mg ad fd):aa7 T P w base 3 5 ["thing"] 1 nQ:=
 aX (k:=2) T.abZ.f Cr l7 (λcdv A outer s H E hr=>(aq (aD (kr (aE (qX T) T.abY hr (af (ae 0) ag)) (kr (gB PQ (av (ae 0) ah aa1) ah (bc _)) (rm (gB (gF hr.units) (aE (eM T) T.abq hr (af (av (ae 0) ah aa1) (af (av (ae 0) ah aa1) ag))) ah (bc _))))))))
  Ao
theorem vf:aB Lc ["top","bottom"] (ar yd):=⟨rfl,rfl,rfl,y_,rfl,y_,y_⟩
theorem lI(T:Tx K mg ad fd):aa7 T P w base 2 6 ["top","bottom"] 2 gQ:=
 aX (k:=1) T.abj.f vf yn (λcdv A outer s H E hr=>(ai (aA (i:=2) vf.nd rfl v6 (ay (aE (eM T) T.abq hr (af (ae 0) (af (ae 1) ag)))))
  (ai (cL (U7 oG (ae 1) ah (bc _)) (aq (aA (i:=2) vf.nd rfl v6 (Pz (ae 2)))) ba)
  (aq (aD (bR (af (az mr (ae 0) (ae 2)) (af (az mr (ae 1) (ae 2)) ag))))))))
  EX
theorem Ls:aB OA ["top","bottom"] (ar BP):=⟨rfl,rfl,rfl,y_,rfl,y_,y_⟩
theorem Lu(T:Tx K mg ad fd):aa7 T P w base 3 7 ["top","bottom"] 2 yo:=
 aX (k:=2) T.ab0.f Ls B6 (λcdv A outer s H E hr=>(ai (cL (U5.pb (oD (kq (bN (aE (gZ T) T.abi hr (af (ae 0) ag)))) (oD (kq (bN (aE (gZ T) T.abi hr (af (ae 1) ag)))) (m7 (U7 (gF hr.units) (ae 1) ah (bc _)))))) (aq sE) ba)
  (aq (aD (aE (lI T) T.abj hr (af (ae 0) (af (ae 1) ag)))))))
  Il
theorem OQ:aB QV ["one","other"] (ar Ib):=⟨rfl,rfl,rfl,y_,rfl,y_,y_⟩
theorem vg(T:Tx K mg ad fd):aa7 T P w base 3 8 ["one","other"] 2 jB:=
 aX (k:=2) T.abk.f OQ Im (λcdv A outer s H E hr=>(aq (aD (aE (lI T) T.abj hr (af (ay (az bY (az aU (av (ae 0) ah aa1) (av (ae 1) ah aa1)) (az aU (av (ae 1) ah aa1) (av (ae 0) ah aa1)))) (af (ay (az aU (av (ae 0) ah aa1) (av (ae 1) ah aa1))) ag))))))
  Li
theorem Lv:aB OB ["one","other"] (ar BQ):=⟨rfl,rfl,rfl,y_,rfl,y_,y_⟩
theorem pO(T:Tx K mg ad fd):aa7 T P w base 3 9 ["one","other"] 2 fJ:=
 aX (k:=2) T.abl.f Lv B7 (λcdv A outer s H E hr=>(aq (aD (aE (lI T) T.abj hr (af (az eQ (az aU (av (ae 0) ah aa1) (av (ae 1) ah aa1)) (az aU (av (ae 1) ah aa1) (av (ae 0) ah aa1))) (af (ay (az aU (av (ae 0) ah aa1) (av (ae 1) ah aa1))) ag))))))
  Io
theorem Lw:aB OC ["one","other"] (ar BR):=⟨rfl,rfl,rfl,y_,rfl,y_,y_⟩
theorem D0(T:Tx K mg ad fd):aa7 T P w base 3 10 ["one","other"] 2 sU:=
 aX (k:=2) T.abz.f Lw B8 (λcdv A outer s H E hr=>(aq (aD (aE (lI T) T.abj hr (af (ay (az aU (av (ae 0) ah aa1) (av (ae 1) ah aa1))) (af (ay (az aU (av (ae 0) ah aa1) (av (ae 1) ah aa1))) ag))))))
  Ip
theorem OR:aB QW ["one","other"] (ar Ic):=⟨rfl,rfl,rfl,y_,rfl,y_,y_⟩
theorem Jb(T:Tx K mg ad fd):aa7 T P w base 3 11 ["one","other"] 2 yp:=
 aX (k:=2) T.abA.f OR Iq (λcdv A outer s H E hr=>(ai (cL (U7 (gF hr.units) (av (ae 1) ah aa1) ah (bc _)) (aq sE) ba)
  (aq (aD (aE (lI T) T.abj hr (af (ay (az aU (av (ae 0) ah aa1) (av (ae 1) ah aa1))) (af (ay (az aU (av (ae 0) ah aa1) (av (ae 1) ah aa1))) ag)))))))
  Lj
theorem Lx:aB OD ["one","other"] (ar BS):=⟨rfl,rfl,rfl,y_,rfl,y_,y_⟩
theorem gu(T:Tx K mg ad fd):aa7 T P w base 1 12 ["one","other"] 2 d8:=
 aX (k:=0) T.abc.f Lx B9 (λcdv A outer s H E hr=>(aq (aD (gB oG (az aU (av (ae 0) ah aa1) (av (ae 1) ah aa1)) (az aU (av (ae 1) ah aa1) (av (ae 0) ah aa1)) (bc _)))))
  Ir
theorem Fh:aB Ie ["one","other"] (ar ue):=⟨rfl,rfl,rfl,y_,rfl,y_,y_⟩
theorem Fi(T:Tx K mg ad fd):aa7 T P w base 2 13 ["one","other"] 2 qE:=
 aX (k:=1) T.ab1.f Fh uu (λcdv A outer s H E hr=>(aq (aD (ku (bN (aE (gu T) T.abc hr (af (ae 0) (af (ae 1) ag)))) (ae 1) (ae 0)))))
  Ca
theorem Jc:aB Ld ["one","other"] (ar ye):=⟨rfl,rfl,rfl,y_,rfl,y_,y_⟩
theorem Jd(T:Tx K mg ad fd):aa7 T P w base 2 14 ["one","other"] 2 uv:=
 aX (k:=1) T.ab2.f Jc yq (λcdv A outer s H E hr=>(aq (aD (ku (bN (aE (gu T) T.abc hr (af (ae 1) (af (ae 0) ag)))) (ae 1) (ae 0)))))
  EY
theorem pP:aB Le ["some"] (ar yf):=⟨rfl,rfl,rfl,y_,rfl,y_,y_⟩
theorem AF(T:Tx K mg ad fd):aa7 T P w base 4 15 ["some"] 1 o5:=
 aX (k:=3) T.abB.f pP yr (λcdv A outer s H E hr=>(ai (aA (i:=1) pP.nd rfl v6 (lT T.abh rfl))
  (ai (bV YR rfl (bM (ae 0)) (cM (i:=2) pP.nd rfl v6) (aq (aA (i:=1) pP.nd rfl v6 (aE (vg T) T.abk hr (af (ae 1) (af (ae 2) ag))))))
  (aq (aD (cz 1))))))
  Fb
theorem vh:aB vM ["ring","k"] (ar iA):=⟨rfl,rfl,rfl,y_,rfl,y_,y_⟩
theorem g5(T:Tx K mg ad fd):aa7 T P w base 1 16 ["ring","k"] 2 cP:=
 aX (k:=0) T.abr.f vh iE (λcdv A outer s H E hr=>(aq (aD (aY (CQ rfl) rfl T.abx y_ (af (av (av (av (ae 0) ah aa1) (ae 1) aa1) ah aa1) (af (av (av (av (ae 0) ah aa1) (ae 1) aa1) ah aa1) ag))))))
  r9
theorem sx:aB uf ["ring","k"] (ar gM):=⟨rfl,rfl,rfl,y_,rfl,y_,y_⟩
theorem kb(T:Tx K mg ad fd):aa7 T P w base 1 17 ["ring","k"] 2 dF:=
 aX (k:=0) T.abC.f sx gR (λcdv A outer s H E hr=>(aq (aD (aY (LM rfl) rfl T.acN y_ (af (av (av (av (ae 0) ah aa1) (ae 1) aa1) ah aa1) (af (av (av (av (ae 0) ah aa1) (ae 1) aa1) ah aa1) ag))))))
  qF
theorem g6:aB EO ["ring","k","l"] (ar qt):=⟨rfl,rfl,rfl,y_,rfl,y_,y_⟩
theorem Ct(T:Tx K mg ad fd):aa7 T P w base 2 18 ["ring","k","l"] 3 nR:=
 aX (k:=1) T.ab3.f g6 qG (λcdv A outer s H E hr=>(ai (aA (i:=3) g6.nd rfl v6 (ay (aE (g5 T) T.abr hr (af (ae 0) (af (ae 1) ag)))))
  (ai (aA (i:=4) g6.nd rfl v6 (ay (aE (kb T) T.abC hr (af (ae 0) (af (ae 1) ag)))))
  (ai (aA (i:=5) g6.nd rfl v6 (ay (aE (g5 T) T.abr hr (af (ae 0) (af (ae 2) ag)))))
  (ai (aA (i:=6) g6.nd rfl v6 (ay (aE (kb T) T.abC hr (af (ae 0) (af (ae 2) ag)))))
  (aq (aD (Rv (zE (ae 3) (tV.cons oG (ae 5) (tV.cons oG (ae 4) (tV.one oG (ae 6))))) (rm (zE (ae 5) (tV.cons oG (ae 3) (tV.cons oG (ae 6) (tV.one oG (ae 4))))))))))))))
  Aq
theorem AG:aB ug ["ring","sending"] (ar jv):=⟨rfl,rfl,rfl,y_,rfl,y_,y_⟩
theorem lJ(T:Tx K mg ad fd):aa7 T P w base 2 19 ["ring","sending"] 2 dW:=
 aX (k:=1) T.abt.f AG nS (λcdv A outer s H E hr=>(aq (aD (dg (sc:=(ar jv)) (N:=ug) (Nt:=["k","part"]) (Nf:=["ring"]) (fi:=[0]) rfl rfl rfl (fA rfl T.abe (ae 1)) rfl y_ y_ y_ xp rfl y_ xp (λ_ _ _ _=>(zB rfl (dD (i:=0) xp (show((["k","part"]:List Str)++(["ring"]:List Str)).Nodup by decide +kernel) rfl (Or.inl rfl) (dD (i:=1) xp (show((["k","part"]:List Str)++(["ring"]:List Str)).Nodup by decide +kernel) rfl (Or.inl rfl) p8)))) (λ_ _ _ _=>(tM (U5.pb (MX (bN (aE (gu T) T.abc hr (af (lT T.abh rfl) (af (ae 1) ag)))) (JF (bN (aE (gu T) T.abc hr (af (ae 1) (af (av (av (av (ae 2) ah aa1) (ae 0) aa1) ah aa1) ag))))))))) (λ_ _ _ _=>(ae 0))))))
  yu
theorem b7:aB mh ["ring","some"] (ar dj):=⟨rfl,rfl,rfl,y_,rfl,y_,y_⟩
theorem fQ(T:Tx K mg ad fd):aa7 T P w base 3 20 ["ring","some"] 2 bH:=
 aX (k:=2) T.abD.f b7 du (λcdv A outer s H E hr=>(ai (bV YR rfl (fA rfl T.abe (ae 1)) (gD rfl (aN (i:=2) b7.nd rfl v6 (aN (i:=3) b7.nd rfl v6 cN))) (aq (bV YR rfl (bM (tQ (ae 1) (az bY (ae 2) ah) trivial)) (cM (i:=4) b7.nd rfl v6) (aq (cL (kq (bN (aE (Ct T) T.ab3 hr (af (ae 0) (af (ae 3) (af (ae 4) ag)))))) (aq (aD (bR (af (ae 3) (af (ae 4) ag))))) ba)))))
  (aq (aD wj))))
  kf
theorem AH:aB BU ["cut","place"] (ar ny):=⟨rfl,rfl,rfl,y_,rfl,y_,y_⟩
theorem rK(T:Tx K mg ad fd):aa7 T P w base 1 21 ["cut","place"] 2 ia:=
 aX (k:=0) T.abE.f AH nT (λcdv A outer s H E hr=>(aq (aD (C2 P4 P5 (av (ae 0) ah aa1) (ae 1) (av (ae 0) ah aa1)))))
  yv
theorem vi:aB vN ["cut","one","other"] (ar iB):=⟨rfl,rfl,rfl,y_,rfl,y_,y_⟩
theorem lK(T:Tx K mg ad fd):aa7 T P w base 2 22 ["cut","one","other"] 3 ez:=
 aX (k:=1) T.abF.f vi iF (λcdv A outer s H E hr=>(aq (aD (gB (Bg hr.units) (aE (rK T) T.abE hr (af (ae 0) (af (ae 1) ag))) (aE (rK T) T.abE hr (af (ae 0) (af (ae 2) ag))) (bc _)))))
  se
theorem Je:aB DU ["ring","cut"] (ar sT):=⟨rfl,rfl,rfl,y_,rfl,y_,y_⟩
theorem Jf(T:Tx K mg ad fd):aa7 T P w base 5 23 ["ring","cut"] 2 uy:=
 aX (k:=4) T.ab4.f Je yw (λcdv A outer s H E hr=>(aq (aD (aE (AF T) T.abB hr (af (ay (dg (sc:=(ar sT)) (N:=DU) (Nt:=["ask"]) (Nf:=["cut"]) (fi:=[1]) rfl rfl rfl (bM (av (ae 0) ah aa1)) rfl y_ y_ y_ xp rfl y_ xp (λ_ _ _ _=>(d4 xp (show((["ask"]:List Str)++(["cut"]:List Str)).Nodup by decide +kernel) rfl (Or.inl rfl))) (λ_ _ _ _=>(tM (bN (aE (lK T) T.abF hr (af (ae 1) (af (av (ae 0) ah aa1) (af (av (ae 0) ah aa1) ag))))))) (λ_ _ _ _=>(av (ae 0) ah aa1)))) ag)))))
  Fc
theorem Cu:aB ER ["ring","cut"] (ar qu):=⟨rfl,rfl,rfl,y_,rfl,y_,y_⟩
theorem Cv(T:Tx K mg ad fd):aa7 T P w base 4 24 ["ring","cut"] 2 nU:=
 aX (k:=3) T.ab5.f Cu qH (λcdv A outer s H E hr=>(aq (aD (aE (vg T) T.abk hr (af (av (av (ae 0) ah aa1) (av (ae 1) ah aa1) aa1) (af (av (av (ae 0) ah aa1) (av (ae 1) ah aa1) aa1) ag))))))
  As
theorem Cw:aB ES ["ring","cut"] (ar qv):=⟨rfl,rfl,rfl,y_,rfl,y_,y_⟩
theorem vj(T:Tx K mg ad fd):aa7 T P w base 6 25 ["ring","cut"] 2 jC:=
 aX (k:=5) T.abG.f Cw qI (λcdv A outer s H E hr=>(aq (aD (aE (Jb T) T.abA hr (af (ay (aE (Jf T) T.ab4 hr (af (ae 0) (af (ae 1) ag)))) (af (ay (aE (Cv T) T.ab5 hr (af (ae 0) (af (ae 1) ag)))) ag))))))
  Au
theorem oz:aB wQ ["ring"] (ar lY):=⟨rfl,rfl,rfl,y_,rfl,y_,y_⟩
theorem Cy(T:Tx K mg ad fd):aa7 T P w base 1 26 ["ring"] 1 nV:=
 aX (k:=0) T.ab6.f oz qJ (λcdv A outer s H E hr=>(ai (aA (i:=1) oz.nd rfl v6 (cx ag))
  (ai (bV YR rfl (gj rfl T.abb (aY dU rfl T.aa8 y_ (af (av (ae 0) ah aa1) ag))) (cM (i:=2) oz.nd rfl v6) (aq (kx (Gs 1 (dg (sc:=(ar lY)) (N:=wQ) (Nt:=["h"]) (Nf:=["g"]) (fi:=[2]) rfl rfl rfl (xi rfl T.abb (ae 2) (aY dU rfl T.aa8 y_ (af (av (ae 0) ah aa1) ag))) rfl y_ y_ y_ xp rfl y_ xp (λ_ _ _ _=>(d4 xp (show((["h"]:List Str)++(["g"]:List Str)).Nodup by decide +kernel) rfl (Or.inl rfl))) (λ_ _ _ _=>dJ) (λ_ _ _ _=>(bR (af (ae 1) (af (ae 0) ag)))))))))
  (aq (aD (cz 1))))))
  Av
theorem cU:aB vO ["ring"] (ar iC):=⟨rfl,rfl,rfl,y_,rfl,y_,y_⟩
theorem vk(T:Tx K mg ad fd):aa7 T P w base 7 27 ["ring"] 1 gS:=
 aX (k:=6) T.ab7.f cU iG (λcdv A outer s H E hr=>(ai (aA (i:=1) cU.nd rfl v6 wj)
  (ai (bV YR rfl (bM (aE (Cy T) T.ab6 hr (af (ae 0) ag))) (cM (i:=2) cU.nd rfl v6) (ai (aA (i:=3) cU.nd rfl v6 (ay (aE (vj T) T.abG hr (af (ae 0) (af (ae 2) ag)))))
  (aq (cL (U5.pb (oD (U7 Gh (ae 1) wj (bc _)) (m7 (bN (aE (gu T) T.abc hr (af (av (ae 1) ah aa1) (af (ae 3) ag))))))) (aq (aA (i:=1) cU.nd rfl v6 (bR (af (ae 3) (af (ae 2) ag))))) ba))))
  (aq (aD (cz 1))))))
  sf
theorem Jg:aB Lf ["thing"] (ar yg):=⟨rfl,rfl,rfl,y_,rfl,y_,y_⟩
theorem AI(T:Tx K mg ad fd):aa7 T P w base 1 28 ["thing"] 1 o7:=
 aX (k:=0) T.abH.f Jg yx (λcdv A outer s H E hr=>(aq (aD (kr (wu Nh rfl T.abm rfl T.acR y_ (ae 0)) (rm (gB PX (ae 0) (bR (af (lT T.aba rfl) (af (lT T.abg rfl) ag))) rfl))))))
  Fe
theorem AJ:aB BV ["way"] (ar nA):=⟨rfl,rfl,rfl,y_,rfl,y_,y_⟩
theorem AK(T:Tx K mg ad fd):aa7 T P w base 1 29 ["way"] 1 k7:=
 aX (k:=0) T.ab8.f AJ nW (λcdv A outer s H E hr=>(aq (aD (ku (U7 (gF hr.units) (ae 0) (lT T.aba rfl) (bc _)) (lT T.abg rfl) (lT T.aba rfl)))))
  yy
theorem l9:aB uh ["ring","k","way"] (ar kL):=⟨rfl,rfl,rfl,y_,rfl,y_,y_⟩
theorem qY(T:Tx K mg ad fd):aa7 T P w base 1 30 ["ring","k","way"] 3 i5:=
 aX (k:=0) T.abu.f l9 uF (λcdv A outer s H E hr=>(ai (aA (i:=3) l9.nd rfl v6 (ay (aY dU rfl T.aa8 y_ (af (av (ae 0) ah aa1) ag))))
  (ai (aA (i:=4) l9.nd rfl v6 (av (av (av (ae 0) ah aa1) (ae 1) aa1) ah aa1))
  (ai (aA (i:=5) l9.nd rfl v6 (av (av (av (ae 0) ah aa1) (ae 1) aa1) ah aa1))
  (ai (cL (U7 (gF hr.units) (ae 2) (lT T.aba rfl) (bc _)) (aq (aD (dg (sc:=(ar kL)) (N:=uh) (Nt:=["step"]) (Nf:=["one","places"]) (fi:=[4,3]) rfl rfl rfl (gj rfl T.abb (az cY (az eQ (ae 5) (ae 4)) (ae 3))) rfl y_ y_ y_ xp rfl y_ xp (λ_ _ _ _=>(d4 xp (show((["step"]:List Str)++(["one","places"]:List Str)).Nodup by decide +kernel) rfl (Or.inl rfl))) (λ_ _ _ _=>dJ) (λ_ _ _ _=>(az cY (az bY (ae 1) (ae 0)) (ae 2)))))) ba)
  (aq (aD (dg (sc:=(ar kL)) (N:=uh) (Nt:=["step"]) (Nf:=["one","places"]) (fi:=[4,3]) rfl rfl rfl (gj rfl T.abb (az cY (az eQ (ae 4) (ae 5)) (ae 3))) rfl y_ y_ y_ xp rfl y_ xp (λ_ _ _ _=>(d4 xp (show((["step"]:List Str)++(["one","places"]:List Str)).Nodup by decide +kernel) rfl (Or.inl rfl))) (λ_ _ _ _=>dJ) (λ_ _ _ _=>(az cY (az eQ (az eQ (ae 1) ah) (ae 0)) (ae 2)))))))))))
  Cb
theorem i8:aB Ig ["ring","k","way","tie"] (ar ui):=⟨rfl,rfl,rfl,y_,rfl,y_,y_⟩
theorem wZ(T:Tx K mg ad fd):aa7 T P w base 1 31 ["ring","k","way","tie"] 4 l8:=
 aX (k:=0) T.abI.f i8 uK (λcdv A outer s H E hr=>(ai (aA (i:=4) i8.nd rfl v6 (ay (aY dU rfl T.aa8 y_ (af (av (ae 0) ah aa1) ag))))
  (ai (aA (i:=5) i8.nd rfl v6 (av (av (av (ae 0) ah aa1) (ae 1) aa1) ah aa1))
  (ai (aA (i:=6) i8.nd rfl v6 (av (av (av (ae 0) ah aa1) (ae 1) aa1) ah aa1))
  (ai (aA (i:=7) i8.nd rfl v6 (gB oG (az cY (az eQ (ae 3) (ae 5)) (ae 4)) (az cY (az eQ (ae 6) (ae 5)) (ae 4)) (bc _)))
  (aq (aD (gB (gF hr.units) (ae 7) (gB (gF hr.units) (ae 2) (lT T.aba rfl) (bc _)) (bc _)))))))))
  Cc
theorem AL:aB BW ["ring","sending","k","tie"] (ar nB):=⟨rfl,rfl,rfl,y_,rfl,y_,y_⟩
theorem AM(T:Tx K mg ad fd):aa7 T P w base 4 32 ["ring","sending","k","tie"] 4 k8:=
 aX (k:=3) T.ab9.f AL nX (λcdv A outer s H E hr=>(ai (cL (bN (aE (wZ T) T.abI hr (af (ae 0) (af (ae 2) (af (lT T.aba rfl) (af (ae 3) ag)))))) (aq (aD (av (ae 1) (ae 2) aa1))) ba)
  (aq (aD (aE (pO T) T.abl hr (af (av (av (av (ae 0) ah aa1) (ae 2) aa1) ah aa1) (af (av (ae 1) (ae 2) aa1) ag)))))))
  yz
theorem Fj:aB Ab ["ring","sending","tie"] (ar oW):=⟨rfl,rfl,rfl,y_,rfl,y_,y_⟩
theorem Fk(T:Tx K mg ad fd):aa7 T P w base 5 33 ["ring","sending","tie"] 3 qK:=
 aX (k:=4) T.aca.f Fj uM (λcdv A outer s H E hr=>(aq (aD (aE (AF T) T.abB hr (af (ay (dg (sc:=(ar oW)) (N:=Ab) (Nt:=["k"]) (Nf:=["ring","sending","tie"]) (fi:=[0,1,2]) rfl rfl rfl (gj rfl T.abb (aY dU rfl T.aa8 y_ (af (av (ae 0) ah aa1) ag))) rfl y_ y_ y_ xp rfl y_ xp (λ_ _ _ _=>(d4 xp (show((["k"]:List Str)++(["ring","sending","tie"]:List Str)).Nodup by decide +kernel) rfl (Or.inl rfl))) (λ_ _ _ _=>dJ) (λ_ _ _ _=>(aE (AM T) T.ab9 hr (af (ae 1) (af (ae 2) (af (ae 0) (af (ae 3) ag)))))))) ag)))))
  Cd
theorem Cz:aB wR ["ring","sending"] (ar lZ):=⟨rfl,rfl,rfl,y_,rfl,y_,y_⟩
theorem CA(T:Tx K mg ad fd):aa7 T P w base 6 34 ["ring","sending"] 2 nY:=
 aX (k:=5) T.acb.f Cz qL (λcdv A outer s H E hr=>(aq (aD (dg (sc:=(ar lZ)) (N:=wR) (Nt:=["tie"]) (Nf:=["ring","sending"]) (fi:=[0,1]) rfl rfl rfl (gj rfl T.abb (aY dU rfl T.aa8 y_ (af (av (ae 0) ah aa1) ag))) rfl y_ y_ y_ xp rfl y_ xp (λ_ _ _ _=>(d4 xp (show((["tie"]:List Str)++(["ring","sending"]:List Str)).Nodup by decide +kernel) rfl (Or.inl rfl))) (λ_ _ _ _=>dJ) (λ_ _ _ _=>(aE (Fk T) T.aca hr (af (ae 1) (af (ae 2) (af (ae 0) ag)))))))))
  Aw
theorem yN:aB rC ["ring","sending"] (ar hX):=⟨rfl,rfl,rfl,y_,rfl,y_,y_⟩
theorem yO(T:Tx K mg ad fd):aa7 T P w base 7 35 ["ring","sending"] 2 jD:=
 aX (k:=6) T.acd.f yN k9 (λcdv A outer s H E hr=>(aq (aD (dg (sc:=(ar hX)) (N:=rC) (Nt:=["load","room"]) (Nf:=[]) (fi:=[]) rfl rfl rfl (Bm rfl T.abW (aE (CA T) T.acb hr (af (ae 0) (af (ae 1) ag))) (av (ae 0) ah aa1)) rfl y_ y_ y_ xp rfl y_ xp (λ_ _ _ _=>(zB rfl (dD (i:=0) xp (show((["load","room"]:List Str)++([]:List Str)).Nodup by decide +kernel) rfl (Or.inl rfl) (dD (i:=1) xp (show((["load","room"]:List Str)++([]:List Str)).Nodup by decide +kernel) rfl (Or.inl rfl) p8)))) (λ_ _ _ _=>dJ) (λ_ _ _ _=>(aE (Jb T) T.abA hr (af (ae 0) (af (ae 1) ag))))))))
  vP
theorem i9:aB Lg ["ring","sending"] (ar yh):=⟨rfl,rfl,rfl,y_,rfl,y_,y_⟩
theorem Jh(T:Tx K mg ad fd):aa7 T P w base 8 36 ["ring","sending"] 2 uN:=
 aX (k:=7) T.ace.f i9 yA (λcdv A outer s H E hr=>(ai (aA (i:=2) i9.nd rfl v6 (ay (aE (yO T) T.acd hr (af (ae 0) (af (ae 1) ag)))))
  (ai (aA (i:=3) i9.nd rfl v6 ah)
  (ai (bV YR rfl (fA rfl T.abe (ae 2)) (gD rfl (aN (i:=4) i9.nd rfl v6 (aN (i:=5) i9.nd rfl v6 cN))) (aq (cL (bN (aE (gu T) T.abc hr (af (av (ae 2) (ae 3) aa1) (af (ae 5) ag)))) (aq (aA (i:=3) i9.nd rfl v6 (ae 4))) ba)))
  (aq (aD (bR (af (av (ae 2) (ae 3) aa1) (af (ae 3) ag)))))))))
  Ff
theorem dG:aB uj ["some"] (ar gN):=⟨rfl,rfl,rfl,y_,rfl,y_,y_⟩
theorem sy(T:Tx K mg ad fd):aa7 T P w base 3 37 ["some"] 1 fZ:=
 aX (k:=2) T.acf.f dG gT (λcdv A outer s H E hr=>(ai (aA (i:=1) dG.nd rfl v6 ah)
  (ai (bV YR rfl (bM (ae 0)) (cM (i:=2) dG.nd rfl v6) (aq (aA (i:=1) dG.nd rfl v6 (aE (ve T) T.abX hr (af (ae 1) (af (av (ae 2) ah aa1) ag))))))
  (aq (aD (cz 1))))))
  qM
theorem CB:aB wU ["some","units"] (ar l5):=⟨rfl,rfl,rfl,y_,rfl,y_,y_⟩
theorem vm(T:Tx K mg ad fd):aa7 T P w base 1 38 ["some","units"] 2 jE:=
 aX (k:=0) T.abJ.f CB qN (λcdv A outer s H E hr=>(aq (aD (dg (sc:=(ar l5)) (N:=wU) (Nt:=["one"]) (Nf:=["units"]) (fi:=[1]) rfl rfl rfl (bM (ae 0)) rfl y_ y_ y_ xp rfl y_ xp (λ_ _ _ _=>(d4 xp (show((["one"]:List Str)++(["units"]:List Str)).Nodup by decide +kernel) rfl (Or.inl rfl))) (λ_ _ _ _=>dJ) (λ_ _ _ _=>(az aU (av (ae 0) ah aa1) (az mr (ae 1) (av (ae 0) ah aa1))))))))
  Ax
theorem ma:aB uk ["ring","top"] (ar kM):=⟨rfl,rfl,rfl,y_,rfl,y_,y_⟩
theorem Fm(T:Tx K mg ad fd):aa7 T P w base 4 39 ["ring","top"] 2 qO:=
 aX (k:=3) T.acg.f ma uR (λcdv A outer s H E hr=>(ai (xn ma.nd (j:=2) rfl v6 (sc:=(ar kM)) (N:=uk) (Nt:=["ask"]) (Nf:=[]) (fi:=[]) rfl rfl rfl (bM (av (ae 0) ah aa1)) rfl y_ y_ y_ xp rfl y_ xp (λ_ _ _ _=>(d4 xp (show((["ask"]:List Str)++([]:List Str)).Nodup by decide +kernel) rfl (Or.inl rfl))) (λ_ _ _ _=>dJ) (λ_ _ _ _=>(av (ae 0) ah aa1)))
  (ai (xn ma.nd (j:=3) rfl v6 (sc:=(ar kM)) (N:=uk) (Nt:=["room"]) (Nf:=["top"]) (fi:=[1]) rfl rfl rfl (bM (av (ae 0) ah aa1)) rfl y_ y_ y_ xp rfl y_ xp (λ_ _ _ _=>(d4 xp (show((["room"]:List Str)++(["top"]:List Str)).Nodup by decide +kernel) rfl (Or.inl rfl))) (λ_ _ _ _=>dJ) (λ_ _ _ _=>(aE (D0 T) T.abz hr (af (ae 1) (af (ae 0) ag)))))
  (ai (aA (i:=4) ma.nd rfl v6 (ay (az aU ah (aE (sy T) T.acf hr (af (ay (az bY (ae 2) (ae 3))) ag)))))
  (aq (aD (bR (af (ae 4) (af (ay (aE (vm T) T.abJ hr (af (ae 2) (af (ae 4) ag)))) (af (ay (aE (vm T) T.abJ hr (af (ae 3) (af (ae 4) ag)))) ag))))))))))
  Ce
theorem lL:aB mD ["ring","k","waiting","cut"] (ar fE):=⟨rfl,rfl,rfl,y_,rfl,y_,y_⟩
theorem vn(T:Tx K mg ad fd):aa7 T P w base 3 40 ["ring","k","waiting","cut"] 4 gU:=
 aX (k:=2) T.ach.f lL iH (λcdv A outer s H E hr=>(ai (aA (i:=4) lL.nd rfl v6 (av (ae 0) ah aa1))
  (aq (aD (aY (Qe rfl) rfl T.acS y_ (af (ay (dg (sc:=(ar fE)) (N:=mD) (Nt:=["j"]) (Nf:=["waiting","cut","asks"]) (fi:=[2,3,4]) rfl rfl rfl (xi rfl T.abb (az bY (ae 1) ah) (aY dU rfl T.aa8 y_ (af (ae 4) ag))) rfl y_ y_ y_ xp rfl y_ xp (λ_ _ _ _=>(d4 xp (show((["j"]:List Str)++(["waiting","cut","asks"]:List Str)).Nodup by decide +kernel) rfl (Or.inl rfl))) (λ_ _ _ _=>(tM (bN (aE (lK T) T.abF hr (af (ae 2) (af (av (av (ae 3) (ae 0) aa1) ah aa1) (af (av (av (ae 3) (ae 0) aa1) ah aa1) ag))))))) (λ_ _ _ _=>(av (ae 1) (ae 0) aa1)))) ag))))))
  si
theorem gz:aB Ih ["ring","k","waiting","free"] (ar um):=⟨rfl,rfl,rfl,y_,rfl,y_,y_⟩
theorem Fn(T:Tx K mg ad fd):aa7 T P w base 4 41 ["ring","k","waiting","free"] 4 qP:=
 aX (k:=3) T.aci.f gz uV (λcdv A outer s H E hr=>(ai (aA (i:=4) gz.nd rfl v6 (ay (aY zD rfl T.abV y_ (af (ay (aE (qY T) T.abu hr (af (ae 0) (af (ae 1) (af (lT T.aba rfl) ag))))) ag))))
  (ai (aA (i:=5) gz.nd rfl v6 (ay (az aU ah (av (ae 2) (ae 1) aa1))))
  (ai (bV YR rfl (bM (ae 4)) (cM (i:=6) gz.nd rfl v6) (aq (bV YR rfl (bM (ae 4)) (cM (i:=7) gz.nd rfl v6) (aq (cL (U7 Rw (ae 6) (ae 7) (bc _)) (aq (aA (i:=5) gz.nd rfl v6 (ay (aY (CQ rfl) rfl T.abx y_ (af (ae 5) (af (az eQ (az bY (av (ae 3) (ae 6) aa1) (av (ae 3) (ae 7) aa1)) (aE (vn T) T.ach hr (af (ae 0) (af (ae 1) (af (ae 2) (af (bR (af (ae 6) (af (ae 7) ag))) ag)))))) ag)))))) ba)))))
  (aq (aD (az mr (ae 5) ah)))))))
  Cf
theorem AN:aB uo ["ring","k","free","part","rest"] (ar jw):=⟨rfl,rfl,rfl,y_,rfl,y_,y_⟩
theorem AO(T:Tx K mg ad fd):aa7 T P w base 2 42 ["ring","k","free","part","rest"] 5 lg:=
 aX (k:=1) T.acj.f AN nZ (λcdv A outer s H E hr=>(aq (aD (dg (sc:=(ar jw)) (N:=uo) (Nt:=["tie","room"]) (Nf:=["ring","k","part","rest"]) (fi:=[0,1,3,4]) rfl rfl rfl (fA rfl T.abe (ae 2)) rfl y_ y_ y_ xp rfl y_ xp (λ_ _ _ _=>(zB rfl (dD (i:=0) xp (show((["tie","room"]:List Str)++(["ring","k","part","rest"]:List Str)).Nodup by decide +kernel) rfl (Or.inl rfl) (dD (i:=1) xp (show((["tie","room"]:List Str)++(["ring","k","part","rest"]:List Str)).Nodup by decide +kernel) rfl (Or.inl rfl) p8)))) (λ_ _ _ _=>dJ) (λ_ _ _ _=>(az eQ (ae 1) (ku (bN (aE (wZ T) T.abI hr (af (ae 2) (af (ae 3) (af (lT T.aba rfl) (af (ae 0) ag)))))) (ae 4) (ae 5))))))))
  yB
theorem a8:aB qw ["ring","top"] (ar fc):=⟨rfl,rfl,rfl,y_,rfl,y_,y_⟩
theorem pQ(T:Tx K mg ad fd):aa7 T P w base 5 43 ["ring","top"] 2 eA:=
 aX (k:=4) T.ack.f a8 fj (λcdv A outer s H E hr=>by exact(@ai _ _ _ _ _ (@aA _ _ _ 2 _ _ _ a8.nd rfl v6 (@ay _ _ _ (aE (Fm T) T.acg hr (@af _ _ _ _ _ _ (ae 0) (@af _ _ _ _ _ _ (ae 1) ag z_) z_))) z_ ade) (@ai _ _ _ _ _ (@aA _ _ _ 3 _ _ _ a8.nd rfl v6 (@av _ _ _ _ _ _ (ae 2) ah aa1) z_ ade) (@ai _ _ _ _ _ (@aA _ _ _ 4 _ _ _ a8.nd rfl v6 (@av _ _ _ _ _ _ (ae 2) ah aa1) z_ ade) (@ai _ _ _ _ _ (@aA _ _ _ 5 _ _ _ a8.nd rfl v6 (@cx _ _ _ _ _ ag) z_ ade) (@ai _ _ _ _ _ (bV YR rfl (fA rfl T.abe (ae 3)) (gD rfl (aN (i:=6) a8.nd rfl v6 (aN (i:=7) a8.nd rfl v6 cN))) (@ai _ _ _ _ _ (@aA _ _ _ 8 _ _ _ a8.nd rfl v6 (@ay _ _ _ (aE (Fn T) T.aci hr (@af _ _ _ _ _ _ (ae 0) (@af _ _ _ _ _ _ (ae 6) (@af _ _ _ _ _ _ (ae 3) (@af _ _ _ _ _ _ (ae 4) ag z_) z_) z_) z_))) z_ ade) (@ai _ _ _ _ _ (@aA _ _ _ 4 _ _ _ a8.nd rfl v6 (@ay _ _ _ (aE (AO T) T.acj hr (@af _ _ _ _ _ _ (ae 0) (@af _ _ _ _ _ _ (ae 6) (@af _ _ _ _ _ _ (ae 4) (@af _ _ _ _ _ _ (ae 8) (@af _ _ _ _ _ _ (@az _ _ _ _ _ _ _ _ eQ (ae 7) (ae 8)) ag z_) z_) z_) z_) z_))) z_ ade) (@aq _ _ _ (kx (gG 5 (aE (Lu T) T.ab0 hr (@af _ _ _ _ _ _ (ae 8) (@af _ _ _ _ _ _ (@av _ _ _ _ _ _ (ae 2) ah aa1) ag z_) z_)))))))) (@aq _ _ _ (@aD _ _ _ _ (cz 5)))))))))
  n4
theorem Fo:aB Ac ["ring","ways"] (ar oX):=⟨rfl,rfl,rfl,y_,rfl,y_,y_⟩
theorem Fp(T:Tx K mg ad fd):aa7 T P w base 1 44 ["ring","ways"] 2 qQ:=
 aX (k:=0) T.acm.f Fo uX (λcdv A outer s H E hr=>(aq (aD (dg (sc:=(ar oX)) (N:=Ac) (Nt:=["ask","way"]) (Nf:=[]) (fi:=[]) rfl rfl rfl (Bm rfl T.abW (av (ae 0) ah aa1) (ae 1)) rfl y_ y_ y_ xp rfl y_ xp (λ_ _ _ _=>(zB rfl (dD (i:=0) xp (show((["ask","way"]:List Str)++([]:List Str)).Nodup by decide +kernel) rfl (Or.inl rfl) (dD (i:=1) xp (show((["ask","way"]:List Str)++([]:List Str)).Nodup by decide +kernel) rfl (Or.inl rfl) p8)))) (λ_ _ _ _=>dJ) (λ_ _ _ _=>(ku (U7 (gF hr.units) (ae 1) (lT T.aba rfl) (bc _)) (av (ae 0) ah aa1) (lT T.abh rfl)))))))
  Cg
theorem Ji:aB Lh ["ring","ways"] (ar yi):=⟨rfl,rfl,rfl,y_,rfl,y_,y_⟩
theorem Jj(T:Tx K mg ad fd):aa7 T P w base 9 45 ["ring","ways"] 2 uY:=
 aX (k:=8) T.acn.f Ji yC (λcdv A outer s H E hr=>(aq (aD (av (aE (Jh T) T.ace hr (af (ae 0) (af (ay (aE (Fp T) T.acm hr (af (ae 0) (af (ae 1) ag)))) ag))) ah aa1))))
  Fg
theorem rL:aB BX ["ring"] (ar nC):=⟨rfl,rfl,rfl,y_,rfl,y_,y_⟩
theorem rM(T:Tx K mg ad fd):aa7 T P w base 8 46 ["ring"] 1 ib:=
 aX (k:=7) T.abK.f rL n5 (λcdv A outer s H E hr=>(ai (aA (i:=1) rL.nd rfl v6 (ay (aE (vk T) T.ab7 hr (af (ae 0) ag))))
  (aq (aD (Nz (af (av (ae 1) ah aa1) (af (aE (pQ T) T.ack hr (af (ae 0) (af (av (ae 1) ah aa1) ag))) (af (av (ae 1) ah aa1) ag))))))))
  yD
theorem v8:aB yj ["part","way","amount"] (ar jx):=⟨rfl,rfl,rfl,y_,rfl,y_,y_⟩
theorem mZ(T:Tx K mg ad fd):aa7 T P w base 4 47 ["part","way","amount"] 3 fK:=
 aX (k:=3) T.abL.f v8 jF (λcdv A outer s H E hr=>(aq (aD (ku (U7 (gF hr.units) (ae 1) (lT T.aba rfl) (bc _)) (aE (vg T) T.abk hr (af (ae 0) (af (ae 2) ag))) (aE (pO T) T.abl hr (af (ae 0) (af (ae 2) ag)))))))
  uZ
theorem rN:aB BY ["sending","slide"] (ar nD):=⟨rfl,rfl,rfl,y_,rfl,y_,y_⟩
theorem rO(T:Tx K mg ad fd):aa7 T P w base 5 48 ["sending","slide"] 2 ic:=
 aX (k:=4) T.abM.f rN n8 (λcdv A outer s H E hr=>(ai (aA (i:=2) rN.nd rfl v6 (iU xj rfl T.abp y_ (af (ae 0) ag)))
  (ai (jg 2 (av (ae 1) ah aa1) (aE (mZ T) T.abL hr (af (gJ (hG 2 (av (ae 1) ah aa1) aa1) (av (ae 2) (av (ae 1) ah aa1) aa1)) (af (av (ae 1) ah aa1) (af (av (ae 1) ah aa1) ag)))))
  (ai (jg 2 (av (ae 1) ah aa1) (aE (mZ T) T.abL hr (af (gJ (hG 2 (av (ae 1) ah aa1) aa1) (av (ae 2) (av (ae 1) ah aa1) aa1)) (af (av (ae 1) ah aa1) (af (av (ae 1) ah aa1) ag)))))
  (aq (aD (cz 2)))))))
  yE
theorem lM:aB mE ["ring","k","way","l","other"] (ar fF):=⟨rfl,rfl,rfl,y_,rfl,y_,y_⟩
theorem lN(T:Tx K mg ad fd):aa7 T P w base 2 49 ["ring","k","way","l","other"] 5 eD:=
 aX (k:=1) T.abN.f lM iI (λcdv A outer s H E hr=>(ai (aA (i:=5) lM.nd rfl v6 (ay (aE (qY T) T.abu hr (af (ae 0) (af (ae 3) (af (ae 4) ag))))))
  (aq (aD (F0 (aY (Qg rfl) rfl T.acP y_ (af (ay (dg (sc:=(ar fF)) (N:=mE) (Nt:=["tie"]) (Nf:=["taken"]) (fi:=[5]) rfl rfl rfl (bM (aE (qY T) T.abu hr (af (ae 0) (af (ae 1) (af (ae 2) ag))))) rfl y_ y_ y_ xp rfl y_ xp (λ_ _ _ _=>(d4 xp (show((["tie"]:List Str)++(["taken"]:List Str)).Nodup by decide +kernel) rfl (Or.inl rfl))) (λ_ _ _ _=>dJ) (λ_ _ _ _=>(gB PX (ae 0) (ae 1) rfl)))) ag)))))))
  sj
theorem mj:aB nE ["thing","asks"] (ar dN):=⟨rfl,rfl,rfl,y_,rfl,y_,y_⟩
theorem ml(T:Tx K mg ad fd):aa7 T P w base 4 50 ["thing","asks"] 2 dz:=
 aX (k:=3) T.aco.f mj dP (λcdv A outer s H E hr=>(ai (cL (U5.pb (oD (kq (bN (wu zy rfl T.abm rfl T.acO y_ (ae 0)))) (m7 (U7 (Bg hr.units) (aY dU rfl T.aa8 y_ (af (ae 0) ag)) ah (bc _))))) (aq (aD rS)) ba)
  (ai (cL (U5.pb (oD (kq (bN (aE (ij T) T.aby hr (af (av (ae 0) ah aa1) (af (ae 1) ag))))) (m7 (kq (bN (aE (ij T) T.aby hr (af (av (ae 0) ah aa1) (af (ae 1) ag)))))))) (aq (aD rS)) ba)
  (aq (aD (kr (aE (AI T) T.abH hr (af (av (ae 0) ah aa1) ag)) (kr (aE (AI T) T.abH hr (af (av (ae 0) ah aa1) ag)) (rm (aE (Cs T) T.abZ hr (af (av (ae 0) ah aa1) ag))))))))))
  lj
theorem CC:aB ET ["ring","sending","k","way"] (ar qx):=⟨rfl,rfl,rfl,y_,rfl,y_,y_⟩
theorem vo(T:Tx K mg ad fd):aa7 T P w base 4 51 ["ring","sending","k","way"] 4 jG:=
 aX (k:=3) T.abO.f CC qR (λcdv A outer s H E hr=>(aq (aD (ku (U7 (gF hr.units) (ae 3) (lT T.aba rfl) (bc _)) (aE (pO T) T.abl hr (af (av (av (av (ae 0) ah aa1) (ae 2) aa1) ah aa1) (af (av (ae 1) (ae 2) aa1) ag))) (av (ae 1) (ae 2) aa1)))))
  Ay
theorem AQ:aB BZ ["ring","sending","slide"] (ar nF):=⟨rfl,rfl,rfl,y_,rfl,y_,y_⟩
theorem rP(T:Tx K mg ad fd):aa7 T P w base 5 52 ["ring","sending","slide"] 3 ie:=
 aX (k:=4) T.abP.f AQ n9 (λcdv A outer s H E hr=>(aq (aD (aE (Jd T) T.ab2 hr (af (ay (aE (vo T) T.abO hr (af (ae 0) (af (ae 1) (af (av (ae 2) ah aa1) (af (av (ae 2) ah aa1) ag)))))) (af (ay (aE (vo T) T.abO hr (af (ae 0) (af (ae 1) (af (av (ae 2) ah aa1) (af (av (ae 2) ah aa1) ag)))))) ag))))))
  yF
theorem CD:aB EU ["ring","sending","thing"] (ar qy):=⟨rfl,rfl,rfl,y_,rfl,y_,y_⟩
theorem CF(T:Tx K mg ad fd):aa7 T P w base 6 53 ["ring","sending","thing"] 3 oa:=
 aX (k:=5) T.acp.f CD qS (λcdv A outer s H E hr=>by exact(@ai _ _ _ _ _ (@cL _ _ _ _ _ _ _ _ (U5.pb (oD (kq (bN (aE (ml T) T.aco hr (@af _ _ _ _ _ _ (ae 2) (@af _ _ _ _ _ _ (@ay _ _ _ (aY dU rfl T.aa8 y_ (@af _ _ _ _ _ _ (@av _ _ _ _ _ _ (ae 0) ah aa1) ag z_))) ag z_) z_)))) (m7 (U7 (gF hr.units) (@av _ _ _ _ _ _ (ae 2) ah aa1) (@av _ _ _ _ _ _ (ae 2) ah aa1) (bc _))))) (@aq _ _ _ (@aD _ _ _ _ rS)) ba) (@ai _ _ _ _ _ (@cL _ _ _ _ _ _ _ _ (kq (bN (aE (lN T) T.abN hr (@af _ _ _ _ _ _ (ae 0) (@af _ _ _ _ _ _ (@av _ _ _ _ _ _ (ae 2) ah aa1) (@af _ _ _ _ _ _ (@av _ _ _ _ _ _ (ae 2) ah aa1) (@af _ _ _ _ _ _ (@av _ _ _ _ _ _ (ae 2) ah aa1) (@af _ _ _ _ _ _ (@av _ _ _ _ _ _ (ae 2) ah aa1) ag z_) z_) z_) z_) z_)))) (@aq _ _ _ (@aD _ _ _ _ rS)) ba) (@aq _ _ _ (@aD _ _ _ _ (kr (aE (gu T) T.abc hr (@af _ _ _ _ _ _ (lT T.abh rfl) (@af _ _ _ _ _ _ (@av _ _ _ _ _ _ (ae 2) ah aa1) ag z_) z_)) (rm (F0 (aE (gu T) T.abc hr (@af _ _ _ _ _ _ (@ay _ _ _ (aE (rP T) T.abP hr (@af _ _ _ _ _ _ (ae 0) (@af _ _ _ _ _ _ (ae 1) (@af _ _ _ _ _ _ (ae 2) ag z_) z_) z_))) (@af _ _ _ _ _ _ (@av _ _ _ _ _ _ (ae 2) ah aa1) ag z_) z_))))))))))
  Az
theorem ja:aB Ii ["ring","sending","thing"] (ar uq):=⟨rfl,rfl,rfl,y_,rfl,y_,y_⟩
theorem Fq(T:Tx K mg ad fd):aa7 T P w base 7 54 ["ring","sending","thing"] 3 qT:=
 aX (k:=6) T.acq.f ja u6 (λcdv A outer s H E hr=>(ai (cL (kq (bN (wu JQ rfl T.abm rfl T.abp y_ (ae 2)))) (aq sE) ba)
  (ai (aA (i:=3) ja.nd rfl v6 (iU xj rfl T.abp y_ (af (ae 1) ag)))
  (ai (bV YR rfl (fA rfl T.abe (ae 2)) (gD rfl (aN (i:=4) ja.nd rfl v6 (aN (i:=5) ja.nd rfl v6 cN))) (ai (cL (kq (bN (aE (CF T) T.acp hr (af (ae 0) (af (ae 3) (af (ae 5) ag)))))) (aq sE) ba)
  (aq (aA (i:=3) ja.nd rfl v6 (aE (rO T) T.abM hr (af (ae 3) (af (ae 5) ag)))))))
  (aq (aD (cz 3)))))))
  Ci
theorem pR:aB Ad ["ring","k","l"] (ar kN):=⟨rfl,rfl,rfl,y_,rfl,y_,y_⟩
theorem yP(T:Tx K mg ad fd):aa7 T P w base 3 55 ["ring","k","l"] 3 jH:=
 aX (k:=2) T.acr.f pR ll (λcdv A outer s H E hr=>by exact(@ai _ _ _ _ _ (bV YR rfl (bM (@bR _ _ _ _ _ _ (@af _ _ _ _ _ _ (@bR _ _ _ _ _ _ (@af _ _ _ _ _ _ (lT T.aba rfl) (@af _ _ _ _ _ _ (lT T.aba rfl) ag z_) z_)) (@af _ _ _ _ _ _ (@bR _ _ _ _ _ _ (@af _ _ _ _ _ _ (lT T.aba rfl) (@af _ _ _ _ _ _ (lT T.abg rfl) ag z_) z_)) (@af _ _ _ _ _ _ (@bR _ _ _ _ _ _ (@af _ _ _ _ _ _ (lT T.abg rfl) (@af _ _ _ _ _ _ (lT T.aba rfl) ag z_) z_)) ag z_) z_) z_))) (cM (i:=3) pR.nd rfl v6) (@aq _ _ _ (@cL _ _ _ _ _ _ _ _ (bN (aE (lN T) T.abN hr (@af _ _ _ _ _ _ (ae 0) (@af _ _ _ _ _ _ (ae 1) (@af _ _ _ _ _ _ (@av _ _ _ _ _ _ (ae 3) ah aa1) (@af _ _ _ _ _ _ (ae 2) (@af _ _ _ _ _ _ (@av _ _ _ _ _ _ (ae 3) ah aa1) ag z_) z_) z_) z_) z_))) (@aq _ _ _ (@aD _ _ _ _ (cz 3))) ba))) (@aq _ _ _ (@aD _ _ _ _ (@bR _ _ _ _ _ _ (@af _ _ _ _ _ _ (lT T.abg rfl) (@af _ _ _ _ _ _ (lT T.abg rfl) ag z_) z_))))))
  vQ
theorem fv:aB rY ["ring","sending","k","l"] (ar fX):=⟨rfl,rfl,rfl,y_,rfl,y_,y_⟩
theorem q5(T:Tx K mg ad fd):aa7 T P w base 6 56 ["ring","sending","k","l"] 4 fk:=
 aX (k:=5) T.acs.f fv gb (λcdv A outer s H E hr=>(ai (aA (i:=4) fv.nd rfl v6 (ay (aE (yP T) T.acr hr (af (ae 0) (af (ae 2) (af (ae 3) ag))))))
  (ai (aA (i:=5) fv.nd rfl v6 (bR (af (ae 2) (af (av (ae 4) ah aa1) (af (ae 3) (af (av (ae 4) ah aa1) ag))))))
  (aq (aD (az NA (ae 5) (bR (af (ay (aE (rP T) T.abP hr (af (ae 0) (af (ae 1) (af (ae 5) ag))))) ag))))))))
  o9
theorem cn:aB Ae ["ring","sending"] (ar kO):=⟨rfl,rfl,rfl,y_,rfl,y_,y_⟩
theorem yQ(T:Tx K mg ad fd):aa7 T P w base 7 57 ["ring","sending"] 2 jI:=
 aX (k:=6) T.acu.f cn lp (λcdv A outer s H E hr=>by exact(@ai _ _ _ _ _ (@aA _ _ _ 2 _ _ _ cn.nd rfl v6 (ae 1) z_ ade) (@ai _ _ _ _ _ (@aA _ _ _ 3 _ _ _ cn.nd rfl v6 (@cx _ _ _ _ _ ag) z_ ade) (@ai _ _ _ _ _ (@aA _ _ _ 4 _ _ _ cn.nd rfl v6 (@ay _ _ _ (aE (fQ T) T.abD hr (@af _ _ _ _ _ _ (ae 0) (@af _ _ _ _ _ _ (@ay _ _ _ (aE (lJ T) T.abt hr (@af _ _ _ _ _ _ (ae 0) (@af _ _ _ _ _ _ (ae 2) ag z_) z_))) ag z_) z_))) z_ ade) (@ai _ _ _ _ _ (oF YR (U7 JR (ae 4) wj (bc _)) (@ai _ _ _ _ _ (@aA _ _ _ 5 _ _ _ cn.nd rfl v6 (@ay _ _ _ (aE (q5 T) T.acs hr (@af _ _ _ _ _ _ (ae 0) (@af _ _ _ _ _ _ (ae 2) (@af _ _ _ _ _ _ (@av _ _ _ _ _ _ (ae 4) ah aa1) (@af _ _ _ _ _ _ (@av _ _ _ _ _ _ (ae 4) ah aa1) ag z_) z_) z_) z_))) z_ ade) (@ai _ _ _ _ _ (kx (gG 3 (ae 5))) (@ai _ _ _ _ _ (@aA _ _ _ 2 _ _ _ cn.nd rfl v6 (@ay _ _ _ (aE (rO T) T.abM hr (@af _ _ _ _ _ _ (ae 2) (@af _ _ _ _ _ _ (ae 5) ag z_) z_))) z_ ade) (@aq _ _ _ (@aA _ _ _ 4 _ _ _ cn.nd rfl v6 (@ay _ _ _ (aE (fQ T) T.abD hr (@af _ _ _ _ _ _ (ae 0) (@af _ _ _ _ _ _ (@ay _ _ _ (aE (lJ T) T.abt hr (@af _ _ _ _ _ _ (ae 0) (@af _ _ _ _ _ _ (ae 2) ag z_) z_))) ag z_) z_))) z_ ade)))))) (@aq _ _ _ (@aD _ _ _ _ (cz 3))))))))
  vR
theorem v9:aB yk ["ask","part"] (ar jy):=⟨rfl,rfl,rfl,y_,rfl,y_,y_⟩
theorem wa(T:Tx K mg ad fd):aa7 T P w base 1 58 ["ask","part"] 2 iK:=
 aX (k:=0) T.acv.f v9 jJ (λcdv A outer s H E hr=>(aq (aD (ku (U7 (gF hr.units) (ae 1) (av (ae 0) ah aa1) (bc _)) (lT T.aba rfl) (lT T.abg rfl)))))
  u7
theorem cq:aB oY ["ring","some"] (ar d7):=⟨rfl,rfl,rfl,y_,rfl,y_,y_⟩
theorem oA(T:Tx K mg ad fd):aa7 T P w base 4 59 ["ring","some"] 2 dQ:=
 aX (k:=3) T.acw.f cq eE (λcdv A outer s H E hr=>(ai (aA (i:=2) cq.nd rfl v6 (lT T.abh rfl))
  (ai (bV YR rfl (bM (ae 1)) (cM (i:=3) cq.nd rfl v6) (aq (aA (i:=2) cq.nd rfl v6 (ay (aE (Fi T) T.ab1 hr (af (ae 2) (af (av (av (av (ae 0) ah aa1) (ae 3) aa1) ah aa1) ag)))))))
  (aq (aD (aE (D0 T) T.abz hr (af (ae 2) (af (lT T.acT rfl) ag))))))))
  mi
theorem kg(T:Tx K mg ad fd):NI P w K mg base 2 "by_lesser_place" cB:=Qk (k:=1) (p:="k") (y:="ring") (T.acy.lam.trans rfl) (RI rfl rfl rfl rfl rfl rfl λ_ _ _ _ _ _=>rfl) cS (λA outer s H f c c' hr=>(aE (g5 T) T.abr hr (af (ae 1) (af (ae 0) ag)))) jK
theorem pS:aB qz ["ring","some"] (ar cV):=⟨rfl,rfl,rfl,y_,rfl,y_,y_⟩
theorem pT(T:Tx K mg ad fd):aa7 T P w base 5 60 ["ring","some"] 2 eF:=
 Qo (k:=4) T.acx.f pS fm (λcdv A outer s H E hcv hr=>(aq (aD (J9 (kg T) hr 0 (Qn T.acy hcv rfl xp rfl rfl rfl rfl rfl rfl) (ae 1) T.abV))))
  oe
theorem yR:aB Af ["ring","k"] (ar kP):=⟨rfl,rfl,rfl,y_,rfl,y_,y_⟩
theorem jW(T:Tx K mg ad fd):aa7 T P w base 1 61 ["ring","k"] 2 eG:=
 aX (k:=0) T.abv.f yR lq (λcdv A outer s H E hr=>(aq (aD (ku (U7 oG (av (av (av (ae 0) ah aa1) (ae 1) aa1) ah aa1) (av (av (av (ae 0) ah aa1) (ae 1) aa1) ah aa1) (bc _)) (lT T.aba rfl) (lT T.abg rfl)))))
  vS
theorem q8:aB Ij ["ring","sending","k","way"] (ar ur):=⟨rfl,rfl,rfl,y_,rfl,y_,y_⟩
theorem w4(T:Tx K mg ad fd):aa7 T P w base 4 62 ["ring","sending","k","way"] 4 i7:=
 aX (k:=3) T.abQ.f q8 u9 (λcdv A outer s H E hr=>(ai (aA (i:=4) q8.nd rfl v6 (av (av (av (ae 0) ah aa1) (ae 2) aa1) ah aa1))
  (ai (aA (i:=5) q8.nd rfl v6 (ay (ku (U7 (gF hr.units) (aE (jW T) T.abv hr (af (ae 0) (af (ae 2) ag))) (lT T.aba rfl) (bc _)) (av (ae 1) (ae 2) aa1) (aE (pO T) T.abl hr (af (ae 4) (af (av (ae 1) (ae 2) aa1) ag))))))
  (aq (aD (aE (pO T) T.abl hr (af (ku (U7 (gF hr.units) (ae 3) (aE (jW T) T.abv hr (af (ae 0) (af (ae 2) ag))) (bc _)) (ae 4) (lT T.abh rfl)) (af (ae 5) ag))))))))
  Ck
theorem bT:aB mF ["ring","slid"] (ar fG):=⟨rfl,rfl,rfl,y_,rfl,y_,y_⟩
theorem vp(T:Tx K mg ad fd):aa7 T P w base 6 63 ["ring","slid"] 2 gX:=
 aX (k:=5) T.acz.f bT iL (λcdv A outer s H E hr=>by exact(@ai _ _ _ _ _ (@aA _ _ _ 2 _ _ _ bT.nd rfl v6 (@ay _ _ _ (aE (lJ T) T.abt hr (@af _ _ _ _ _ _ (ae 0) (@af _ _ _ _ _ _ (ae 1) ag z_) z_))) z_ ade) (@ai _ _ _ _ _ (xn bT.nd (j:=3) rfl v6 (sc:=(ar fG)) (N:=mF) (Nt:=[ "ask" ,"part" ]) (Nf:=[]) (fi:=[]) rfl rfl rfl (Bm rfl T.abW (@av _ _ _ _ _ _ (ae 0) ah aa1) (ae 1)) rfl y_ y_ y_ xp rfl y_ xp (λ_ _ _ _=>(zB rfl (dD (i:=0) xp (show(([ "ask" ,"part" ]:List Str)++([]:List Str)).Nodup by decide +kernel) rfl (Or.inl rfl) (dD (i:=1) xp (show(([ "ask" ,"part" ]:List Str)++([]:List Str)).Nodup by decide +kernel) rfl (Or.inl rfl) p8)))) (λ_ _ _ _=>dJ) (λ_ _ _ _=>(aE (wa T) T.acv hr (@af _ _ _ _ _ _ (ae 0) (@af _ _ _ _ _ _ (ae 1) ag z_) z_)))) (@ai _ _ _ _ _ (@aA _ _ _ 4 _ _ _ bT.nd rfl v6 (@ay _ _ _ (aE (oA T) T.acw hr (@af _ _ _ _ _ _ (ae 0) (@af _ _ _ _ _ _ (ae 2) ag z_) z_))) z_ ade) (@ai _ _ _ _ _ (@aA _ _ _ 5 _ _ _ bT.nd rfl v6 (lT T.abh rfl) z_ ade) (@ai _ _ _ _ _ (bV YR rfl (bM (aE (pT T) T.acx hr (@af _ _ _ _ _ _ (ae 0) (@af _ _ _ _ _ _ (ae 2) ag z_) z_))) (cM (i:=6) bT.nd rfl v6) (@ai _ _ _ _ _ (jg 3 (ae 6) (aE (jW T) T.abv hr (@af _ _ _ _ _ _ (ae 0) (@af _ _ _ _ _ _ (ae 6) ag z_) z_))) (@ai _ _ _ _ _ (@cL _ _ _ _ _ _ _ _ (bN (aE (gu T) T.abc hr (@af _ _ _ _ _ _ (ae 4) (@af _ _ _ _ _ _ (@ay _ _ _ (aE (vg T) T.abk hr (@af _ _ _ _ _ _ (ae 5) (@af _ _ _ _ _ _ (@ay _ _ _ (aE (w4 T) T.abQ hr (@af _ _ _ _ _ _ (ae 0) (@af _ _ _ _ _ _ (ae 1) (@af _ _ _ _ _ _ (ae 6) (@af _ _ _ _ _ _ (@gJ _ _ _ _ _ (hG 3 (ae 6) aa1) (@av _ _ _ _ _ _ (ae 3) (ae 6) aa1)) ag z_) z_) z_) z_))) ag z_) z_))) ag z_) z_))) (@aq _ _ _ (jg 3 (ae 6) (aE (AK T) T.ab8 hr (@af _ _ _ _ _ _ (@gJ _ _ _ _ _ (hG 3 (ae 6) aa1) (@av _ _ _ _ _ _ (ae 3) (ae 6) aa1)) ag z_)))) ba) (@aq _ _ _ (@aA _ _ _ 5 _ _ _ bT.nd rfl v6 (@ay _ _ _ (aE (vg T) T.abk hr (@af _ _ _ _ _ _ (ae 5) (@af _ _ _ _ _ _ (@ay _ _ _ (aE (w4 T) T.abQ hr (@af _ _ _ _ _ _ (ae 0) (@af _ _ _ _ _ _ (ae 1) (@af _ _ _ _ _ _ (ae 6) (@af _ _ _ _ _ _ (@gJ _ _ _ _ _ (hG 3 (ae 6) aa1) (@av _ _ _ _ _ _ (ae 3) (ae 6) aa1)) ag z_) z_) z_) z_))) ag z_) z_))) z_ ade))))) (@aq _ _ _ (@aD _ _ _ _ (cz 3)))))))))
  sq
theorem m4:aB yl ["ring","sending"] (ar jz):=⟨rfl,rfl,rfl,y_,rfl,y_,y_⟩
theorem m5(T:Tx K mg ad fd):aa7 T P w base 8 64 ["ring","sending"] 2 fL:=
 aX (k:=7) T.abR.f m4 jL (λcdv A outer s H E hr=>(ai (aA (i:=2) m4.nd rfl v6 (aE (yQ T) T.acu hr (af (ae 0) (af (ae 1) ag))))
  (aq (aD (NM 2 (bL 2 (af (aE (vp T) T.acz hr (af (ae 0) (af (ay (Nu 2 (aE (Fq T) T.acq hr (af (ae 0) (af (ae 1) (af (ae 2) ag)))))) ag))) ag)))))))
  va
theorem gv:aB Ag ["ring"] (ar kQ):=⟨rfl,rfl,rfl,y_,rfl,y_,y_⟩
theorem yS(T:Tx K mg ad fd):aa7 T P w base 10 65 ["ring"] 1 jM:=
 aX (k:=9) T.acA.f gv lr (λcdv A outer s H E hr=>(ai (aA (i:=1) gv.nd rfl v6 (ay (aE (rM T) T.abK hr (af (ae 0) ag))))
  (ai (aA (i:=2) gv.nd rfl v6 (ay (aE (m5 T) T.abR hr (af (ae 0) (af (av (ae 1) ah aa1) ag)))))
  (ai (aA (i:=3) gv.nd rfl v6 (ay (iU xj rfl T.abp y_ (af (av (ae 2) ah aa1) ag))))
  (aq (aD (bR (af (ae 3) (af (ay (aE (Jj T) T.acn hr (af (ae 0) (af (ae 3) ag)))) (af (ae 2) (af (ae 1) ag)))))))))))
  vT
theorem jX:aB Ah ["_law_script","_law_k"] (ar kR):=⟨rfl,rfl,rfl,y_,rfl,y_,y_⟩
theorem gw(T:Tx K mg ad fd):aa7 T P w base 1 66 ["_law_script","_law_k"] 2 cW:=
 aX (k:=0) T.abn.f jX lu (λcdv A outer s H E hr=>(ai (aA (i:=2) jX.nd rfl v6 ah)
  (ai (cL (U7 oG (ae 1) (aY dU rfl T.aa8 y_ (af (ae 0) ag)) (bc _)) (aq (aA (i:=2) jX.nd rfl v6 (av (ae 0) (ae 1) aa1))) ba)
  (aq (aD (cx (af (ae 2) (af (az cY (az bY (az bY (az cY (ae 2) ah) (az aU (az aU ah (ae 1)) (ae 1))) ah) ah) (af (gB PQ (ae 2) (az F8 ah ah) (bc _)) ag)))))))))
  vU
theorem fR:aB B0 ["_law_state","_law_many"] (ar nG):=⟨rfl,rfl,rfl,y_,rfl,y_,y_⟩
theorem aW(T:Tx K mg ad fd):aa7 T P w base 1 67 ["_law_state","_law_many"] 2 aQ:=
 aX (k:=0) T.aa9.f fR og (λcdv A outer s H E hr=>(ai (cL (bN (gJ (hG 0 ah aa1) (av (ae 0) ah aa1))) (ai (aA (i:=2) fR.nd rfl v6 (az cY (gJ (hG 0 ah aa1) (av (ae 0) ah aa1)) (ae 1)))
  (ai (jg 0 ah (az mr (gJ (hG 0 ah aa1) (av (ae 0) ah aa1)) (ae 1)))
  (ai (jg 0 ah (gB PP (gJ (hG 0 ah aa1) (av (ae 0) ah aa1)) ah (bc _)))
  (aq (aD (cz 2)))))) ba)
  (ai (aA (i:=3) fR.nd rfl v6 ah)
  (ai (bV YR rfl (gj rfl T.abb (az bY ah (az aU ah (iU LN rfl T.abU y_ (af (gB PP (ae 1) (az F8 ah ah) (bc _)) ag))))) (cM (i:=4) fR.nd rfl v6) (ai (jg 0 ah (az cY (az bY (az aU (gJ (hG 0 ah aa1) (av (ae 0) ah aa1)) ah) ah) ah))
  (aq (aA (i:=3) fR.nd rfl v6 (ay (az bY (az aU (ae 3) ah) (az cY (az aU (gJ (hG 0 ah aa1) (av (ae 0) ah aa1)) (gJ (hG 0 ah aa1) (av (ae 0) ah aa1))) ah)))))))
  (aq (aD (az cY (az mr (ae 3) ah) (ae 1))))))))
  yG
theorem eN:aB kT ["_law_state","_law_many"] (ar fP):=⟨rfl,rfl,rfl,y_,rfl,y_,y_⟩
theorem yT(T:Tx K mg ad fd):aa7 T P w base 2 68 ["_law_state","_law_many"] 2 jO:=
 aX (k:=1) T.acB.f eN lx (λcdv A outer s H E hr=>(ai (aA (i:=2) eN.nd rfl v6 wm)
  (ai (aA (i:=3) eN.nd rfl v6 (ay (Nm (dg (sc:=(ar fP)) (N:=kT) (Nt:=["_law_k"]) (Nf:=["_law_letters","_law_state"]) (fi:=[2,0]) rfl rfl rfl (gj rfl T.abb (az bY ah (cD (aW T) T.aa9 hr 0 0 (bL 0 (af ah ag))))) rfl y_ y_ y_ xp rfl y_ xp (λ_ _ _ _=>(d4 xp (show((["_law_k"]:List Str)++(["_law_letters","_law_state"]:List Str)).Nodup by decide +kernel) rfl (Or.inl rfl))) (λ_ _ _ _=>dJ) (λ_ _ _ _=>(av (ae 1) (cD (aW T) T.aa9 hr 0 2 (bL 2 (af ah ag))) aa1))))))
  (ai (aA (i:=4) eN.nd rfl v6 (ay (cD (aW T) T.aa9 hr 0 0 (bL 0 (af (ay (aY dU rfl T.aa8 y_ (af (ae 3) ag))) ag)))))
  (ai (aA (i:=5) eN.nd rfl v6 (ay (cD (aW T) T.aa9 hr 0 0 (bL 0 (af ah ag)))))
  (aq (aD (dg (sc:=(ar fP)) (N:=kT) (Nt:=["_law_k"]) (Nf:=["_law_base","_law_at","_law_letters","_law_turn"]) (fi:=[3,4,2,5]) rfl rfl rfl (gj rfl T.abb (ae 1)) rfl y_ y_ y_ xp rfl y_ xp (λ_ _ _ _=>(d4 xp (show((["_law_k"]:List Str)++(["_law_base","_law_at","_law_letters","_law_turn"]:List Str)).Nodup by decide +kernel) rfl (Or.inl rfl))) (λ_ _ _ _=>dJ) (λ_ _ _ _=>(az bY (az bY (tQ (ae 1) trivial (ae 2)) (av (ae 3) (az cY (az bY (ae 4) (ae 0)) ah) aa1)) (tQ (ae 1) (az bY (ae 2) ah) trivial)))))))))))
  vV
theorem g7:aB EV ["_law_top_here","_law_bottom"] (ar qC):=⟨rfl,rfl,rfl,y_,rfl,y_,y_⟩
theorem dR(T:Tx K mg ad fd):aa7 T P w base 1 69 ["_law_top_here","_law_bottom"] 2 cm:=
 aX (k:=0) T.abf.f g7 qU (λcdv A outer s H E hr=>(ai (aA (i:=2) g7.nd rfl v6 (ay (aY Ga rfl T.abT y_ (af (ae 0) ag))))
  (ai (aA (i:=3) g7.nd rfl v6 (ay (aY Ga rfl T.abT y_ (af (ae 1) ag))))
  (ai (oF YR (U7 (Bg hr.units) (ae 2) ah (bc _)) (aq (LP (i:=2) (j:=3) rfl g7.nd rfl rfl xp rfl rfl (az cY (ae 3) (ae 2)) (ae 2) rfl)))
  (ai (cL (U7 oG (ae 1) ah (bc _)) (aq (aA (i:=3) g7.nd rfl v6 (az eQ ah (ae 3)))) ba)
  (aq (aD (bR (af (az mr (ae 0) (ae 3)) (af (az mr (ae 1) (ae 3)) ag))))))))))
  AC
theorem iQ:aB ym ["_law_state","_law_least","_law_kind"] (ar jA):=⟨rfl,rfl,rfl,y_,rfl,y_,y_⟩
theorem iR(T:Tx K mg ad fd):aa7 T P w base 2 70 ["_law_state","_law_least","_law_kind"] 3 dC:=
 aX (k:=1) T.abw.f iQ jP (λcdv A outer s H E hr=>by exact(@ai _ _ _ _ _ (@aA _ _ _ 3 _ _ _ iQ.nd rfl v6 (@ay _ _ _ (@az _ _ _ _ _ _ _ _ bY ah (cD (aW T) T.aa9 hr 0 0 (bL 0 (@af _ _ _ _ _ _ (@av _ _ _ _ _ _ (@cx _ _ _ _ _ (@af _ _ _ _ _ _ ah (@af _ _ _ _ _ _ ah (@af _ _ _ _ _ _ ah (@af _ _ _ _ _ _ ah (@af _ _ _ _ _ _ ah ag z_) z_) z_) z_) z_)) (ae 2) aa1) ag z_))))) z_ ade) (@ai _ _ _ _ _ (@aA _ _ _ 4 _ _ _ iQ.nd rfl v6 (@ay _ _ _ (@az _ _ _ _ _ _ _ _ bY (ae 1) (cD (aW T) T.aa9 hr 0 0 (bL 0 (@af _ _ _ _ _ _ (@av _ _ _ _ _ _ (@cx _ _ _ _ _ (@af _ _ _ _ _ _ ah (@af _ _ _ _ _ _ ah (@af _ _ _ _ _ _ ah (@af _ _ _ _ _ _ ah (@af _ _ _ _ _ _ (@az _ _ _ _ _ _ _ _ F8 ah ah) ag z_) z_) z_) z_) z_)) (ae 2) aa1) ag z_))))) z_ ade) (@aq _ _ _ (@aD _ _ _ _ (aE (dR T) T.abf hr (@af _ _ _ _ _ _ (ae 4) (@af _ _ _ _ _ _ (ae 3) ag z_) z_)))))))
  vb
theorem cX:aB Ai ["_law_state","_law_ties_here","_law_kind"] (ar kU):=⟨rfl,rfl,rfl,y_,rfl,y_,y_⟩
theorem yU(T:Tx K mg ad fd):aa7 T P w base 3 71 ["_law_state","_law_ties_here","_law_kind"] 3 jQ:=
 aX (k:=2) T.acC.f cX lA (λcdv A outer s H E hr=>(ai (aA (i:=3) cX.nd rfl v6 (ay (cD (aW T) T.aa9 hr 0 0 (bL 0 (af ah ag)))))
  (ai (aA (i:=4) cX.nd rfl v6 (ay (cD (iR T) T.abw hr 0 0 (bL 0 (af ah (af (ae 2) ag))))))
  (ai (cL (U7 (gF hr.units) (ae 3) ah (bc _)) (aq (aA (i:=4) cX.nd rfl v6 (bR (af ah (af ah ag))))) ba)
  (ai (aA (i:=5) cX.nd rfl v6 (cx (af (ae 4) ag)))
  (ai (oF YR (U7 oG (gJ (Na 5 rfl T.aa8) (aY dU rfl T.aa8 PySem.boot_len (af (ae 5) ag))) (ae 1) (bc _)) (ai (aA (i:=6) cX.nd rfl v6 (ay (cD (iR T) T.abw hr 0 0 (bL 0 (af ah (af (ae 2) ag))))))
  (aq (kx (gG 5 (av (cx (af (ae 4) (af (ae 6) ag))) (iU LN rfl T.abU y_ (af (gB (gF hr.units) (ae 3) ah (bc _)) ag)) aa1))))))
  (aq (aD (cz 5)))))))))
  vW
theorem lO:aB B1 ["_law_state","_law_shape","_law_places","_law_k"] (ar nH):=⟨rfl,rfl,rfl,y_,rfl,y_,y_⟩
theorem AR(T:Tx K mg ad fd):aa7 T P w base 2 72 ["_law_state","_law_shape","_law_places","_law_k"] 4 lB:=
 aX (k:=1) T.acD.f lO oh (λcdv A outer s H E hr=>(ai (aA (i:=4) lO.nd rfl v6 (ay (cD (aW T) T.aa9 hr 0 0 (bL 0 (af (ae 2) ag)))))
  (ai (aA (i:=5) lO.nd rfl v6 (az cY (az bY (az bY (ae 4) ah) (cD (aW T) T.aa9 hr 0 0 (bL 0 (af (az eQ (ae 2) ah) ag)))) (ae 2)))
  (ai (cL (U7 (gF hr.units) (ae 1) ah (bc _)) (aq (aD (bR (af (az cY (ae 3) (ae 2)) (af (az cY (az bY (ae 3) (az mr (ae 2) ah)) (ae 2)) ag))))) ba)
  (ai (cL (U7 (gF hr.units) (ae 1) ah (bc _)) (aq (aD (bR (af (ay (az aU (az cY (ae 3) ah) (az eQ (ae 2) ah))) (af (ay (az aU (az eQ ah (az cY (ae 3) ah)) (az eQ (ae 2) ah))) ag))))) ba)
  (ai (cL (U7 (gF hr.units) (ae 1) ah (bc _)) (aq (aD (bR (af ah (af (ay (az bY ah (az cY (ae 5) (az eQ (ae 2) ah)))) ag))))) ba)
  (aq (aD (bR (af (ae 4) (af (ae 5) ag)))))))))))
  yH
theorem bA:aB B2 ["_law_script","_law_at","_law_most","_law_count"] (ar nI):=⟨rfl,rfl,rfl,y_,rfl,y_,y_⟩
theorem AS(T:Tx K mg ad fd):aa7 T P w base 4 73 ["_law_script","_law_at","_law_most","_law_count"] 4 lC:=
 aX (k:=3) T.acE.f bA oj (λcdv A outer s H E hr=>by exact(@ai _ _ _ _ _ (@aA _ _ _ 4 _ _ _ bA.nd rfl v6 (aE (gw T) T.abn hr (@af _ _ _ _ _ _ (ae 0) (@af _ _ _ _ _ _ (ae 1) ag z_) z_)) z_ ade) (@ai _ _ _ _ _ (@aA _ _ _ 5 _ _ _ bA.nd rfl v6 (@ay _ _ _ (@az _ _ _ _ _ _ _ _ bY ah (cD (aW T) T.aa9 hr 0 4 (bL 4 (@af _ _ _ _ _ _ (@az _ _ _ _ _ _ _ _ eQ (ae 2) ah) ag z_))))) z_ ade) (@ai _ _ _ _ _ (@aA _ _ _ 6 _ _ _ bA.nd rfl v6 (@ay _ _ _ (cD (aW T) T.aa9 hr 0 4 (bL 4 (@af _ _ _ _ _ _ (@ay _ _ _ (@az _ _ _ _ _ _ _ _ bY (ae 3) ah)) ag z_)))) z_ ade) (@ai _ _ _ _ _ (@aA _ _ _ 7 _ _ _ bA.nd rfl v6 (@ay _ _ _ (@cx _ _ _ _ _ (@af _ _ _ _ _ _ (@ay _ _ _ (cD (aW T) T.aa9 hr 0 4 (bL 4 (@af _ _ _ _ _ _ ah ag z_)))) (@af _ _ _ _ _ _ (@ay _ _ _ (cD (aW T) T.aa9 hr 0 4 (bL 4 (@af _ _ _ _ _ _ ah ag z_)))) ag z_) z_))) z_ ade) (@ai _ _ _ _ _ (@aA _ _ _ 8 _ _ _ bA.nd rfl v6 (@ay _ _ _ (cD (aW T) T.aa9 hr 0 4 (bL 4 (@af _ _ _ _ _ _ ah ag z_)))) z_ ade) (@ai _ _ _ _ _ (@aA _ _ _ 9 _ _ _ bA.nd rfl v6 (@ay _ _ _ (cD (yT T) T.acB hr 0 4 (bL 4 (@af _ _ _ _ _ _ (ae 6) ag z_)))) z_ ade) (@ai _ _ _ _ _ (@aA _ _ _ 10 _ _ _ bA.nd rfl v6 (@ay _ _ _ (aE (yU T) T.acC hr (@af _ _ _ _ _ _ (aE (gw T) T.abn hr (@af _ _ _ _ _ _ (ae 0) (@af _ _ _ _ _ _ (@ay _ _ _ (@az _ _ _ _ _ _ _ _ bY (ae 1) ah)) ag z_) z_)) (@af _ _ _ _ _ _ (ae 5) (@af _ _ _ _ _ _ (@av _ _ _ _ _ _ (ae 7) ah aa1) ag z_) z_) z_))) z_ ade) (@ai _ _ _ _ _ (@aA _ _ _ 4 _ _ _ bA.nd rfl v6 (aE (gw T) T.abn hr (@af _ _ _ _ _ _ (ae 0) (@af _ _ _ _ _ _ (@ay _ _ _ (@az _ _ _ _ _ _ _ _ bY (ae 1) ah)) ag z_) z_)) z_ ade) (@ai _ _ _ _ _ (@aA _ _ _ 11 _ _ _ bA.nd rfl v6 (@cx _ _ _ _ _ ag) z_ ade) (@ai _ _ _ _ _ (bV YR rfl (gj rfl T.abb (ae 6)) (cM (i:=12) bA.nd rfl v6) (@ai _ _ _ _ _ (xo (gD rfl (aN (i:=13) bA.nd rfl v6 (aN (i:=14) bA.nd rfl v6 cN))) (cD (AR T) T.acD hr 0 4 (bL 4 (@af _ _ _ _ _ _ (ae 8) (@af _ _ _ _ _ _ (ae 5) (@af _ _ _ _ _ _ (ae 12) ag z_) z_) z_)))) (@aq _ _ _ (kx (gG 11 (@bR _ _ _ _ _ _ (@af _ _ _ _ _ _ (@av _ _ _ _ _ _ (ae 9) (ae 12) aa1) (@af _ _ _ _ _ _ (ae 13) (@af _ _ _ _ _ _ (ae 14) (@af _ _ _ _ _ _ (@ay _ _ _ (cD (iR T) T.abw hr 0 4 (bL 4 (@af _ _ _ _ _ _ ah (@af _ _ _ _ _ _ (@av _ _ _ _ _ _ (ae 7) ah aa1) ag z_) z_)))) ag z_) z_) z_) z_))))))) (@aq _ _ _ (@aD _ _ _ _ (@bR _ _ _ _ _ _ (@af _ _ _ _ _ _ (ae 10) (@af _ _ _ _ _ _ (ae 11) ag z_) z_)))))))))))))))
  yI
theorem cg:aB B3 ["_law_ring_here","_law_k","_law_way"] (ar nJ):=⟨rfl,rfl,rfl,y_,rfl,y_,y_⟩
theorem rQ(T:Tx K mg ad fd):aa7 T P w base 1 74 ["_law_ring_here","_law_k","_law_way"] 3 ig:=
 aX (k:=0) T.abS.f cg om (λcdv A outer s H E hr=>(ai (xo (gD rfl (aN (i:=3) cg.nd rfl v6 (aN (i:=4) cg.nd rfl v6 (aN (i:=5) cg.nd rfl v6 (aN (i:=6) cg.nd rfl v6 cN))))) (av (av (ae 0) ah aa1) (ae 1) aa1))
  (ai (cL (U7 (gF hr.units) (ae 2) wm (bc _)) (aq (LP (i:=4) (j:=5) rfl cg.nd rfl rfl xp rfl rfl (ae 5) (ae 4) rfl)) ba)
  (ai (aA (i:=7) cg.nd rfl v6 (cx ag))
  (ai (oF YR (U7 (Bg hr.units) (ae 4) (ae 5) (bc _)) (ai (kx (gG 7 (ae 4)))
  (aq (aA (i:=4) cg.nd rfl v6 (az cY (az bY (ae 4) ah) (aY dU rfl T.aa8 y_ (af (av (ae 0) ah aa1) ag)))))))
  (aq (aD (cz 7))))))))
  yK
theorem AU:aB B4 ["_law_one","_law_other"] (ar nK):=⟨rfl,rfl,rfl,y_,rfl,y_,y_⟩
theorem ik(T:Tx K mg ad fd):aa7 T P w base 2 75 ["_law_one","_law_other"] 2 cT:=
 aX (k:=1) T.abo.f AU oo (λcdv A outer s H E hr=>(aq (aD (aE (dR T) T.abf hr (af (ay (az bY (az aU (av (ae 0) ah aa1) (av (ae 1) ah aa1)) (az aU (av (ae 1) ah aa1) (av (ae 0) ah aa1)))) (af (ay (az aU (av (ae 0) ah aa1) (av (ae 1) ah aa1))) ag))))))
  yL
theorem a5:aB rZ ["_law_ring_here"] (ar fY):=⟨rfl,rfl,rfl,y_,rfl,y_,y_⟩
theorem rf(T:Tx K mg ad fd):aa7 T P w base 3 76 ["_law_ring_here"] 1 fu:=
 aX (k:=2) T.acF.f a5 gh (λcdv A outer s H E hr=>by exact(@ai _ _ _ _ _ (@aA _ _ _ 1 _ _ _ a5.nd rfl v6 (@cx _ _ _ _ _ (@af _ _ _ _ _ _ (@ay _ _ _ (@cx _ _ _ _ _ (@af _ _ _ _ _ _ (@ay _ _ _ (@cx _ _ _ _ _ ag)) (@af _ _ _ _ _ _ (@ay _ _ _ (LS (@cx _ _ _ _ _ (@af _ _ _ _ _ _ (@bR _ _ _ _ _ _ (@af _ _ _ _ _ _ ah (@af _ _ _ _ _ _ ah ag z_) z_)) ag z_)) (aY dU rfl T.aa8 y_ (@af _ _ _ _ _ _ (@av _ _ _ _ _ _ (ae 0) ah aa1) ag z_)))) ag z_) z_))) ag z_)) z_ ade) (@ai _ _ _ _ _ (bV YR rfl (fA rfl T.abe (@av _ _ _ _ _ _ (ae 0) ah aa1)) (gD rfl (aN (i:=2) a5.nd rfl v6 (aN (i:=3) a5.nd rfl v6 cN))) (@ai _ _ _ _ _ (@aA _ _ _ 4 _ _ _ a5.nd rfl v6 (@cx _ _ _ _ _ ag) z_ ade) (@ai _ _ _ _ _ (bV YR rfl (bM (ae 1)) (LW rfl (aN (i:=5) a5.nd rfl v6 (aN (i:=6) a5.nd rfl v6 cN))) (@aq _ _ _ (bV YR rfl (bM (@cx _ _ _ _ _ (@af _ _ _ _ _ _ wm (@af _ _ _ _ _ _ wm ag z_) z_))) (cM (i:=7) a5.nd rfl v6) (@ai _ _ _ _ _ (@aA _ _ _ 8 _ _ _ a5.nd rfl v6 (iU xj rfl T.abp y_ (@af _ _ _ _ _ _ (ae 6) ag z_)) z_ ade) (@ai _ _ _ _ _ (bV YR rfl (bM (aE (rQ T) T.abS hr (@af _ _ _ _ _ _ (ae 0) (@af _ _ _ _ _ _ (ae 2) (@af _ _ _ _ _ _ (ae 7) ag z_) z_) z_))) (cM (i:=9) a5.nd rfl v6) (@aq _ _ _ (jg 8 (ae 9) (aE (ik T) T.abo hr (@af _ _ _ _ _ _ (@gJ _ _ _ _ _ (hG 8 (ae 9) aa1) (@av _ _ _ _ _ _ (ae 8) (ae 9) aa1)) (@af _ _ _ _ _ _ (@av _ _ _ _ _ _ (ae 3) ah aa1) ag z_) z_))))) (@aq _ _ _ (kx (gG 4 (@cx _ _ _ _ _ (@af _ _ _ _ _ _ (@ay _ _ _ (@az _ _ _ _ _ _ _ _ bY (ae 5) (@cx _ _ _ _ _ (@af _ _ _ _ _ _ (ae 7) ag z_)))) (@af _ _ _ _ _ _ (ae 8) ag z_) z_)))))))))) (@aq _ _ _ (@aA _ _ _ 1 _ _ _ a5.nd rfl v6 (ae 4) z_ ade))))) (@aq _ _ _ (@aD _ _ _ _ (cz 1))))))
  pL
theorem yV:aB Aj ["_law_one","_law_other"] (ar kW):=⟨rfl,rfl,rfl,y_,rfl,y_,y_⟩
theorem bQ(T:Tx K mg ad fd):aa7 T P w base 1 77 ["_law_one","_law_other"] 2 bC:=
 aX (k:=0) T.abd.f yV lD (λcdv A outer s H E hr=>(aq (aD (gB oG (az aU (av (ae 0) ah aa1) (av (ae 1) ah aa1)) (az aU (av (ae 1) ah aa1) (av (ae 0) ah aa1)) (bc _)))))
  vY
theorem fw:aB EW ["_law_ring_here","_law_loads_here"] (ar qD):=⟨rfl,rfl,rfl,y_,rfl,y_,y_⟩
theorem CG(T:Tx K mg ad fd):aa7 T P w base 2 78 ["_law_ring_here","_law_loads_here"] 2 ou:=
 aX (k:=1) T.acG.f fw qV (λcdv A outer s H E hr=>(ai (aA (i:=2) fw.nd rfl v6 (bR (af ah (af ah ag))))
  (ai (bV YR rfl (fA rfl T.abe (ae 1)) (gD rfl (aN (i:=3) fw.nd rfl v6 (aN (i:=4) fw.nd rfl v6 cN))) (ai (aA (i:=5) fw.nd rfl v6 (ay (aE (dR T) T.abf hr (af (ay (az aU (av (ae 4) ah aa1) (av (av (av (ae 0) ah aa1) (ae 3) aa1) ah aa1))) (af (ay (az aU (av (ae 4) ah aa1) (av (av (av (ae 0) ah aa1) (ae 3) aa1) ah aa1))) ag)))))
  (aq (cL (bN (aE (bQ T) T.abd hr (af (ae 2) (af (ae 5) ag)))) (aq (aA (i:=2) fw.nd rfl v6 (ae 5))) ba))))
  (aq (aD (cz 2))))))
  AE
theorem dX:aB B5 ["_law_ring_here","_law_rows"] (ar nL):=⟨rfl,rfl,rfl,y_,rfl,y_,y_⟩
theorem AV(T:Tx K mg ad fd):aa7 T P w base 3 79 ["_law_ring_here","_law_rows"] 2 lE:=
 aX (k:=2) T.acH.f dX oy (λcdv A outer s H E hr=>(ai (aA (i:=2) dX.nd rfl v6 wj)
  (ai (bV YR rfl (bM (ae 1)) (LW rfl (aN (i:=3) dX.nd rfl v6 (aN (i:=4) dX.nd rfl v6 cN))) (ai (aA (i:=5) dX.nd rfl v6 (ay (aE (CG T) T.acG hr (af (ae 0) (af (ae 4) ag)))))
  (aq (cL (U5.pb (oD (U7 Gh (ae 2) wj (bc _)) (m7 (bN (aE (bQ T) T.abd hr (af (ae 5) (af (ae 2) ag))))))) (aq (aA (i:=2) dX.nd rfl v6 (ae 5))) ba))))
  (aq (aD (cz 2))))))
  yM
theorem yW:aB Ak ["_law_one","_law_other"] (ar kX):=⟨rfl,rfl,rfl,y_,rfl,y_,y_⟩
theorem yX(T:Tx K mg ad fd):aa7 T P w base 2 80 ["_law_one","_law_other"] 2 jT:=
 aX (k:=1) T.acI.f yW lF (λcdv A outer s H E hr=>(aq (aD (aE (dR T) T.abf hr (af (az eQ (az aU (av (ae 0) ah aa1) (av (ae 1) ah aa1)) (az aU (av (ae 1) ah aa1) (av (ae 0) ah aa1))) (af (ay (az aU (av (ae 0) ah aa1) (av (ae 1) ah aa1))) ag))))))
  vZ
theorem cu:aB Al ["_law_ring_here","_law_sending"] (ar kY):=⟨rfl,rfl,rfl,y_,rfl,y_,y_⟩
theorem yY(T:Tx K mg ad fd):aa7 T P w base 3 81 ["_law_ring_here","_law_sending"] 2 jU:=
 aX (k:=2) T.acJ.f cu lG (λcdv A outer s H E hr=>by exact(@ai _ _ _ _ _ (@aA _ _ _ 2 _ _ _ cu.nd rfl v6 (LS (@cx _ _ _ _ _ (@af _ _ _ _ _ _ (@bR _ _ _ _ _ _ (@af _ _ _ _ _ _ ah (@af _ _ _ _ _ _ ah ag z_) z_)) ag z_)) (aY dU rfl T.aa8 y_ (@af _ _ _ _ _ _ (@av _ _ _ _ _ _ (ae 0) ah aa1) ag z_))) z_ ade) (@ai _ _ _ _ _ (bV YR rfl (fA rfl T.abe (ae 1)) (gD rfl (aN (i:=3) cu.nd rfl v6 (aN (i:=4) cu.nd rfl v6 cN))) (@aq _ _ _ (bV YR rfl (bM (@cx _ _ _ _ _ (@af _ _ _ _ _ _ (@bR _ _ _ _ _ _ (@af _ _ _ _ _ _ wm (@af _ _ _ _ _ _ (ae 4) ag z_) z_)) (@af _ _ _ _ _ _ (@bR _ _ _ _ _ _ (@af _ _ _ _ _ _ wm (@af _ _ _ _ _ _ (@ay _ _ _ (aE (yX T) T.acI hr (@af _ _ _ _ _ _ (@av _ _ _ _ _ _ (@av _ _ _ _ _ _ (@av _ _ _ _ _ _ (ae 0) ah aa1) (ae 3) aa1) ah aa1) (@af _ _ _ _ _ _ (ae 4) ag z_) z_))) ag z_) z_)) ag z_) z_))) (gD rfl (aN (i:=5) cu.nd rfl v6 (aN (i:=6) cu.nd rfl v6 cN))) (@aq _ _ _ (bV YR rfl (bM (aE (rQ T) T.abS hr (@af _ _ _ _ _ _ (ae 0) (@af _ _ _ _ _ _ (ae 3) (@af _ _ _ _ _ _ (ae 5) ag z_) z_) z_))) (cM (i:=7) cu.nd rfl v6) (@aq _ _ _ (jg 2 (ae 7) (aE (ik T) T.abo hr (@af _ _ _ _ _ _ (@gJ _ _ _ _ _ (hG 2 (ae 7) aa1) (@av _ _ _ _ _ _ (ae 2) (ae 7) aa1)) (@af _ _ _ _ _ _ (ae 6) ag z_) z_))))))))) (@aq _ _ _ (@aD _ _ _ _ (cz 2))))))
  v5
theorem bU:aB mG ["_law_ring_here","_law_rows","_law_sending","_law_most"] (ar fH):=⟨rfl,rfl,rfl,y_,rfl,y_,y_⟩
theorem vq(T:Tx K mg ad fd):aa7 T P w base 9 82 ["_law_ring_here","_law_rows","_law_sending","_law_most"] 4 gY:=
 aX (k:=8) T.acK.f bU iP (λcdv A outer s H E hr=>(ai (xo (gD rfl (aN (i:=4) bU.nd rfl v6 (aN (i:=5) bU.nd rfl v6 cN))) (aE (m5 T) T.abR hr (af (ae 0) (af (ae 2) ag))))
  (ai (aA (i:=6) bU.nd rfl v6 (ay (aE (yY T) T.acJ hr (af (ae 0) (af (ae 2) ag)))))
  (ai (xn bU.nd (j:=7) rfl v6 (sc:=(ar fH)) (N:=mG) (Nt:=["_law_ways","_law_behind"]) (Nf:=["_law_told"]) (fi:=[5]) rfl rfl rfl (bM (ae 1)) rfl y_ y_ y_ xp rfl y_ xp (λ_ _ _ _=>(QL rfl (dD (i:=0) xp (show((["_law_ways","_law_behind"]:List Str)++(["_law_told"]:List Str)).Nodup by decide +kernel) rfl (Or.inl rfl) (dD (i:=1) xp (show((["_law_ways","_law_behind"]:List Str)++(["_law_told"]:List Str)).Nodup by decide +kernel) rfl (Or.inl rfl) p8)))) (λ_ _ _ _=>(tM (U7 (gF hr.units) (ae 0) (ae 2) (bc _)))) (λ_ _ _ _=>(ae 1)))
  (ai (cL (U7 (Bg hr.units) (aY dU rfl T.aa8 y_ (af (ae 7) ag)) ah (bc _)) (aq (aD rS)) ba)
  (ai (bV YR rfl (fA rfl T.abe (av (ae 7) ah aa1)) (gD rfl (aN (i:=8) bU.nd rfl v6 (aN (i:=9) bU.nd rfl v6 cN))) (aq (cL (bN (aE (bQ T) T.abd hr (af (ay (aE (ik T) T.abo hr (af (av (ae 6) (ae 8) aa1) (af (ay (aE (dR T) T.abf hr (af (ay (az aU ah (av (ae 3) ah aa1))) (af (ay (az aU ah (av (ae 3) ah aa1))) ag)))) ag)))) (af (ae 9) ag)))) (aq (aD rS)) ba)))
  (aq (aD rS))))))))
  su
theorem b8:aB Am ["_law_state","_law_ring_here"] (ar kZ):=⟨rfl,rfl,rfl,y_,rfl,y_,y_⟩
theorem yZ(T:Tx K mg ad fd):aa7 T P w base 2 83 ["_law_state","_law_ring_here"] 2 jV:=
 aX (k:=1) T.acL.f b8 lH (λcdv A outer s H E hr=>(ai (aA (i:=2) b8.nd rfl v6 (cx ag))
  (ai (bV YR rfl (bM (av (ae 1) ah aa1)) (gD rfl (aN (i:=3) b8.nd rfl v6 (aN (i:=4) b8.nd rfl v6 (aN (i:=5) b8.nd rfl v6 (aN (i:=6) b8.nd rfl v6 cN))))) (ai (aA (i:=7) b8.nd rfl v6 (ay (cD (aW T) T.aa9 hr 0 0 (bL 0 (af ah ag)))))
  (ai (aA (i:=8) b8.nd rfl v6 (ay (cD (aW T) T.aa9 hr 0 0 (bL 0 (af ah ag)))))
  (aq (kx (gG 2 (av (cx (af (bR (af ah (af ah ag))) (af (ae 6) (af (ay (aE (dR T) T.abf hr (af (ay (az aU (av (ae 6) ah aa1) (ae 8))) (af (ay (az aU (av (ae 6) ah aa1) ah)) ag)))) ag)))) (aY (CQ rfl) rfl T.abx y_ (af (ae 7) (af ah ag))) aa1)))))))
  (aq (aD (cz 2))))))
  v7
theorem c9:aB QX ["_law_script"] (ar Ik):=⟨rfl,rfl,rfl,y_,rfl,y_,y_⟩
theorem Q5(T:Tx K mg ad fd):aa7 T P w base 11 84 ["_law_script"] 1 fs_law:=
 aX (k:=10) T.acM.f c9 OM (λcdv A outer s H E hr=>by exact(@ai _ _ _ _ _ (@aA _ _ _ 1 _ _ _ c9.nd rfl v6 (@ay _ _ _ (aE (AS T) T.acE hr (@af _ _ _ _ _ _ (ae 0) (@af _ _ _ _ _ _ ah (@af _ _ _ _ _ _ ah (@af _ _ _ _ _ _ ah ag z_) z_) z_) z_))) z_ ade) (@ai _ _ _ _ _ (@aA _ _ _ 2 _ _ _ c9.nd rfl v6 (@ay _ _ _ (aE (rf T) T.acF hr (@af _ _ _ _ _ _ (ae 1) ag z_))) z_ ade) (@ai _ _ _ _ _ (@aA _ _ _ 3 _ _ _ c9.nd rfl v6 (@ay _ _ _ (aE (AV T) T.acH hr (@af _ _ _ _ _ _ (ae 1) (@af _ _ _ _ _ _ (ae 2) ag z_) z_))) z_ ade) (@ai _ _ _ _ _ (@aA _ _ _ 4 _ _ _ c9.nd rfl v6 (@av _ _ _ _ _ _ (aE (rM T) T.abK hr (@af _ _ _ _ _ _ (ae 1) ag z_)) ah aa1) z_ ade) (@ai _ _ _ _ _ (xo (gD rfl (aN (i:=5) c9.nd rfl v6 (aN (i:=6) c9.nd rfl v6 (aN (i:=7) c9.nd rfl v6 (aN (i:=8) c9.nd rfl v6 cN))))) (aE (yS T) T.acA hr (@af _ _ _ _ _ _ (ae 1) ag z_))) (@ai _ _ _ _ _ (@aA _ _ _ 9 _ _ _ c9.nd rfl v6 (@bR _ _ _ _ _ _ (@af _ _ _ _ _ _ ah (@af _ _ _ _ _ _ ah ag z_) z_)) z_ ade) (@ai _ _ _ _ _ (bV YR rfl (bM (@av _ _ _ _ _ _ (ae 1) ah aa1)) (gD rfl (aN (i:=10) c9.nd rfl v6 (aN (i:=11) c9.nd rfl v6 (aN (i:=12) c9.nd rfl v6 (aN (i:=13) c9.nd rfl v6 cN))))) (@aq _ _ _ (@cL _ _ _ _ _ _ _ _ (bN (aE (bQ T) T.abd hr (@af _ _ _ _ _ _ (ae 9) (@af _ _ _ _ _ _ (ae 13) ag z_) z_))) (@aq _ _ _ (@aA _ _ _ 9 _ _ _ c9.nd rfl v6 (ae 13) z_ ade)) ba))) (@ai _ _ _ _ _ (@cL _ _ _ _ _ _ _ _ (U5.pb (oD (bN (aE (bQ T) T.abd hr (@af _ _ _ _ _ _ (ae 3) (@af _ _ _ _ _ _ (ae 4) ag z_) z_))) (oD (bN (aE (bQ T) T.abd hr (@af _ _ _ _ _ _ (ae 6) (@af _ _ _ _ _ _ (ae 3) ag z_) z_))) (m7 (U7 (Bg hr.units) (@cx _ _ _ _ _ (@af _ _ _ _ _ _ (ae 5) ag z_)) (dg (sc:=(ar Ik)) (N:=QX) (Nt:=[ "_law_row" ]) (Nf:=[ "_law_ways" ]) (fi:=[5]) rfl rfl rfl (bM (ae 2)) rfl y_ y_ y_ xp rfl y_ xp (λ_ _ _ _=>(d4 xp (show(([ "_law_row" ]:List Str)++([ "_law_ways" ]:List Str)).Nodup by decide +kernel) rfl (Or.inl rfl))) (λ_ _ _ _=>(tM (U7 (gF hr.units) (@av _ _ _ _ _ _ (ae 0) ah aa1) (ae 1) (bc _)))) (λ_ _ _ _=>(@av _ _ _ _ _ _ (ae 0) ah aa1))) (bc _)))))) (@aq _ _ _ (@aD _ _ _ _ rS)) ba) (@ai _ _ _ _ _ (@aA _ _ _ 14 _ _ _ c9.nd rfl v6 (@av _ _ _ _ _ _ (@av _ _ _ _ _ _ (ae 1) ah aa1) ah aa1) z_ ade) (@ai _ _ _ _ _ (bV YR rfl (bM (@av _ _ _ _ _ _ (ae 1) ah aa1)) (cM (i:=12) c9.nd rfl v6) (@aq _ _ _ (@cL _ _ _ _ _ _ _ _ (bN (aE (bQ T) T.abd hr (@af _ _ _ _ _ _ (ae 12) (@af _ _ _ _ _ _ (ae 14) ag z_) z_))) (@aq _ _ _ (@aA _ _ _ 14 _ _ _ c9.nd rfl v6 (ae 12) z_ ade)) ba))) (@ai _ _ _ _ _ (@aA _ _ _ 15 _ _ _ c9.nd rfl v6 (@ay _ _ _ (aE (ik T) T.abo hr (@af _ _ _ _ _ _ (ae 4) (@af _ _ _ _ _ _ (@ay _ _ _ (aE (dR T) T.abf hr (@af _ _ _ _ _ _ (@ay _ _ _ (@az _ _ _ _ _ _ _ _ aU (@az _ _ _ _ _ _ _ _ aU ah (@av _ _ _ _ _ _ (ae 9) ah aa1)) (@av _ _ _ _ _ _ (ae 14) ah aa1))) (@af _ _ _ _ _ _ (@ay _ _ _ (@az _ _ _ _ _ _ _ _ aU (@az _ _ _ _ _ _ _ _ aU ah (@av _ _ _ _ _ _ (ae 9) ah aa1)) (@av _ _ _ _ _ _ (ae 14) ah aa1))) ag z_) z_))) ag z_) z_))) z_ ade) (@ai _ _ _ _ _ (@cL _ _ _ _ _ _ _ _ (bN (aE (bQ T) T.abd hr (@af _ _ _ _ _ _ (ae 15) (@af _ _ _ _ _ _ (ae 6) ag z_) z_))) (@aq _ _ _ (@aD _ _ _ _ rS)) ba) (@ai _ _ _ _ _ (bV YR rfl (xi rfl T.abb ah (aY (LM rfl) rfl T.acN y_ (@af _ _ _ _ _ _ ah (@af _ _ _ _ _ _ (@ay _ _ _ (aY (CQ rfl) rfl T.abx y_ (@af _ _ _ _ _ _ (@ay _ _ _ (aY dU rfl T.aa8 y_ (@af _ _ _ _ _ _ (ae 0) ag z_))) (@af _ _ _ _ _ _ ah ag z_) z_))) ag z_) z_))) (cM (i:=16) c9.nd rfl v6) (@ai _ _ _ _ _ (@aA _ _ _ 17 _ _ _ c9.nd rfl v6 (aE (gw T) T.abn hr (@af _ _ _ _ _ _ (ae 0) (@af _ _ _ _ _ _ (ae 16) ag z_) z_)) z_ ade) (@ai _ _ _ _ _ (@aA _ _ _ 18 _ _ _ c9.nd rfl v6 (@ay _ _ _ (aY zD rfl T.abV y_ (@af _ _ _ _ _ _ (@ay _ _ _ (@cx _ _ _ _ _ (@af _ _ _ _ _ _ (@ay _ _ _ (cD (aW T) T.aa9 hr 0 17 (bL 17 (@af _ _ _ _ _ _ (@ay _ _ _ (aY dU rfl T.aa8 y_ (@af _ _ _ _ _ _ (@av _ _ _ _ _ _ (ae 1) ah aa1) ag z_))) ag z_)))) (@af _ _ _ _ _ _ (@ay _ _ _ (cD (aW T) T.aa9 hr 0 17 (bL 17 (@af _ _ _ _ _ _ (@ay _ _ _ (aY dU rfl T.aa8 y_ (@af _ _ _ _ _ _ (@av _ _ _ _ _ _ (ae 1) ah aa1) ag z_))) ag z_)))) ag z_) z_))) ag z_))) z_ ade) (@ai _ _ _ _ _ (@cL _ _ _ _ _ _ _ _ (bN (aE (bQ T) T.abd hr (@af _ _ _ _ _ _ (ae 3) (@af _ _ _ _ _ _ (@ay _ _ _ (aE (vj T) T.abG hr (@af _ _ _ _ _ _ (ae 1) (@af _ _ _ _ _ _ (@bR _ _ _ _ _ _ (@af _ _ _ _ _ _ (@av _ _ _ _ _ _ (ae 18) ah aa1) (@af _ _ _ _ _ _ (@av _ _ _ _ _ _ (ae 18) ah aa1) ag z_) z_)) ag z_) z_))) ag z_) z_))) (@aq _ _ _ (@aD _ _ _ _ rS)) ba) (@aq _ _ _ (@cL _ _ _ _ _ _ _ _ (kq (bN (aE (vq T) T.acK hr (@af _ _ _ _ _ _ (ae 1) (@af _ _ _ _ _ _ (ae 2) (@af _ _ _ _ _ _ (@ay _ _ _ (cD (yZ T) T.acL hr 0 17 (bL 17 (@af _ _ _ _ _ _ (ae 1) ag z_)))) (@af _ _ _ _ _ _ (ae 9) ag z_) z_) z_) z_)))) (@aq _ _ _ (@aD _ _ _ _ rS)) ba)))))) (@aq _ _ _ (@aD _ _ _ _ rS))))))))))))))))
  OP
end
noncomputable def Yo(i:Nat):Addr:=([21,28,86,93,100,107,115,122,129,136,143,150,157,164,171,178,185,192,199,204,211,218,225,230,237,244,249,256,263,270,275,282,289,294,299,304,311,323,328,316,347,342,352,335,357,364,371,425,418,397,392,404,411,385,378,446,439,432,454,461,468,475,482,494,489,501,508,515,534,522,529,541,548,555,590,569,604,583,611,618,576,597,623,562,628]:List Addr).getD i 0
noncomputable abbrev Yp:Value:=(.str "ringloads.divisors" 187)
noncomputable abbrev Yq:Value:=ac9
noncomputable abbrev Yr:Value:=ac2
noncomputable abbrev Ys:Value:=ac5
noncomputable abbrev Yt:Value:=ac4
noncomputable abbrev Yu:Value:=ac6
noncomputable abbrev Yv:Value:=ac7
noncomputable abbrev Yw:Value:=(.str "ringloads.units" 580)
noncomputable abbrev Yx:Value:=ac8
noncomputable abbrev Yy:Value:=(.str "ringloads.sendings" 646)
noncomputable abbrev SS:Value:=(.str "ringloads.leasts" 662)
noncomputable abbrev vt:Value:=ac1
noncomputable abbrev A2:Value:=ac3
noncomputable abbrev kc:Value:=acZ
noncomputable def Yz(i:Nat):FuncData:=[Vx "greatest_shared" e8 Yp 20,Vx "least_common" iz Yp 27,Vx "is_whole" qp Yq 85,Vx "is_number_below" fb Yq 92,Vx "are_two_wholes" fW Yq 99,Vx "is_ratio" qr Yq 106,Vx "lowest" yd Yr 114,Vx "ratio" BP Yr 121,Vx "plus" Ib Yr 128,Vx "minus" BQ Yr 135,Vx "times" BR Yr 142,Vx "over" Ic Yr 149,Vx "under" BS Yr 156,Vx "greater" ue Yr 163,Vx "lesser" ye Yr 170,Vx "sum_of" yf Yr 177,Vx "lesser_place" iA Ys 184,Vx "greater_place" gM Ys 191,Vx "do_cross" qt Ys 198,Vx "parted_in" jv Ys 203,Vx "first_side_by_side" dj Ys 210,Vx "is_within" ny Yt 217,Vx "parts_places" iB Yt 224,Vx "across" sT Yt 229,Vx "rooms_of" qu Yt 236,Vx "shown_by" qv Yt 243,Vx "all_cuts" lY Yt 248,Vx "greatest_cut" iC Yt 255,Vx "is_way" yg Yu 262,Vx "other_way" nA Yu 269,Vx "ties_of" kL Yu 274,Vx "is_over" ui Yu 281,Vx "sent_over" nB Yv 288,Vx "load_of" oW Yv 293,Vx "loads_of" lZ Yv 298,Vx "strains_of" hX Yv 303,Vx "top_of" yh Yv 310,Vx "common_bottom" gN Yw 322,Vx "in_units" l5 Yw 327,Vx "weighed" kM Yw 315,Vx "still_across" fE Yx 346,Vx "most_on" um Yx 341,Vx "left_free" jw Yx 351,Vx "sent_one_by_one" fc Yx 334,Vx "sent_by" oX Yy 356,Vx "top_by" yi Yy 363,Vx "least_top" nC SS 370,Vx "part_behind" jx vt 424,Vx "slid_once" nD vt 417,Vx "share_no_tie" fF vt 396,Vx "has_form_of_slide" dN vt 391,Vx "not_sent" qx vt 403,Vx "most_slid" nF vt 410,Vx "is_slide" qy vt 384,Vx "slid_by" uq vt 377,Vx "ways_apart" kN vt 445,Vx "greatest_slide" fX vt 438,Vx "slides_for" kO vt 431,Vx "nearest_way" jy A2 453,Vx "half_of_greatest" d7 A2 460,Vx "by_lesser_place" cV A2 467,Vx "rising_way" kP A2 474,Vx "gain_of" ur A2 481,Vx "rounded_ways" fG A2 493,Vx "rounding_of" jz A2 488,Vx "near_whole" kQ A2 500,Vx "_law_begun" kR kc 507,Vx "_law_take" nG kc 514,Vx "_law_names" fP kc 533,Vx "_law_low" qC kc 521,Vx "_law_amount" jA kc 528,Vx "_law_rooms" kU kc 540,Vx "_law_ends" nH kc 547,Vx "_law_ring" nI kc 554,Vx "_law_ties" nJ kc 589,Vx "_law_plus" nK kc 568,Vx "_law_all_loads" fY kc 603,Vx "_law_under" kW kc 582,Vx "_law_top" qD kc 610,Vx "_law_tops" nL kc 617,Vx "_law_minus" kX kc 575,Vx "_law_loads" kY kc 596,Vx "_law_rounded" fH kc 622,Vx "_law_parts" kZ kc 561,Vx "law" Ik kc 627].getD i (Vx "law" Ik Yp 0)
theorem tx{Pm:Params}{h:Heap}{mg:Str->Option Value}(X:(Hd.Kf Pm).In h)(G:h.Ns mainGlobals mg):Tx (Hd.Kf Pm) mg Yo Yz where
 abq:=FX.mk' X G (a:=21) (c:=20) (md:=Yp) z_ z_ z_ z_ aa3
 abX:=FX.mk' X G (a:=28) (c:=27) (md:=Yp) z_ z_ z_ z_ aa3
 abi:=FX.mk' X G (a:=86) (c:=85) (md:=Yq) z_ z_ z_ z_ aa2
 aby:=FX.mk' X G (a:=93) (c:=92) (md:=Yq) z_ z_ z_ z_ aa3
 abY:=FX.mk' X G (a:=100) (c:=99) (md:=Yq) z_ z_ z_ z_ aa2
 abZ:=FX.mk' X G (a:=107) (c:=106) (md:=Yq) z_ z_ z_ z_ aa2
 abj:=FX.mk' X G (a:=115) (c:=114) (md:=Yr) z_ z_ z_ z_ aa3
 ab0:=FX.mk' X G (a:=122) (c:=121) (md:=Yr) z_ z_ z_ z_ aa3
 abk:=FX.mk' X G (a:=129) (c:=128) (md:=Yr) z_ z_ z_ z_ aa3
 abl:=FX.mk' X G (a:=136) (c:=135) (md:=Yr) z_ z_ z_ z_ aa3
 abz:=FX.mk' X G (a:=143) (c:=142) (md:=Yr) z_ z_ z_ z_ aa3
 abA:=FX.mk' X G (a:=150) (c:=149) (md:=Yr) z_ z_ z_ z_ aa3
 abc:=FX.mk' X G (a:=157) (c:=156) (md:=Yr) z_ z_ z_ z_ aa3
 ab1:=FX.mk' X G (a:=164) (c:=163) (md:=Yr) z_ z_ z_ z_ aa3
 ab2:=FX.mk' X G (a:=171) (c:=170) (md:=Yr) z_ z_ z_ z_ aa3
 abB:=FX.mk' X G (a:=178) (c:=177) (md:=Yr) z_ z_ z_ z_ aa2
 abr:=FX.mk' X G (a:=185) (c:=184) (md:=Ys) z_ z_ z_ z_ aa3
 abC:=FX.mk' X G (a:=192) (c:=191) (md:=Ys) z_ z_ z_ z_ aa3
 ab3:=FX.mk' X G (a:=199) (c:=198) (md:=Ys) z_ z_ z_ z_ aa4
 abt:=FX.mk' X G (a:=204) (c:=203) (md:=Ys) z_ z_ z_ z_ aa3
 abD:=FX.mk' X G (a:=211) (c:=210) (md:=Ys) z_ z_ z_ z_ aa3
 abE:=FX.mk' X G (a:=218) (c:=217) (md:=Yt) z_ z_ z_ z_ aa3
 abF:=FX.mk' X G (a:=225) (c:=224) (md:=Yt) z_ z_ z_ z_ aa4
 ab4:=FX.mk' X G (a:=230) (c:=229) (md:=Yt) z_ z_ z_ z_ aa3
 ab5:=FX.mk' X G (a:=237) (c:=236) (md:=Yt) z_ z_ z_ z_ aa3
 abG:=FX.mk' X G (a:=244) (c:=243) (md:=Yt) z_ z_ z_ z_ aa3
 ab6:=FX.mk' X G (a:=249) (c:=248) (md:=Yt) z_ z_ z_ z_ aa2
 ab7:=FX.mk' X G (a:=256) (c:=255) (md:=Yt) z_ z_ z_ z_ aa2
 abH:=FX.mk' X G (a:=263) (c:=262) (md:=Yu) z_ z_ z_ z_ aa2
 ab8:=FX.mk' X G (a:=270) (c:=269) (md:=Yu) z_ z_ z_ z_ aa2
 abu:=FX.mk' X G (a:=275) (c:=274) (md:=Yu) z_ z_ z_ z_ aa4
 abI:=FX.mk' X G (a:=282) (c:=281) (md:=Yu) z_ z_ z_ z_ aa5
 ab9:=FX.mk' X G (a:=289) (c:=288) (md:=Yv) z_ z_ z_ z_ aa5
 aca:=FX.mk' X G (a:=294) (c:=293) (md:=Yv) z_ z_ z_ z_ aa4
 acb:=FX.mk' X G (a:=299) (c:=298) (md:=Yv) z_ z_ z_ z_ aa3
 acd:=FX.mk' X G (a:=304) (c:=303) (md:=Yv) z_ z_ z_ z_ aa3
 ace:=FX.mk' X G (a:=311) (c:=310) (md:=Yv) z_ z_ z_ z_ aa3
 acf:=FX.mk' X G (a:=323) (c:=322) (md:=Yw) z_ z_ z_ z_ aa2
 abJ:=FX.mk' X G (a:=328) (c:=327) (md:=Yw) z_ z_ z_ z_ aa3
 acg:=FX.mk' X G (a:=316) (c:=315) (md:=Yw) z_ z_ z_ z_ aa3
 ach:=FX.mk' X G (a:=347) (c:=346) (md:=Yx) z_ z_ z_ z_ aa5
 aci:=FX.mk' X G (a:=342) (c:=341) (md:=Yx) z_ z_ z_ z_ aa5
 acj:=FX.mk' X G (a:=352) (c:=351) (md:=Yx) z_ z_ z_ z_ λ_ _ _ _ _ _ u l=>match u,l with | [_,_,_,_,_],_=>rfl
 ack:=FX.mk' X G (a:=335) (c:=334) (md:=Yx) z_ z_ z_ z_ aa3
 acm:=FX.mk' X G (a:=357) (c:=356) (md:=Yy) z_ z_ z_ z_ aa3
 acn:=FX.mk' X G (a:=364) (c:=363) (md:=Yy) z_ z_ z_ z_ aa3
 abK:=FX.mk' X G (a:=371) (c:=370) (md:=SS) z_ z_ z_ z_ aa2
 abL:=FX.mk' X G (a:=425) (c:=424) (md:=vt) z_ z_ z_ z_ aa4
 abM:=FX.mk' X G (a:=418) (c:=417) (md:=vt) z_ z_ z_ z_ aa3
 abN:=FX.mk' X G (a:=397) (c:=396) (md:=vt) z_ z_ z_ z_ λ_ _ _ _ _ _ u l=>match u,l with | [_,_,_,_,_],_=>rfl
 aco:=FX.mk' X G (a:=392) (c:=391) (md:=vt) z_ z_ z_ z_ aa3
 abO:=FX.mk' X G (a:=404) (c:=403) (md:=vt) z_ z_ z_ z_ aa5
 abP:=FX.mk' X G (a:=411) (c:=410) (md:=vt) z_ z_ z_ z_ aa4
 acp:=FX.mk' X G (a:=385) (c:=384) (md:=vt) z_ z_ z_ z_ aa4
 acq:=FX.mk' X G (a:=378) (c:=377) (md:=vt) z_ z_ z_ z_ aa4
 acr:=FX.mk' X G (a:=446) (c:=445) (md:=vt) z_ z_ z_ z_ aa4
 acs:=FX.mk' X G (a:=439) (c:=438) (md:=vt) z_ z_ z_ z_ aa5
 acu:=FX.mk' X G (a:=432) (c:=431) (md:=vt) z_ z_ z_ z_ aa3
 acv:=FX.mk' X G (a:=454) (c:=453) (md:=A2) z_ z_ z_ z_ aa3
 acw:=FX.mk' X G (a:=461) (c:=460) (md:=A2) z_ z_ z_ z_ aa3
 acx:=FX.mk' X G (a:=468) (c:=467) (md:=A2) z_ z_ z_ z_ aa3
 acy:=Qm.mk' (c0:=467) z_ rfl z_
 abv:=FX.mk' X G (a:=475) (c:=474) (md:=A2) z_ z_ z_ z_ aa3
 abQ:=FX.mk' X G (a:=482) (c:=481) (md:=A2) z_ z_ z_ z_ aa5
 acz:=FX.mk' X G (a:=494) (c:=493) (md:=A2) z_ z_ z_ z_ aa3
 abR:=FX.mk' X G (a:=489) (c:=488) (md:=A2) z_ z_ z_ z_ aa3
 acA:=FX.mk' X G (a:=501) (c:=500) (md:=A2) z_ z_ z_ z_ aa2
 abn:=FX.mk' X G (a:=508) (c:=507) (md:=kc) z_ z_ z_ z_ aa3
 aa9:=FX.mk' X G (a:=515) (c:=514) (md:=kc) z_ z_ z_ z_ aa3
 acB:=FX.mk' X G (a:=534) (c:=533) (md:=kc) z_ z_ z_ z_ aa3
 abf:=FX.mk' X G (a:=522) (c:=521) (md:=kc) z_ z_ z_ z_ aa3
 abw:=FX.mk' X G (a:=529) (c:=528) (md:=kc) z_ z_ z_ z_ aa4
 acC:=FX.mk' X G (a:=541) (c:=540) (md:=kc) z_ z_ z_ z_ aa4
 acD:=FX.mk' X G (a:=548) (c:=547) (md:=kc) z_ z_ z_ z_ aa5
 acE:=FX.mk' X G (a:=555) (c:=554) (md:=kc) z_ z_ z_ z_ aa5
 abS:=FX.mk' X G (a:=590) (c:=589) (md:=kc) z_ z_ z_ z_ aa4
 abo:=FX.mk' X G (a:=569) (c:=568) (md:=kc) z_ z_ z_ z_ aa3
 acF:=FX.mk' X G (a:=604) (c:=603) (md:=kc) z_ z_ z_ z_ aa2
 abd:=FX.mk' X G (a:=583) (c:=582) (md:=kc) z_ z_ z_ z_ aa3
 acG:=FX.mk' X G (a:=611) (c:=610) (md:=kc) z_ z_ z_ z_ aa3
 acH:=FX.mk' X G (a:=618) (c:=617) (md:=kc) z_ z_ z_ z_ aa3
 acI:=FX.mk' X G (a:=576) (c:=575) (md:=kc) z_ z_ z_ z_ aa3
 acJ:=FX.mk' X G (a:=597) (c:=596) (md:=kc) z_ z_ z_ z_ aa3
 acK:=FX.mk' X G (a:=623) (c:=622) (md:=kc) z_ z_ z_ z_ aa5
 acL:=FX.mk' X G (a:=562) (c:=561) (md:=kc) z_ z_ z_ z_ aa3
 acM:=FX.mk' X G (a:=628) (c:=627) (md:=kc) z_ z_ z_ z_ aa2
 abT:=Ze X G z_
 acP:=Ze X G z_
 acQ:=Ze X G z_
 abe:=Ze X G z_
 abU:=Ze X G z_
 abm:=Ze X G z_
 aa8:=Ze X G z_
 abp:=Ze X G z_
 acN:=Ze X G z_
 abx:=Ze X G z_
 abb:=Ze X G z_
 abV:=Ze X G z_
 acR:=Ze X G z_
 acS:=Ze X G z_
 acO:=Ze X G z_
 abW:=Ze X G z_
 abg:=CV (W.mg_of X G (v:=(.str "back" 502)) z_)
 acT:=CU (W.mg_of X G (v:=.ref 447) z_) (show(Hd.Kf Pm).lookup 447=some (Hd.acV #[(.int 1 782),(.int 2 783)]) by kernel_rfl) ⟨_,_,[L2.V.int 1,L2.V.int 2],_,rfl,rfl,rfl,xp,(.cons ⟨_,rfl⟩ (.cons ⟨_,rfl⟩ .nil)),λK H=>(.cons (.int _) (.cons (.int _) .nil))⟩
 abh:=CU (W.mg_of X G (v:=.ref 108) z_) (show(Hd.Kf Pm).lookup 108=some (Hd.acV #[(.int 0 308),(.int 1 309)]) by kernel_rfl) ⟨_,_,[L2.V.int 0,L2.V.int 1],_,rfl,rfl,rfl,xp,(.cons ⟨_,rfl⟩ (.cons ⟨_,rfl⟩ .nil)),λK H=>(.cons (.int _) (.cons (.int _) .nil))⟩
 aba:=CV (W.mg_of X G (v:=(.str "on" 500)) z_)
theorem walkF(w:World)(mg:Str→Option Value)(fa:Addr)(h:Heap)(X:(Hd.Kf w.params).In h)(G:h.Ns mainGlobals mg) (hmg:mg "law"=some (.ref fa)) :
  ∃ fd:FuncData,(∀(s:Shared)(u:Value),BindsTo s fd ⟨[u],[]⟩ [("_law_script",u)])∧∀ base:Heap,(Hd.Kf w.params).In base→base.Ns mainGlobals mg→FnOk PySem.Challenge.pw_ringloads_k41_whole_near_and_all_ways w (Hd.Kf w.params) mg base CX0 11 fa fd ["_law_script"] (spF (Hd.Kf w.params) 1 fs_law):=by
 have T:=tx X G
 have e:=hmg.symm.trans T.acM.m
 cases e
 exact⟨_,fun s v=>.of_eq rfl,fun base _ _=>Q5 T⟩
theorem tabR(w:World):∀x∈L2.lamNames,W.tabIn (Hd.Kf w.params) x=none∨((PyProof.Rows.recsOf Hd.q).find? λe=>e.name == x).isSome=true:=by
 intro x hx;simp only[L2.lamNames,YK,aal,or_false]at hx;rcases hx with rfl|rfl|rfl
 . exact .inl z_
 . exact .inr z_
 . exact .inl z_
theorem walk{l:W.OpenLaw}{q:Program}{loose:List Str}{XP:(Str->Option Value)->Heap->Prop}{YP:World->Heap->Prop}{d:DefRec}{K:Params->W.Frag}(hn:l.most=some 63)(hq:PyProof.Rows.importsNone q=true)(hdf:d.params.defaults=[])
  (hY:∀(w:World)(h:Heap),YP w h->(K w.params).In h) (hto:∀w:World,L2.tabsOk (K w.params)=true) (hrc:∀(w:World),∀x∈L2.lamNames,W.tabIn (K w.params) x=none∨((PyProof.Rows.recsOf q).find? λe=>e.name == x).isSome=true)
  (F:∀(w:World)(mg:Str->Option Value)(fa:Addr)(h:Heap),(K w.params).In h->h.Ns mainGlobals mg->mg d.name=some (.ref fa) ->
   ∃ fd:FuncData,(∀(s:Shared)(u:Value),BindsTo s fd ⟨[u],[]⟩ [("_law_script",u)])/\∀ base:Heap,(K w.params).In base->base.Ns mainGlobals mg->FnOk l.prog w (K w.params) mg base CX0 11 fa fd ["_law_script"] (spF (K w.params) 1 fs_law)) :
  W.WalkO q loose XP YP l.row.toRowW d [] (λf vs=>PySem.call f vs) :=
 L2.walk_of (n:=63) (k:=11) (x:="_law_script") (CX:=λ_=>CX0) (sp:=λw=>spF (K w.params) 1 fs_law) hn hq xp hdf ⟨rfl,xp,xp,rfl⟩ hY hto hrc F (λ_ H a ns hl hO hS=>Gg hl hO hS (IL hl)) λ_ _ _ _ _ z=>z
end My
open PySem PySem.W PyProof.Rows
noncomputable abbrev PySem.W.Fast.tw7154750718690923559:PySem.Program:=PySem.Challenge.pw_ringloads_k41_whole_near_and_all_ways
theorem PySem.W.Fast.te7154750718690923559:PySem.Challenge.pw_ringloads_k41_whole_near_and_all_ways=PySem.W.Fast.tw7154750718690923559:=rfl
set_option maxRecDepth 100000 in
theorem PySem.Challenge.cw_ringloads_k41_whole_near_and_all_ways_holds : PySem.Challenge.rw_ringloads_k41_whole_near_and_all_ways.Holds := by
 w_on;o_law
 refine W.holds_open (q:=Hd.q) (loose:=Hd.loose) (Xt:=Hd.Xt) (XP:=XL Hd.q []) (Yf:=Hook.obs Hd.Hk) (Ya:=Hook.val Hd.Hk) (YP:=Hook.says Hd.Hk) (N:=_) Hd.left (Hook.of Hd.Hk) (Hook.keeps Hd.Hk) (fun s e=>xl_of s (aaT.mp e).1) XL.keeps (by rfl) (by rfl) (by rfl) (fun s e=>recFacts_of (aaT.mp e).2) (by rfl) (by assumption) y_ ⟨rfl,rfl,rfl,rfl,rfl,y_⟩ ?hw ?hc
 case hw=>w_witness2
 case hc=>exact My.walk (l:=PySem.Challenge.rw_ringloads_k41_whole_near_and_all_ways) (K:=Hd.Kf) rfl y_ rfl (fun w h Y=>PySem.W.kIn_of Y) (fun w=>by kernel_rfl) My.tabR My.walkF