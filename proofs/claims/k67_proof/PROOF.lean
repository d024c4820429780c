import PyProof.Rows.All
import Wide.All
import OpenK.AllK
import Wide.FinOn
import Lean
import PyProof.EqAt
import PyProof.EqKinds
import PyProof.TupleCall
import PyProof.ExcArgs
import KE.KSortKey
import KE.KIsAll
import PyProof.ExcInit
import PyProof.StationsW
import PyProof.NsDelKeeps
import PyProof.RulesAs
import PyProof.PassesOwn
import PyProof.ExcBaseAll.ValueError
import PyProof.InstStoreFacts
import PyProof.Rows.EqDataRows
import PyProof.ReprRoads
import PyProof.Rows.Range3
import PyProof.ConsumeWalk
import PyProof.FString5
import PyProof.ReprLen
import PyProof.Rows.TupAdd
import PyProof.Rows.RuleIs
import PyProof.ListNew
import KE.KRevIter
import PyProof.Rows.SeqMore2
import PyProof.ListRange
import KE.KEqDict
import PyProof.NeKinds
import PyProof.CallStr
import PyProof.ListMulAny
import PyProof.Rows.SetFrom
import PyProof.SetRoads
import KE.KSortTup
import PySem.Challenge.RW_ringloads_k67_whole_tops_alike
set_option Elab.async false
set_option linter.all false
set_option maxRecDepth 100000
set_option maxHeartbeats 0
theorem acN{α:Type}{P:List α->Prop}(h:∀a,P [a]):∀u,u.length=1->P u |[a],_=>h a
theorem acO{α:Type}{P:List α->Prop}(h:∀a b,P [a,b]):∀u,u.length=2->P u |[a,b],_=>h a b
theorem acP{α:Type}{P:List α->Prop}(h:∀a b c,P [a,b,c]):∀u,u.length=3->P u |[a,b,c],_=>h a b c
theorem acQ{α:Type}{P:List α->Prop}(h:∀a b c d,P [a,b,c,d]):∀u,u.length=4->P u |[a,b,c,d],_=>h a b c d
theorem acR{α:Type}{P:List α->Prop}(h:∀a b c d e,P [a,b,c,d,e]):∀u,u.length=5->P u |[a,b,c,d,e],_=>h a b c d e
theorem acS{α:Type}{P:List α->Prop}(h:∀a b c d e f,P [a,b,c,d,e,f]):∀u,u.length=6->P u |[a,b,c,d,e,f],_=>h a b c d e f
theorem z_ {α:Sort _} {a b:α} (h:a=b:=by kernel_rfl):a=b:=h
theorem y_ {p:Prop} [Decidable p] (h:decide p=true:=by decide +kernel):p:=of_decide_eq_true h
theorem xp {p:Prop} [Decidable p] (h:decide p=true:=by decide):p:=of_decide_eq_true h
theorem xL{p:Prop}(h:p:=by omega):p:=h
theorem x_{p:Prop}(h:p:=by simp):p:=h
section
open PySem PySem.Spec PyProof.Rows PySem.W
theorem gV:type_of% @List.getElem?_eq_getElem:=@List.getElem?_eq_getElem
theorem kS:type_of% @wpAny_bind:=@wpAny_bind
theorem k4:type_of% @List.getD_eq_getElem?_getD:=@List.getD_eq_getElem?_getD
theorem p3:type_of% @List.mem_cons_of_mem:=@List.mem_cons_of_mem
theorem p4:type_of% @Heap.get?_push_of_some:=@Heap.get?_push_of_some
theorem tu:type_of% @List.getElem?_eq_some_iff:=@List.getElem?_eq_some_iff
theorem tv:type_of% @List.length_map:=@List.length_map
theorem XU:type_of% @List.mem_cons_self:=@List.mem_cons_self
theorem XW:type_of% @List.mem_cons:=@List.mem_cons
theorem XX:type_of% @Nat.lt_of_lt_of_le:=@Nat.lt_of_lt_of_le
theorem XY:type_of% @List.mem_map:=@List.mem_map
theorem XZ:type_of% @Nat.le_refl:=@Nat.le_refl
theorem X0:type_of% @Nat.le_trans:=@Nat.le_trans
theorem X1:type_of% @List.getElem?_map:=@List.getElem?_map
theorem X2:type_of% @Heap.lt_size:=@Heap.lt_size
theorem X3:type_of% @wpAny_pure:=@wpAny_pure
theorem X4:type_of% @List.mem_of_getElem?:=@List.mem_of_getElem?
theorem X5:type_of% @Heap.get?_push_size:=@Heap.get?_push_size
theorem X6:type_of% @List.length_range:=@List.length_range
theorem X7:type_of% @List.map_cons:=@List.map_cons
theorem X8:type_of% @List.getElem_mem:=@List.getElem_mem
theorem X9:type_of% @Nat.pow_le_pow_right:=@Nat.pow_le_pow_right
theorem Yb:type_of% @List.mem_range:=@List.mem_range
theorem Yc:type_of% @Nat.lt_of_le_of_lt:=@Nat.lt_of_le_of_lt
theorem Yd:type_of% @List.map_map:=@List.map_map
theorem Ye:type_of% @List.size_toArray:=@List.size_toArray
theorem Yg:type_of% @List.getElem?_append_right:=@List.getElem?_append_right
theorem Yh:type_of% @Int.natAbs_natCast:=@Int.natAbs_natCast
theorem Yi:type_of% @Nat.ne_of_lt:=@Nat.ne_of_lt
theorem Yj:type_of% @List.mem_append_right:=@List.mem_append_right
theorem Yk:type_of% @List.nil_append:=@List.nil_append
theorem Yl:type_of% @Int.fmod_eq_emod_of_nonneg:=@Int.fmod_eq_emod_of_nonneg
theorem Ym:type_of% @List.getElem?_append_left:=@List.getElem?_append_left
theorem Yn:type_of% @List.getElem?_range:=@List.getElem?_range
theorem Yo:type_of% @Option.some.injEq:=@Option.some.injEq
theorem Yp:type_of% @PyProof.Rows.callWith_type1:=@PyProof.Rows.callWith_type1
theorem Yq:type_of% @List.map_append:=@List.map_append
theorem Yr:type_of% @List.nodup_cons:=@List.nodup_cons
theorem Ys:type_of% @List.mem_append:=@List.mem_append
theorem Yt:type_of% @decide_eq_false:=@decide_eq_false
theorem Yu:type_of% @List.map_congr_left:=@List.map_congr_left
theorem Yv:type_of% @PySem.W.mg_none_of:=@PySem.W.mg_none_of
theorem Yw:type_of% @List.length_append:=@List.length_append
theorem Yx:type_of% @Int.toNat_natCast:=@Int.toNat_natCast
theorem Yy:type_of% @List.take_of_length_le:=@List.take_of_length_le
theorem Yz:type_of% @List.mem_append_left:=@List.mem_append_left
theorem YA:type_of% @decide_eq_decide:=@decide_eq_decide
theorem YB:type_of% @List.mem_singleton:=@List.mem_singleton
theorem YC:type_of% @Bool.false_ne_true:=@Bool.false_ne_true
theorem YD:type_of% @List.not_mem_nil:=@List.not_mem_nil
theorem YE:type_of% @Ne.symm:=@Ne.symm
theorem YF:type_of% @PassesOwn.never:=@PassesOwn.never
theorem YG:type_of% @Option.map_eq_some_iff:=@Option.map_eq_some_iff
theorem YH:type_of% @List.ext_getElem:=@List.ext_getElem
theorem YI:type_of% @Bool.and_eq_true:=@Bool.and_eq_true
theorem YJ:type_of% @List.lookup_cons:=@List.lookup_cons
theorem YK:type_of% @List.length_take:=@List.length_take
theorem YL:type_of% @Bool.false_eq_true:=@Bool.false_eq_true
theorem YM:type_of% @List.filter_cons:=@List.filter_cons
theorem YN:type_of% @Option.some.inj:=@Option.some.inj
theorem YO:type_of% @Nat.zero_le:=@Nat.zero_le
theorem YQ:type_of% @wpAny_field:=@wpAny_field
theorem YR:type_of% @List.zip_cons_cons:=@List.zip_cons_cons
theorem YS:type_of% @List.length_drop:=@List.length_drop
theorem YT:type_of% @List.getElem_map:=@List.getElem_map
theorem YU:type_of% @List.append_assoc:=@List.append_assoc
theorem YV:type_of% @List.getElem_range:=@List.getElem_range
theorem YW:type_of% @Nat.mod_lt:=@Nat.mod_lt
theorem YX:type_of% @Heap.get?_update_self:=@Heap.get?_update_self
theorem YY:type_of% @Nat.add_sub_cancel_left:=@Nat.add_sub_cancel_left
theorem YZ:type_of% @Rat.le_refl:=@Rat.le_refl
theorem Y0:type_of% @List.filterMap_cons:=@List.filterMap_cons
theorem Y1:type_of% @Nat.lt_irrefl:=@Nat.lt_irrefl
theorem Y2:type_of% @Nat.le_add_right:=@Nat.le_add_right
theorem Y3:type_of% @List.length_cons:=@List.length_cons
theorem Y4:type_of% @Nat.mod_eq_of_lt:=@Nat.mod_eq_of_lt
theorem Y5:type_of% @List.nodup_append:=@List.nodup_append
theorem Y6:type_of% @decide_eq_true:=@decide_eq_true
theorem Y7:type_of% @wpAny_setField_rec:=@wpAny_setField_rec
theorem Y8:type_of% @List.perm_append_comm:=@List.perm_append_comm
theorem Y9:type_of% @List.length_singleton:=@List.length_singleton
theorem Za:type_of% @Nat.le_of_lt:=@Nat.le_of_lt
theorem Zb:type_of% @decide_eq_false_iff_not:=@decide_eq_false_iff_not
theorem Zc:type_of% @wpAny_seqItems:=@wpAny_seqItems
theorem Zd:type_of% @Int.eq_ofNat_of_zero_le:=@Int.eq_ofNat_of_zero_le
theorem Ze:type_of% @wpAny_callSpecial?_slot:=@wpAny_callSpecial?_slot
theorem Zf:type_of% @Rat.num_divInt_den:=@Rat.num_divInt_den
theorem Zg:type_of% @exists_eq_left':=@exists_eq_left'
theorem Zh:type_of% @if_true:=@if_true
theorem Zj:type_of% @Int.natAbs_mul:=@Int.natAbs_mul
theorem Zk:type_of% @List.mem_iff_getElem:=@List.mem_iff_getElem
theorem Zl:type_of% @Int.fdiv_eq_ediv_of_nonneg:=@Int.fdiv_eq_ediv_of_nonneg
theorem Zm:type_of% @wpAny_holding:=@wpAny_holding
theorem Zn:type_of% @PySem.W.kia_tup:=@PySem.W.kia_tup
theorem Zo:type_of% @List.zip_append:=@List.zip_append
theorem Zp:type_of% @List.length_zip:=@List.length_zip
theorem Zr:type_of% @PySem.W.kia_one:=@PySem.W.kia_one
theorem Zs:type_of% @Rat.mul_le_mul_of_nonneg_right:=@Rat.mul_le_mul_of_nonneg_right
theorem Zt:type_of% @wpAny_call_entry:=@wpAny_call_entry
theorem Zu:type_of% @Heap.get?_update_other:=@Heap.get?_update_other
theorem Zv:type_of% @List.map_nil:=@List.map_nil
theorem Zw:type_of% @List.getElem?_set_self:=@List.getElem?_set_self
theorem Zx:type_of% @List.sublist_append_right:=@List.sublist_append_right
theorem Zy:type_of% @congrArg:=@congrArg
theorem Zz:type_of% @decide_eq_true_eq:=@decide_eq_true_eq
theorem ZC:type_of% @List.getElem_zip:=@List.getElem_zip
theorem ZD:type_of% @Nat.lt_add_right:=@Nat.lt_add_right
theorem ZE:type_of% @List.length_eq_zero_iff:=@List.length_eq_zero_iff
theorem ZF:type_of% @List.getElem?_cons_succ:=@List.getElem?_cons_succ
theorem ZG:type_of% @Rat.le_trans:=@Rat.le_trans
theorem ZH:type_of% @if_false:=@if_false
theorem ZI:type_of% @wpAny_newObj_type:=@wpAny_newObj_type
theorem ZJ:type_of% @F.slot_zip_next:=@F.slot_zip_next
theorem ZK:type_of% @List.mem_filter:=@List.mem_filter
theorem ZL:type_of% @wpAny_updateSeq:=@wpAny_updateSeq
theorem ZM:type_of% @builtinLookup_eq_fast:=@builtinLookup_eq_fast
theorem ZN:type_of% @List.getElem?_eq_none:=@List.getElem?_eq_none
theorem ZO:type_of% @List.length_filter_le:=@List.length_filter_le
theorem ZP:type_of% @Calls.spliced_cons:=@Calls.spliced_cons
theorem ZQ:type_of% @wpAny_Call_Name_kw:=@wpAny_Call_Name_kw
theorem ZR:type_of% @PySem.W.mg_of:=@PySem.W.mg_of
theorem ZS:type_of% @List.any_cons:=@List.any_cons
theorem ZT:type_of% @Rat.le_of_lt:=@Rat.le_of_lt
theorem ZU:type_of% @or_false:=@or_false
theorem ZV:type_of% @Nat.pow_lt_pow_right:=@Nat.pow_lt_pow_right
theorem ZW:type_of% @wpAny_truthy_bool:=@wpAny_truthy_bool
theorem ZX:type_of% @List.append_nil:=@List.append_nil
theorem ZY:type_of% @List.of_mem_zip:=@List.of_mem_zip
theorem ZZ:type_of% @PySem.mem_of_lookup:=@PySem.mem_of_lookup
theorem Z0:type_of% @Heap.SameBut.update:=@Heap.SameBut.update
theorem Z1:type_of% @Nat.mul_le_mul_left:=@Nat.mul_le_mul_left
theorem Z2:type_of% @Fast.te14364793385576792824:=@Fast.te14364793385576792824
theorem Z3:type_of% @Nat.dvd_trans:=@Nat.dvd_trans
theorem Z4:type_of% @Bool.bne_false:=@Bool.bne_false
theorem Z5:type_of% @Int.emod_lt_of_pos:=@Int.emod_lt_of_pos
theorem Z6:type_of% @List.take_succ:=@List.take_succ
theorem Z7:type_of% @List.getElem?_drop:=@List.getElem?_drop
theorem Z8:type_of% @List.set_append_right:=@List.set_append_right
theorem Z9:type_of% @Rat.natCast_pos:=@Rat.natCast_pos
theorem aaa:type_of% @Nat.min_eq_left:=@Nat.min_eq_left
theorem aab:type_of% @Int.mul_ne_zero:=@Int.mul_ne_zero
theorem aac:type_of% @wpAny_passesOwn:=@wpAny_passesOwn
theorem aad:type_of% @Int.emod_nonneg:=@Int.emod_nonneg
theorem aae:type_of% @List.getElem?_set_ne:=@List.getElem?_set_ne
theorem aaf:type_of% @List.foldl_append:=@List.foldl_append
theorem aag:type_of% @List.Sublist.refl:=@List.Sublist.refl
theorem aah:type_of% @Calls.spliced_nil:=@Calls.spliced_nil
theorem aai:type_of% @Bool.or_eq_false_iff:=@Bool.or_eq_false_iff
theorem aaj:type_of% @List.mem_of_mem_take:=@List.mem_of_mem_take
theorem aak:type_of% @Bool.and_eq_true_iff:=@Bool.and_eq_true_iff
theorem aal:type_of% @wpAny_mono:=@wpAny_mono
theorem aam:type_of% @Nat.le_of_dvd:=@Nat.le_of_dvd
theorem aan:type_of% @List.length_reverse:=@List.length_reverse
theorem aao:type_of% @List.replicate_succ:=@List.replicate_succ
theorem aap:type_of% @F.plain_extend_loop:=@F.plain_extend_loop
theorem aaq:type_of% @Rat.div_def:=@Rat.div_def
theorem aar:type_of% @Nat.pow_add:=@Nat.pow_add
theorem aas:type_of% @Nat.le_succ:=@Nat.le_succ
theorem aat:type_of% @Nat.ne_of_gt:=@Nat.ne_of_gt
theorem aau:type_of% @Rat.zero_add:=@Rat.zero_add
theorem aav:type_of% @List.foldl_cons:=@List.foldl_cons
theorem aaw:type_of% @typeLookup_type:=@typeLookup_type
theorem aax:type_of% @wpAny_attempt:=@wpAny_attempt
theorem aay:type_of% @segRun_of:=@segRun_of
theorem aaz:type_of% @piece_app:=@piece_app
end
theorem aaA{p:Prop}(h:p:=by exact λ_ _=>rfl):p:=h
theorem aaB{p:Prop}(h:p:=by exact λ_ _ _ _ _ _=>acN λ_=>rfl):p:=h
theorem aaC{p:Prop}(h:p:=by exact λ_ _ _ _ _ _=>acO λ_ _=>rfl):p:=h
theorem aaD{p:Prop}(h:p:=by exact λ_ _ _ _ _ _=>acP λ_ _ _=>rfl):p:=h
theorem aaE{p:Prop}(h:p:=by exact λ_ _ _ _ _ _=>acQ λ_ _ _ _=>rfl):p:=h
section
open PySem PySem.Spec
abbrev acr:Value:=.str "law_ringloads_k67_whole_tops_alike" 752
abbrev acs:Value:=.str "ringloads.errors" 206
abbrev acu:Value:=.str "ringloads.ratios" 291
abbrev acv:Value:=.str "ringloads.cuts" 402
abbrev acw:Value:=.str "ringloads.loads" 515
abbrev acx:Value:=.str "ringloads.turning" 370
abbrev acy:Value:=.str "ringloads.search" 604
abbrev acz:Value:=.str "ringloads.parting" 652
abbrev acA:Value:=.str "ringloads.together" 732
end
section
open PySem PySem.Spec
theorem acD{p:Prop}(h:p:=by rfl):p:=h
def acE:Lean.Syntax:=acD._auto_1
theorem acF{p:Prop}(h:p:=by decide):p:=h
def acG:Lean.Syntax:=acF._auto_1
theorem acH{p:Prop}(h:p:=by first | exact Or.inl rfl | exact Or.inr (Or.inl rfl) | exact Or.inr (Or.inr rfl)):p:=h
def acI:Lean.Syntax:=acH._auto_1
theorem acJ{p:Prop}(h:p:=by first|exact .inl rfl|exact .inr rfl|assumption):p:=h
def acK:Lean.Syntax:=acJ._auto_1
theorem acL{p:Prop}(h:p:=by with_unfolding_all rfl):p:=h
def acM:Lean.Syntax:=acL._auto_1
end
theorem acT{p:Prop}(h:p:=by first | exact .inl rfl | exact .inr rfl):p:=h
namespace L2
open PySem PySem.Spec PyProof.Rows
noncomputable abbrev Td:=Sum Int Str
noncomputable def Ob:Td->Value->Bool
 |.inl k,v=>Value.isInt k v
 |.inr x,v=>Value.isStrOf x v
noncomputable def So(w:World):Td->Int
 |.inl k=>hashInt k
 |.inr x=>hashStr w x
theorem b9:∀{k:Td}{v:Value},Ob k v=true->(∃i t,k=Sum.inl i/\v=Value.int i t)∨(∃x t,k=Sum.inr x/\v=Value.str x t)
 | .inl i,v,h=>by obtain⟨t,e⟩:=Value.isInt_shape (k:=i) (v:=v) h;exact .inl ⟨i,t,rfl,e⟩
 | .inr x,v,h=>by obtain⟨t,e⟩:=Value.isStrOf_shape (x:=x) (v:=v) h;exact .inr ⟨x,t,rfl,e⟩
theorem Oc(a b:Int):decide ((Sum.inl a:Td)=Sum.inl b)=(a == b):=by
 by_cases e:a=b
 . subst e;simp
 . have h:¬(Sum.inl a:Td)=Sum.inl b:=λq=>e (Sum.inl.inj q);rw[Yt h];exact(beq_eq_false_iff_ne.mpr e).symm
theorem Od(a b:Str):decide ((Sum.inr a:Td)=Sum.inr b)=decide (a=b):=by
 by_cases e:a=b
 . subst e;simp
 . have h:¬(Sum.inr a:Td)=Sum.inr b:=λq=>e (Sum.inr.inj q);rw[Yt h,Yt e]
theorem Oe(a:Int)(b:Str):decide ((Sum.inl a:Td)=Sum.inr b)=false:=Yt (λq=>nomatch q)
theorem Of(a:Str)(b:Int):decide ((Sum.inr a:Td)=Sum.inl b)=false:=Yt (λq=>nomatch q)
noncomputable def Eb(prog:Program)(w:World):PySem.KeyKind prog w Td where
 is:=Ob
 hash:=So w
 inj:=λv a b ha hb=>by
  rcases b9 ha with⟨i,t,rfl,rfl⟩|⟨x,t,rfl,rfl⟩
  .
   rcases b9 hb with⟨j,u,rfl,e⟩|⟨y,u,rfl,e⟩
   . injection e with e1 _;rw[e1]
   . exact nomatch e
  .
   rcases b9 hb with⟨j,u,rfl,e⟩|⟨y,u,rfl,e⟩
   . exact nomatch e
   . injection e with e1 _;rw[e1]
 byValue:=λk v h=>by rcases b9 h with⟨i,t,rfl,rfl⟩|⟨x,t,rfl,rfl⟩<;>rfl
 pyHash:=λhv h=>by
  rcases b9 hv with⟨i,t,rfl,rfl⟩|⟨x,t,rfl,rfl⟩
  . exact wpAny_pyHash_int h
  . exact wpAny_pyHash_str h
 eqBool:=λhu hv h=>by
  rcases b9 hu with⟨i,t,rfl,rfl⟩|⟨x,t,rfl,rfl⟩
  .
   rcases b9 hv with⟨j,u,rfl,rfl⟩|⟨y,u,rfl,rfl⟩
   . rw[Oc]at h;exact wpAny_eqBool_int h
   . rw[Oe]at h;exact SeqAt.EqAt.int_str i t y u _ _ _ _ h
  .
   rcases b9 hv with⟨j,u,rfl,rfl⟩|⟨y,u,rfl,rfl⟩
   . rw[Of]at h;exact SeqAt.EqAt.str_int x t j u _ _ _ _ h
   . rw[Od]at h;exact wpAny_eqBool_str h
 «strs»:=λk x t v h=>by
  rcases b9 h with⟨i,u,rfl,e⟩|⟨y,u,rfl,e⟩
  . exact nomatch e
  . injection e with e1 _;subst e1;cases v<;>rfl
inductive V where
 |non|bl (b:Bool)|int (i:Int)|str (x:Str)|byt (b:Array UInt8)|flt (b:UInt64)|ref (a:Addr)|ty (n:String)
 deriving DecidableEq
def cQ:V->Value->Prop
 |.non,u=>u=Value.none
 |.bl b,u=>u=Value.bool b
 |.int i,u=>∃t,u=Value.int i t
 |.str x,u=>∃t,u=Value.str x t
 |.byt b,u=>∃t,u=Value.bytes b t
 |.flt b,u=>∃t,u=Value.float b t
 |.ref a,u=>u=Value.ref a
 |.ty n,u=>u=Value.type n
abbrev cw:List V->List Value->Prop:=Paired cQ
theorem cw.length{xs:List V}{us:List Value}(r:cw xs us):xs.length=us.length:=Paired.length r
theorem cw.get:∀{xs:List V}{us:List Value}{i:Nat}{x:V},cw xs us->xs[i]?=some x->∃u,us[i]?=some u/\cQ x u
 |_,_,_,_,.nil,e=>by simp at e
 |_,_,0,_,.cons r _,e=>by simp at e;subst e;exact⟨_,rfl,r⟩
 | _,_,i+1,x,.cons _ t,e=>by obtain⟨u,h1,h2⟩:=cw.get (i:=i) (x:=x) t (by simpa using e);exact⟨u,by simpa using h1,h2⟩
theorem cw.set{x:V}{u:Value}(r:cQ x u):∀{xs:List V}{us:List Value}(i:Nat),cw xs us->cw (xs.set i x) (us.set i u)
 |_,_,_,.nil=>.nil
 |_,_,0,.cons _ t=>.cons r t
 |_,_,i+1,.cons q t=>.cons q (cw.set r i t)
theorem cw.append:∀{xs ys:List V}{us ws:List Value},cw xs us->cw ys ws->cw (xs++ys) (us++ws):=by
 intro xs ys us ws h s
 induction h with
 |nil=>exact s
 |cons r t ih=>exact .cons r ih
theorem cw.take:∀{xs:List V}{us:List Value}(n:Nat),cw xs us->cw (xs.take n) (us.take n)
 |_,_,0,_=>.nil
 |_,_,_+1,.nil=>.nil
 |_,_,n+1,.cons r t=>.cons r (cw.take n t)
theorem cw.drop:∀{xs:List V}{us:List Value}(n:Nat),cw xs us->cw (xs.drop n) (us.drop n)
 |_,_,0,r=>r
 |_,_,_+1,.nil=>.nil
 |_,_,n+1,.cons _ t=>cw.drop n t
def Qv:Option V->Option Value->Prop
 |some v,some u=>cQ v u
 |none,none=>True
 |_,_=>False
def KV{κ:Type}:List (κ×V)->List (κ×Value)->Prop:=Paired λ(p:κ×V) (q:κ×Value)=>p.1=q.1/\cQ p.2 q.2
noncomputable def kV:Td->V
 |.inl i=>.int i
 |.inr x=>.str x
inductive HO where
 |lst (xs:List V)
 |tup (xs:List V)
 |dK (kvs:List (Td×V))|dT (kvs:List (List Td×V))
 |set (S:Int->Bool) (n:Nat)
 |ins (C dx:Addr) (fs:List (Str×V))
 |own (x:Addr)
 |xd (fs:List (Str×V))
 |met (f x:Addr)
 |rng (lo hi:Int)
 |frz (o:Obj) (u:HO)
 |tbl (q:Str)
 |ext (φ:Heap->Prop)
noncomputable abbrev Hp:=Addr->Option HO
noncomputable def Te(H:Hp)(a:Addr)(o:HO):Hp:=λb=>if b=a then some o else H b
theorem cb{H:Hp}{a:Addr}{o:HO}:Te H a o a=some o:=by unfold Te;rw[if_pos rfl]
theorem aT{H:Hp}{a b:Addr}{o:HO}(h:b≠a):Te H a o b=H b:=by unfold Te;rw[if_neg h]
theorem bL{H:Hp}{a b:Addr}{o:HO}(h:H a=some o)(h':H b=none):a≠b:=by intro e;subst e;rw[h]at h';cases h'
def BK(oc:Obj)(q:Str):Prop:=∃vs t,oc.data=.fields vs/\vs[1]?=some (.str q t)
section
variable(P:Program)(w:World)
def fj(H:Hp)(h:Heap)(a:Addr):HO->Prop
 |.lst xs=>xs.length<=sizeLine/\∃(its:List Value)(n:Nat),cw xs its/\h.get? a=some {cls:=.type "list",data:=.seq its.toArray n}
 |.tup xs=>xs.length<=sizeLine/\∃its:List Value,cw xs its/\IsTup h a its.toArray
 |.dK kvs=>kvs.length<=sizeLine/\(a == sysModules)=false/\∃vs,KV kvs vs/\h.DictOf (Eb P w) a vs
 | .dT kvs=>kvs.length<=sizeLine/\(a == sysModules)=false/\∃xs:List (List Td×Addr×Value),
   Paired (λ(p:List Td×V) (q:List Td×Addr×Value)=>p.1=q.1/\H q.2.1=some (.tup (p.1.map kV))/\cQ p.2 q.2.2) kvs xs /\
   ∃o es ep,h.get? a=some o/\o.ExactDict/\o.data=.dict es ep/\es.toList=xs.map (entryOfKey (tupleKind (Eb P w)))/\(xs.map (·.1)).Nodup
 |.set S n=>h.SetOf (intKind P w) a S n
 | .ins C dx fs=>H dx=some (.own a)/\fs.length<=1000/\dx≠a/\h.get? a=some (W.instObj C dx) /\
   ∃mA,h.Ns1 dx mA/\(∀f,Qv (fs.lookup f) (mA f))/\PySem.Within mA (fs.map (·.1))
 |.own _=>∃o,h.get? a=some o
 |.xd fs=>∃mA,h.Ns1 a mA/\∀f,Qv (fs.lookup f) (mA f)
 |.rng lo hi=>∃ t u v,h.get? a=some {cls:=.type "range",data:=.fields #[.int lo t,.int hi u,.int 1 v] }
 |.frz o u=>h.get? a=some o/\fj H h a u
 |.tbl q=>∃ps:Array Value,h.get? a=some {cls:=.none,data:=.fields ps}/\TriplesOk ps.toList/\∀pos cv,codeAmong pos ps.toList=some cv->∃c' oc,cv=.ref c'/\H c'=some (.frz oc (.own c'))/\BK oc q
 |.met f x=>h.get? a=some (W.methodObj (.ref f) (.ref x))
 |.ext φ=>φ h/\(∃o,h.get? a=some o)/\∀h1 h2:Heap,φ h1->(∀o,h1.get? a=some o->h2.get? a=some o)->φ h2
def Tf(H:Hp)(h:Heap):Prop:=∀a o,H a=some o->fj P w H h a o
end
section
variable{P:Program}{w:World}{H H':Hp}{h h':Heap}{a:Addr}{o:HO}
theorem fj.lt(x:fj P w H h a o):a<h.objs.size:=by
 cases o with
 |lst xs=>obtain⟨_,_,_,_,e⟩:=x;exact X2 e
 |tup xs=>obtain⟨_,_,_,p⟩:=x;exact p.lt
 |dK kvs=>obtain⟨_,_,_,_,o,_,_,e,_⟩:=x;exact X2 e
 |dT kvs=>obtain⟨_,_,_,_,o,_,_,e,_⟩:=x;exact X2 e
 |set S n=>obtain⟨o,_,_,_,e,_⟩:=x;exact X2 e
 |ins C dx fs=>obtain⟨_,_,_,e,_⟩:=x;exact X2 e
 |own y=>obtain⟨_,e⟩:=x;exact X2 e
 |xd fs=>obtain⟨_,⟨_,_,_,e,_⟩,_⟩:=x;exact X2 e
 |rng lo hi=>obtain⟨_,_,_,e⟩:=x;exact X2 e
 |frz ob u=>obtain⟨e,_⟩:=x;exact X2 e
 |tbl q=>obtain⟨_,e,_⟩:=x;exact X2 e
 |met f y=>exact X2 (show h.get? a=some _ from x)
 |ext φ=>obtain⟨_,⟨_,e⟩,_⟩:=x;exact X2 e
theorem Paired.mapP{α β:Type}{F G:α->β->Prop}:∀{l₁:List α}{l₂:List β},Paired F l₁ l₂->(∀a b,F a b->G a b)->Paired G l₁ l₂:=by
 intro l₁ l₂ p f
 induction p with
 |nil=>exact .nil
 |cons r t ih=>exact .cons (f _ _ r) ih
theorem fj.stay(x:fj P w H h a o)(k:∀b u,(b=a∨H b=some (.own a))->h.get? b=some u->h'.get? b=some u)
  (ho:∀b,H b=some (.own a)->H' b=some (.own a)) (ht:∀b xs,H b=some (.tup xs)->H' b=some (.tup xs)) (hf:∀b o q,BK o q->H b=some (.frz o (.own b))->H' b=some (.frz o (.own b))):fj P w H' h' a o:=by
 induction o with
 |lst xs=>obtain⟨z,its,n,r,e⟩:=x;exact⟨z,its,n,r,k _ _ (.inl rfl) e⟩
 |tup xs=>obtain⟨z,its,r,ob,e,c⟩:=x;exact⟨z,its,r,ob,k _ _ (.inl rfl) e,c⟩
 |dK kvs=>obtain⟨z,y,vs,r,ob,es,ep,e,c⟩:=x;exact⟨z,y,vs,r,ob,es,ep,k _ _ (.inl rfl) e,c⟩
 | dT kvs =>
  obtain⟨z,y,xs,r,ob,es,ep,e,c⟩:=x;exact⟨z,y,xs,Paired.mapP r λp q z=>⟨z.1,ht _ _ z.2.1,z.2.2⟩,ob,es,ep,k _ _ (.inl rfl) e,c⟩
 |set S n=>obtain⟨ob,es,ep,t,e,c⟩:=x;exact⟨ob,es,ep,t,k _ _ (.inl rfl) e,c⟩
 | ins C dx fs =>
  obtain⟨d,z,ne,e,mA,⟨od,es,ep,e2,c⟩,r⟩:=x;exact⟨ho _ d,z,ne,k _ _ (.inl rfl) e,mA,⟨od,es,ep,k _ _ (.inr d) e2,c⟩,r⟩
 |own y=>obtain⟨ob,e⟩:=x;exact⟨ob,k _ _ (.inl rfl) e⟩
 |xd fs=>obtain⟨mA,⟨od,es,ep,e,c⟩,r⟩:=x;exact⟨mA,⟨od,es,ep,k _ _ (.inl rfl) e,c⟩,r⟩
 |rng lo hi=>obtain⟨t,u,v,e⟩:=x;exact⟨t,u,v,k _ _ (.inl rfl) e⟩
 |frz ob u ih=>obtain⟨e,q⟩:=x;exact⟨k _ _ (.inl rfl) e,ih q⟩
 | tbl q =>
  obtain⟨ps,e,tr,m⟩:=x
  exact⟨ps,k a _ (.inl rfl) e,tr,λpos cv z=>let ⟨c',oc,a1,a2,a3⟩:=m pos cv z;⟨c',oc,a1,hf _ _ _ a3 a2,a3⟩⟩
 | met f y =>
  have e:h.get? a=some (W.methodObj (.ref f) (.ref y)):=x;show h'.get? a=some (W.methodObj (.ref f) (.ref y));exact k a _ (.inl rfl) e
 |ext φ=>obtain⟨p,⟨o,e⟩,st⟩:=x;exact⟨st _ _ p λo q=>k _ _ (.inl rfl) q,⟨o,k _ _ (.inl rfl) e⟩,st⟩
theorem Tf.lt(x:Tf P w H h)(e:H a=some o):a<h.objs.size:=(x a o e).lt
theorem Tf.fresh(x:Tf P w H h)(e:h.objs.size<=a):H a=none:=by
 cases q:H a with
 |none=>rfl
 |some u=>exact absurd (XX (x.lt q) e) (Y1 _)
theorem Tf.kept(x:Tf P w H h)(k:∀b u,h.get? b=some u->h'.get? b=some u):Tf P w H h':=λa o e =>
 (x a o e).stay (λb u _ q=>k b u q) (λ_ q=>q) (λ_ _ q=>q) λ_ _ _ _ q=>q
theorem Tf.laid(x:Tf P w H h)(k:∀b u,h.get? b=some u->h'.get? b=some u)(hp:h.objs.size<=a)(new:fj P w (Te H a o) h' a o):Tf P w (Te H a o) h':=λb u e=>by
 have hn:=x.fresh hp;by_cases hb:b=a
 . subst hb;rw[cb]at e;cases e;exact new
 . rw[aT hb]at e;exact(x b u e).stay (λc v _ q=>k c v q) (λc q=>by rw[aT (bL q hn)];exact q) (λc xs q=>by rw[aT (bL q hn)];exact q) λc ob _ _ q=>by rw[aT (bL q hn)];exact q
end
def Rd(H:Hp)(a:Addr)(u:HO):Prop:=H a=some u∨∃o,H a=some (.frz o u)
theorem Rd.ok{P:Program}{w:World}{H:Hp}{h:Heap}{a:Addr}{u:HO}(r:Rd H a u)(x:Tf P w H h):fj P w H h a u:=by
 rcases r with r|⟨o,r⟩
 . exact x a u r
 . obtain⟨_,q⟩:=x a _ r;exact q
def Th:Option HO->Prop
 |some (.lst _)=>True
 |some (.dK _)=>True
 |some (.dT _)=>True
 |some (.set _ _)=>True
 |some (.ins _ _ _)=>True
 |some (.ext _)=>True
 |_=>False
section
variable{P:Program}{w:World}{H:Hp}{h h':Heap}{x e:Addr}{o':HO}
theorem Tf.write(ok:Tf P w H h)(mu:Th (H x))(he:e=x∨H e=some (.own x))(k:∀b u,b≠e->h.get? b=some u->h'.get? b=some u)(heo:∃u,h'.get? e=some u)
  (new:fj P w (Te H x o') h' x o'):Tf P w (Te H x o') h':=λb u q=>by
 have nown:∀c y,H c=some (.own y)->c≠x:=λc y r z=>by subst z;rw[r]at mu;exact mu
 have ntup:∀c xs,H c=some (.tup xs)->c≠x:=λc xs r z=>by subst z;rw[r]at mu;exact mu
 have nfrz:∀c o u,H c=some (.frz o u)->c≠x:=λc o u r z=>by subst z;rw[r]at mu;exact mu
 by_cases hb:b=x
 . subst hb;rw[cb]at q;cases q;exact new
 .
  rw[aT hb]at q;by_cases hbe:b=e
  .
   have q':H b=some (.own x):=by
    rcases he with z|z
    . exact absurd (hbe.trans z) hb
    . rw[hbe];exact z
   rw[q]at q';cases q';obtain⟨v,hv⟩:=heo;exact⟨v,by rw[hbe];exact hv⟩
  .
   refine(ok b u q).stay (λc v hc r=>k c v ?_ r) (λc r=>by rw[aT (nown c b r)];exact r) (λc xs r=>by rw[aT (ntup c xs r)];exact r) λc ob _ _ r=>by rw[aT (nfrz c ob _ r)];exact r
   rcases hc with rfl|hc
   . exact hbe
   .
    rintro rfl;rcases he with z|z
    . exact nown c b hc z
    . rw[hc]at z;cases z;exact hb rfl
end
structure Un (fs ex:List Addr) (H H':Hp) (h h':Heap):Prop where
 keep:∀b o,h.get? b=some o->H b=none->b∉fs->b∉ex->h'.get? b=some o
 slot:∀b o,h.get? b=some o->H b=none->b∈fs->b∉ex->∃sl,h'.get? b=some {o with slots:=sl}
 free:∀b o,h.get? b=some o->H b=none->b∉ex->H' b=none
 there:∀b o,h.get? b=some o->b∉ex->∃o',h'.get? b=some o'
 tups:∀b xs,H b=some (.tup xs)->H' b=some (.tup xs)
 frzs:∀b o u,H b=some (.frz o u)->H' b=some (.frz o u)
 tbls:∀b q,H b=some (.tbl q)->H' b=some (.tbl q)
section
variable{fs ex:List Addr}{H H1:Hp}{h h1 h':Heap}{a x e:Addr}{o:HO}
theorem Un.any(u:Un fs ex H H1 h h1){b:Addr}{ob:Obj}(q:h.get? b=some ob)(n:H b=none)(hx:b∉ex):∃sl,h1.get? b=some {ob with slots:=sl}:=by
 by_cases hb:b∈fs
 . exact u.slot b ob q n hb hx
 . exact⟨ob.slots,u.keep b ob q n hb hx⟩
theorem Un.kept(k:∀b u,h.get? b=some u->h'.get? b=some u):Un fs ex H H h h' :=
 ⟨λb ob q _ _ _=>k b ob q,λb ob q _ _ _=>⟨ob.slots,k b ob q⟩,λ_ _ _ n _=>n,λb ob q _=>⟨ob,k b ob q⟩,λ_ _ q=>q,λ_ _ _ q=>q,λ_ _ q=>q⟩
theorem Un.refl:Un fs ex H H h h:=Un.kept λ_ _ q=>q
theorem Un.laid(k:∀b u,h.get? b=some u->h'.get? b=some u)(hp:h.objs.size<=a)(hn:H a=none):Un fs ex H (Te H a o) h h' where
 keep:=λb u q _ _ _=>k b u q
 slot:=λb u q _ _ _=>⟨u.slots,k b u q⟩
 free:=λb u q n _=>by rw[aT (Yi (XX (X2 q) hp))];exact n
 there:=λb u q _=>⟨u,k b u q⟩
 tups:=λb xs q=>by rw[aT (bL q hn)];exact q
 frzs:=λb u xs q=>by rw[aT (bL q hn)];exact q
 tbls:=λb ps q=>by rw[aT (bL q hn)];exact q
theorem Un.write(mu:Th (H x))(he:e=x∨H e=some (.own x))(k:∀b u,b≠e->h.get? b=some u->h'.get? b=some u)(heo:∃u,h'.get? e=some u):Un fs ex H (Te H x o) h h':=by
 have hx:∀b,H b=none->b≠x:=λb n z=>by subst z;rw[n]at mu;exact mu
 have hb:∀b,H b=none->b≠e:=λb n z=>by
  subst z;rcases he with r|r
  . exact hx b n r
  . rw[n]at r;cases r
 have hm:∀b u,H b=some u->¬Th (some u)->b≠x:=λb u q nm z=>by subst z;rw[q]at mu;exact nm mu
 refine⟨λb u q n _ _=>k b u (hb b n) q,λb u q n _ _=>⟨u.slots,k b u (hb b n) q⟩,λb u q n _=>by rw[aT (hx b n)];exact n,λb u q _=>?_,
  λb xs q=>by rw[aT (hm b _ q λz=>z)];exact q,λb u xs q=>by rw[aT (hm b _ q λz=>z)];exact q,λb ps q=>by rw[aT (hm b _ q λz=>z)];exact q⟩
 by_cases hbe:b=e
 . subst hbe;exact heo
 . exact⟨u,k b u hbe q⟩
end
noncomputable def Ti(h:Heap)(H:Hp):List Addr:=(List.range h.objs.size).filter λa=>(H a).isSome
noncomputable def HN(h:Heap)(H:Hp):Heap:=W.hideAll h (Ti h H)
theorem Ec(h:Heap)(H:Hp):(HN h H).objs.size=h.objs.size:=W.hideAll_size _ _
theorem HP{h:Heap}{H:Hp}{b:Addr}{o:Obj}(e:h.get? b=some o)(n:H b=none):(HN h H).get? b=some o :=
 W.hideAll_get _ e λhm=>by have q:(H b).isSome=true:=(ZK.mp hm).2;rw[n]at q;simp at q
theorem Lg{h:Heap}{H:Hp}{b:Addr}{o:Obj}(e:(HN h H).get? b=some o):h.get? b=some o/\H b=none:=by
 have e':h.get? b=some o:=W.of_hideAll (Ti h H) e;refine⟨e',?_⟩
 cases q:H b with
 |none=>rfl
 | some x =>
  have hm:b∈Ti h H:=ZK.mpr ⟨Yb.mpr (X2 e'),by simp[q]⟩;have z:(HN h H).get? b=none:=W.hideAll_none (Ti h H) hm;rw[z]at e;cases e
noncomputable def Lh(g h:Heap)(L:Addr):List (Addr×Obj):=(List.range h.objs.size).filterMap λa=>if a=L∨(g.get? a).isSome=true then none else(h.get? a).map λo=>(a,o)
noncomputable def di(g h:Heap)(L d:Addr):List (Addr×Obj):=(Lh g h L).filter λp=>decide (p.1≠d)
def Og(mg:Str->Option Value)(h:Heap):Prop:=∃ bm ob,mg "__builtins__"=some (.ref bm)/\bm≠builtinsNs/\h.get? bm=some ob/\ob.cls=.type "module"/\ob.dict=some builtinsNs/\ob.data=.plain
noncomputable def lamNames:List Str:=["look_at_asks","by_lesser_place","look_at_string"]
noncomputable def Oh(x:Str):Str:=(x++".<locals>.")++"<lambda>"
def Tj(K:W.Frag)(H:Hp):Prop:=∀x∈lamNames,∀c P,W.tabIn K x=some (c,P)->H P=some (.tbl (Oh x))
theorem Tj.un{K:W.Frag}{fs ex:List Addr}{H H':Hp}{h h':Heap}(t:Tj K H)(u:Un fs ex H H' h h'):Tj K H':=λx hx c P e=>u.tbls _ _ (t x hx c P e)
structure Mod (K:W.Frag) (mg:Str->Option Value) (base:Heap):Prop where
 kin:K.In base
 glob:base.Ns mainGlobals mg
 blt:∃ mb,base.Ns builtinsNs mb/\∀ x:Str,x≠"__name__"->mb x=bootBuiltins x
 nolimit:base.NoLimit
 sysm:∃mm,base.Ns sysModules mm
 bmn:Og mg base
 cds:∀x∈lamNames,∀c P,W.tabIn K x=some (c,P)->W.CodeHd base c P
/-- the context: a def's body (or a comprehension's Li) running. base: fixed through the whole law;s₀,H₀: the entry;outer: the frames whose slots others may change (a def's callers);stack: all frames that run;
  ex: iterators that were made ahead of the entry and are walked here (a comprehension's);fn: the names whose cells were made at the entry (a def: all;a comprehension's Li: its own);calm: not g7 an except suite;pn: ab that every state bears;xe: what is wanted of an exception that leaves the code -/
structure Cx where
 prog:Program
 w:World
 K:W.Frag
 mg:Str->Option Value
 base:Heap
 A:Around
 N:List Str
 s₀:Shared
 H₀:Hp
 env:Env
 outer:List Env
 stack:List Env
 ex:List Addr
 fn:Str->Bool
 calm:Bool
 pn:List (Addr×Obj)
 xe:Value->Shared->Prop
noncomputable def frs(l:List Env):List Addr:=l.filterMap (·.frame)
noncomputable abbrev Cx.fs(X:Cx):List Addr:=frs X.outer
def Tn(sc:Scope)(x:Str):Prop:=sc.names.lookup x=some .local∨sc.names.lookup x=some .cell∨sc.names.lookup x=some .free
def To(sc:Scope)(x:Str):Prop:=sc.names.lookup x=some .local∨sc.names.lookup x=some .cell
def Sr(env:Env)(h:Heap)(m:Str->Option Value)(x:Str)(u:Value):Prop :=
 (env.kindOf x=some .local/\m x=some u)∨((env.kindOf x=some .cell∨env.kindOf x=some .free)/\∃c,env.cells.lookup x=some c/\h.IsCell c (some u))
structure Cx.Ok (X:Cx):Prop where
 mod:Mod X.K X.mg X.base
 kind:X.env.scope.kind=.function
 glob:X.env.globals=mainGlobals
 blt:X.env.builtins=builtinsNs
 above:X.s₀.heap.objs.size<=X.env.locals
 inj:∀x y c,X.env.cells.lookup x=some c->X.env.cells.lookup y=some c->x=y
 has:∀x,(X.env.kindOf x=some .cell∨X.env.kindOf x=some .free)->∃c,X.env.cells.lookup x=some c
 cab:∀x c,X.fn x=true->X.env.cells.lookup x=some c->X.s₀.heap.objs.size<=c
 hd:X.calm=true->X.A.handled=none
 frames:X.A.frames=some X.stack
 stk:X.stack=X.outer∨(X.stack=X.env::X.outer/\X.env.frame=some X.env.locals)
 exf:∀b∈X.ex,b≠X.env.locals/\∀x c,X.env.cells.lookup x=some c->c≠b
 bs:∀b o,X.base.get? b=some o->X.s₀.heap.get? b=some o/\X.H₀ b=none
 bsz:X.base.objs.size<=X.s₀.heap.objs.size
 noex:∀b o,X.base.get? b=some o->b∉X.ex
 exfs:∀b∈X.ex,b∉X.fs
 funs:X.s₀.heap.FunFrames X.base X.outer
 frf:∀b∈X.fs,X.H₀ b=none
 tbs:Tj X.K X.H₀
structure Tp (X:Cx) (ab:List (Addr×Obj)) (σ:List (Option V)) (H:Hp) (s:Shared):Prop where
 ok:X.Ok
 os:s.os=X.s₀.os
 bare:AllBare s.gens
 base:Un X.fs X.ex X.H₀ H X.s₀.heap s.heap
 loc:∃m,s.heap.Ns X.env.locals m/\∀(i:Nat)(x:Str)(v:V),X.N[i]?=some x->σ[i]?=some (some v)->Tn X.env.scope x->∃u,cQ v u/\Sr X.env s.heap m x u
 cell:∀x c,X.env.cells.lookup x=some c->∃v,s.heap.IsCell c v
 free:H X.env.locals=none
 freeC:∀x c,X.env.cells.lookup x=some c->H c=none∨(X.fn x=false/\∃o,H c=some (.frz o (.own c)))
 pin:∀p∈X.pn++ab,s.heap.get? p.1=some p.2/\H p.1=none/\p.1≠X.env.locals/\p.1∉X.fs/\∀v,p.2.data≠.cell v
 hok:Tf X.prog X.w H s.heap
 len:σ.length=X.N.length
section
variable{X:Cx}{ab:List (Addr×Obj)}{σ:List (Option V)}{H H':Hp}{s:Shared}{h':Heap}
theorem Cx.Ok.nofr(ok:X.Ok){b:Addr}{o:Obj}(e:X.base.get? b=some o):b∉X.fs:=λhb=>by have:=(ok.funs.mem hb).1;rw[e]at this;cases this
theorem Tp.bs(I:Tp X ab σ H s):∀b o,X.base.get? b=some o->s.heap.get? b=some o/\H b=none:=λb o e =>
 ⟨I.base.keep b o (I.ok.bs b o e).1 (I.ok.bs b o e).2 (I.ok.nofr e) (I.ok.noex b o e),I.base.free b o (I.ok.bs b o e).1 (I.ok.bs b o e).2 (I.ok.noex b o e)⟩
theorem Tp.bk(I:Tp X ab σ H s):∀b o,X.base.get? b=some o->s.heap.get? b=some o:=λb o e=>(I.bs b o e).1
theorem Tp.tbs(I:Tp X ab σ H s):Tj X.K H:=I.ok.tbs.un I.base
theorem Tp.mod(I:Tp X ab σ H s):Mod X.K X.mg X.base:=I.ok.mod
theorem Tp.kIn(I:Tp X ab σ H s):X.K.In s.heap:=I.ok.mod.kin.keeps I.bk
theorem Tp.lt(I:Tp X ab σ H s):X.env.locals<s.heap.objs.size:=let ⟨_,hn,_⟩:=I.loc;hn.lt
theorem Tp.sz(I:Tp X ab σ H s):X.s₀.heap.objs.size<=s.heap.objs.size:=X0 I.ok.above (Za I.lt)
theorem Tp.nofs(I:Tp X ab σ H s){a:Addr}(h:s.heap.objs.size<=a):a∉X.fs:=λhb=>by obtain⟨_,o,ho,_⟩:=I.ok.funs.mem hb;exact absurd (XX (X2 ho) (X0 I.sz h)) (Y1 _)
theorem Tp.cne(I:Tp X ab σ H s):∀x c,X.env.cells.lookup x=some c->c≠X.env.locals:=λx c e z=>by obtain⟨v,o,ho,hd⟩:=I.cell x c e;obtain⟨m,⟨o',es,ep,ho',hd',_⟩,_⟩:=I.loc;rw[z,ho']at ho;cases ho;rw[hd']at hd;cases hd
theorem Tp.funs(I:Tp X ab σ H s):s.heap.FunFrames X.base X.outer:=by
 have all:∀(l:List Env),(∀b∈frs l,b∈X.fs)->X.s₀.heap.FunFrames X.base l->s.heap.FunFrames X.base l:=by
  intro l
  induction l with
  |nil=>intro _ _;trivial
  | cons env r ih =>
   intro hs hl;obtain⟨hk,⟨L,o,hf,hn,ho,hd⟩,hr⟩:=hl;have hL:L∈X.fs:=hs L (by unfold frs;rw[Y0,hf];exact XU);obtain⟨sl,e⟩:=I.base.slot L o ho (I.ok.frf L hL) hL λz=>I.ok.exfs L z hL;exact⟨hk,⟨L,_,hf,hn,e,hd⟩,ih (λb hb=>hs b (by unfold frs;rw[Y0,hf];exact p3 _ hb)) hr⟩
 exact all X.outer (λ_ hb=>hb) I.ok.funs
theorem Tp.stack(I:Tp X ab σ H s):s.heap.FunFrames X.base X.stack:=by
 rcases I.ok.stk with e|⟨e,hf⟩
 . rw[e];exact I.funs
 . rw[e];obtain⟨m,hn,_⟩:=I.loc;refine .cons (by rw[I.ok.kind];decide) hf hn ?_ I.funs;exact Heap.get?_none_of_le (X0 I.ok.bsz I.ok.above)
theorem Tp.stkSub(I:Tp X ab σ H s):∀b∈frs X.stack,b∈X.env.locals::X.fs:=λb hb=>by
 rcases I.ok.stk with e|⟨e,hf⟩
 . rw[e]at hb;exact p3 _ hb
 . rw[e]at hb;unfold frs at hb;rw[Y0,hf]at hb;exact hb
theorem Tp.stkFree(I:Tp X ab σ H s):∀b∈frs X.stack,H b=none:=λb hb=>by
 rcases XW.mp (I.stkSub b hb)with e|hb
 . rw[e];exact I.free
 . obtain⟨_,o,ho,_⟩:=I.ok.funs.mem hb;exact I.base.free b o ho (I.ok.frf b hb) λz=>I.ok.exfs b z hb
theorem Tp.step{g':Array GenState}{t':Nat}{d':Drawn}{ch:List Addr}(I:Tp X ab σ H s)
  (hch:∀b∈ch,(b∈X.ex∨X.s₀.heap.objs.size<=b)/\b≠X.env.locals/\(∀x c,X.env.cells.lookup x=some c->c≠b)/\∀p∈X.pn++ab,p.1≠b)
  (keep:∀b o,b≠X.env.locals->b∉X.fs->b∉ch->s.heap.get? b=some o->H b=none->h'.get? b=some o)
  (slot:∀b o,b≠X.env.locals->b∈X.fs->b∉ch->s.heap.get? b=some o->H b=none->∃sl,h'.get? b=some {o with slots:=sl}) (free:∀b o,b∉ch->s.heap.get? b=some o->H b=none->H' b=none)
  (there:∀b o,b∉ch->s.heap.get? b=some o->∃o',h'.get? b=some o')
  (tups:∀b xs,H b=some (.tup xs)->H' b=some (.tup xs)) (frzs:∀b o u,H b=some (.frz o u)->H' b=some (.frz o u)) (tbls:∀b q,H b=some (.tbl q)->H' b=some (.tbl q))
  (ns:∀m,s.heap.Ns X.env.locals m->h'.Ns X.env.locals m) (hok:Tf X.prog X.w H' h') (hg:AllBare g') :
  Tp X ab σ H' {s with heap:=h',gens:=g',drawn:=d',toks:=t' }:=by
 have neL:∀b o,X.s₀.heap.get? b=some o->b≠X.env.locals:=λb o e=>Yi (XX (X2 e) I.ok.above)
 have neC:∀b o,X.s₀.heap.get? b=some o->b∉X.ex->b∉ch:=λb o e hx hb=>by
  rcases(hch b hb).1 with z|z
  . exact hx z
  . exact absurd (XX (X2 e) z) (Y1 _)
 have cellK:∀x c,X.env.cells.lookup x=some c->∀v,s.heap.IsCell c v->h'.IsCell c v:=λx c e v ⟨o,ho,hd⟩=>by
  have nch:c∉ch:=λz=>(hch c z).2.2.1 x c e rfl;rcases I.freeC x c e with hn|⟨_,o2,hz⟩
  .
   by_cases hc:c∈X.fs
   . obtain⟨sl,q⟩:=slot c o (I.cne x c e) hc nch ho hn;exact⟨_,q,hd⟩
   . exact⟨o,keep c o (I.cne x c e) hc nch ho hn,hd⟩
  . have e1:=(I.hok c _ hz).1;rw[ho]at e1;cases e1;exact⟨o,(hok c _ (frzs c _ _ hz)).1,hd⟩
 refine⟨I.ok,I.os,hg,⟨λb o e n hb hx=>?_,λb o e n hb hx=>?_,λb o e n hx=>?_,λb o e hx=>?_,λb xs e=>tups b xs (I.base.tups b xs e),λb o xs e=>frzs b o xs (I.base.frzs b o xs e),λb ps e=>?_⟩,?_,λx c e=>?_,?_,λx c e=>?_,λp hp=>?_,hok,I.len⟩
 . exact keep b o (neL b o e) hb (neC b o e hx) (I.base.keep b o e n hb hx) (I.base.free b o e n hx)
 . obtain⟨sl,e1⟩:=I.base.slot b o e n hb hx;obtain⟨sl',e2⟩:=slot b _ (neL b o e) hb (neC b o e hx) e1 (I.base.free b o e n hx);exact⟨sl',e2⟩
 . obtain⟨o',e1⟩:=I.base.there b o e hx;exact free b o' (neC b o e hx) e1 (I.base.free b o e n hx)
 . obtain⟨o',e1⟩:=I.base.there b o e hx;exact there b o' (neC b o e hx) e1
 . exact tbls b ps (I.base.tbls b ps e)
 .
  obtain⟨m,hn,hl⟩:=I.loc;refine⟨m,ns m hn,λi x v e1 e2 e3=>?_⟩;obtain⟨u,r,l⟩:=hl i x v e1 e2 e3;refine⟨u,r,?_⟩;rcases l with l|⟨k,c,e,z⟩
  . exact .inl l
  . exact .inr ⟨k,c,e,cellK x c e _ z⟩
 . obtain⟨v,z⟩:=I.cell x c e;exact⟨v,cellK x c e v z⟩
 . obtain⟨m,⟨o,_,_,ho,_⟩,_⟩:=I.loc;exact free _ o (λz=>(hch _ z).2.1 rfl) ho I.free
 .
  obtain⟨v,o,ho,hd⟩:=I.cell x c e;rcases I.freeC x c e with hn|⟨hf,o2,hz⟩
  . exact .inl (free c o (λz=>(hch c z).2.2.1 x c e rfl) ho hn)
  . exact .inr ⟨hf,o2,frzs c _ _ hz⟩
 . obtain⟨e,n,ne,nf,d⟩:=I.pin p hp;have nch:p.1∉ch:=λz=>(hch p.1 z).2.2.2 p hp rfl;exact⟨keep p.1 p.2 ne nf nch e n,free p.1 p.2 nch e n,ne,nf,d⟩
theorem Tp.un{t':Nat}(I:Tp X ab σ H s)(u:Un X.fs [] H H' s.heap h')(hok:Tf X.prog X.w H' h'):Tp X ab σ H' {s with heap:=h',toks:=t' }:=by
 obtain⟨m,⟨o,es,ep,ho,r⟩,_⟩:=id I.loc;obtain⟨sl,hL⟩:=u.any ho I.free x_
 exact I.step (g':=s.gens) (d':=s.drawn) (ch:=[]) (λ_ z=>nomatch z) (λb o _ hb _ e n=>u.keep b o e n hb x_) (λb o _ hb _ e n=>u.slot b o e n hb x_) (λb o _ e n=>u.free b o e n x_) (λb o _ e=>u.there b o e x_) u.tups u.frzs u.tbls (λm' hm=>by
  obtain⟨o',es',ep',ho',r'⟩:=hm;rw[ho]at ho';cases ho'
  exact⟨_,es',ep',hL,r'⟩) hok I.bare
theorem Tp.call{g':Array GenState}{t':Nat}{d':Drawn}{ch:List Addr}(I:Tp X ab σ H s)(u:Un (frs X.stack) ch H H' s.heap h')(hok:Tf X.prog X.w H' h')(hg:AllBare g')
  (hch:∀b∈ch,(b∈X.ex∨X.s₀.heap.objs.size<=b)/\b≠X.env.locals/\(∀x c,X.env.cells.lookup x=some c->c≠b)/\∀p∈X.pn++ab,p.1≠b) :
  Tp X ab σ H' {s with heap:=h',gens:=g',drawn:=d',toks:=t' }:=by
 obtain⟨m,⟨o,es,ep,ho,r⟩,_⟩:=id I.loc;obtain⟨sl,hL⟩:=u.any ho I.free λz=>(hch _ z).2.1 rfl
 exact I.step (ch:=ch) hch (λb o hL hb hc e n=>u.keep b o e n (λz=>(XW.mp (I.stkSub b z)).elim hL hb) hc) (λb o _ _ hc e n=>u.any e n hc) (λb o hc e n=>u.free b o e n hc) (λb o hc e=>u.there b o e hc) u.tups u.frzs u.tbls (λm' hm=>by
  obtain⟨o',es',ep',ho',r'⟩:=hm;rw[ho]at ho';cases ho'
  exact⟨_,es',ep',hL,r'⟩) hok hg
theorem Tp.turned{t':Nat}{it:Addr}(I:Tp X ab σ H s)(k:∀b o,b≠it->s.heap.get? b=some o->h'.get? b=some o)(hn:H it=none)(hL:it≠X.env.locals)
  (h1:it∈X.ex∨X.s₀.heap.objs.size<=it) (h2:∀x c,X.env.cells.lookup x=some c->c≠it) (h3:∀p∈X.pn++ab,p.1≠it):Tp X ab σ H {s with heap:=h',toks:=t' }:=by
 have nit:∀b u,H b=some u->b≠it:=λb u e z=>by rw[z,hn]at e;cases e
 refine I.step (g':=s.gens) (d':=s.drawn) (ch:=[it]) (λb hb=>?_) (λb o _ _ hc e _=>k b o (λz=>hc (by simp[z])) e) (λb o _ _ hc e _=>⟨o.slots,k b o (λz=>hc (by simp[z])) e⟩) (λ_ _ _ _ n=>n)
  (λb o hc e=>⟨o,k b o (λz=>hc (by simp[z])) e⟩) (λ_ _ e=>e) (λ_ _ _ e=>e) (λ_ _ e=>e) (λm hm=>?_) (λb u e=>?_) I.bare
 .
  have e:b=it:=by simpa using hb
  subst e;exact⟨h1,hL,h2,h3⟩
 . obtain⟨o,es,ep,ho,r⟩:=hm;exact⟨o,es,ep,k _ o (YE hL) ho,r⟩
 .
  refine(I.hok b u e).stay (λc v hc q=>k c v ?_ q) (λ_ q=>q) (λ_ _ q=>q) λ_ _ _ _ q=>q;rcases hc with z|z
  . rw[z];exact nit b u e
  . exact nit c _ z
theorem Tp.tok(I:Tp X ab σ H s)(t:Nat):Tp X ab σ H {s with toks:=t}:=I.un (h':=s.heap) (t':=t) Un.refl I.hok
theorem Tp.kept{t':Nat}(I:Tp X ab σ H s)(k:∀b u,s.heap.get? b=some u->h'.get? b=some u):Tp X ab σ H {s with heap:=h',toks:=t' }:=I.un (Un.kept k) (I.hok.kept k)
theorem Tp.laid{a:Addr}{o:HO}{t':Nat}(I:Tp X ab σ H s)(k:∀b u,s.heap.get? b=some u->h'.get? b=some u)(hp:s.heap.objs.size<=a)(new:fj X.prog X.w (Te H a o) h' a o) :
  Tp X ab σ (Te H a o) {s with heap:=h',toks:=t' }:=I.un (Un.laid k hp (I.hok.fresh hp)) (I.hok.laid k hp new)
theorem Tp.write{x e:Addr}{o:HO}{t':Nat}(I:Tp X ab σ H s)(mu:Th (H x))(he:e=x∨H e=some (.own x))(k:∀b u,b≠e->s.heap.get? b=some u->h'.get? b=some u)(heo:∃u,h'.get? e=some u)
  (new:fj X.prog X.w (Te H x o) h' x o):Tp X ab σ (Te H x o) {s with heap:=h',toks:=t' }:=I.un (Un.write mu he k heo) (I.hok.write mu he k heo new)
theorem Tp.pins_of{pins':List (Addr×Obj)}(I:Tp X ab σ H s)(h:∀p∈pins',s.heap.get? p.1=some p.2/\H p.1=none/\p.1≠X.env.locals/\p.1∉X.fs/\∀v,p.2.data≠.cell v):Tp X pins' σ H s :=
 ⟨I.ok,I.os,I.bare,I.base,I.loc,I.cell,I.free,I.freeC,λp hp=>(Ys.mp hp).elim (λz=>I.pin p (Yz _ z)) (h p),I.hok,I.len⟩
theorem BL{N:List Str}(hN:N.Nodup){i j:Nat}{x:Str}(a:N[i]?=some x)(b:N[j]?=some x):i=j:=by obtain⟨h1,e1⟩:=tu.mp a;obtain⟨h2,e2⟩:=tu.mp b;exact(List.getElem_inj hN).mp (e1.trans e2.symm)
theorem yd{M:Model}{A:Around}{E:Value->Shared->Prop}{i:Nat}{x:Str}{v:V}{u:Value}{Q:Unit->Shared->Prop}(I:Tp X ab σ H s)(hN:X.N.Nodup)(hi:X.N[i]?=some x)(hx:To X.env.scope x)(r:cQ v u)
  (h:∀s',Tp X ab (σ.set i (some v)) H s'->(∃a,Heap.SameBut a s.heap s'.heap/\(a=X.env.locals∨X.env.cells.lookup x=some a))->Q () s') (hf:autoParam (X.fn x=true∨X.env.scope.names.lookup x=some .local) acK):wpAny M A (storeName X.env x u) Q E s:=by
 obtain⟨m,hn,hl⟩:=id I.loc;have hcls:(X.env.scope.kind == .class ||(X.env.scope.kind == .module && X.env.locals != X.env.globals))=false:=by rw[I.ok.kind];rfl
 have hiσ:i<σ.length:=by rw[I.len];exact(tu.mp hi).1
 have cne:=I.cne
 have tracked:∀{a:Addr}{h':Heap},(∃o,s.heap.get? a=some o/\H a=none)->Heap.SameBut a s.heap h'->Tf X.prog X.w H h':=λ{a h'} ha hs b ob e=>by
  obtain⟨_,_,hfree⟩:=ha;refine(I.hok b ob e).stay (λc w' hc q=>(hs.2 c ?_).trans q) (λ_ q=>q) (λ_ _ q=>q) λ_ _ _ _ q=>q;rintro rfl;rcases hc with rfl|hc
  . rw[hfree]at e;cases e
  . rw[hfree]at hc;cases hc
 rcases hx with hk|hk
 .
  refine wpAny_storeName_local hk hn (λh' hn' hs=>?_) hcls;obtain⟨oL,_,_,hoL,_⟩:=id hn;refine h _ ⟨I.ok,I.os,I.bare,⟨λb o e n hb hx=>?_,λb o e n hb hx=>?_,I.base.free,λb o e hx=>?_,I.base.tups,I.base.frzs,I.base.tbls⟩,⟨_,hn',λj y v' e1 e2 e3=>?_⟩,λy c e=>?_,I.free,I.freeC,λp hp=>?_,tracked ⟨oL,hoL,I.free⟩ hs,by simpa using I.len⟩ ⟨_,hs,.inl rfl⟩
  . exact(hs.2 b (Yi (XX (X2 e) I.ok.above))).trans (I.base.keep b o e n hb hx)
  . obtain⟨sl,e1⟩:=I.base.slot b o e n hb hx;exact⟨sl,(hs.2 b (Yi (XX (X2 e) I.ok.above))).trans e1⟩
  . obtain⟨o',e1⟩:=I.base.there b o e hx;exact⟨o',(hs.2 b (Yi (XX (X2 e) I.ok.above))).trans e1⟩
  .
   by_cases hj:j=i
   . subst hj;rw[hi]at e1;cases e1;rw[Zw hiσ]at e2;cases e2;exact⟨u,r,.inl ⟨hk,x_⟩⟩
   .
    rw[aae (YE hj)]at e2;obtain⟨u',r',q⟩:=hl j y v' e1 e2 e3;refine⟨u',r',?_⟩;rcases q with⟨k,e⟩|⟨k,c,e,z⟩
    . refine .inl ⟨k,?_⟩;have:y≠x:=λe=>hj (BL hN e1 (e ▸ hi));simp[this,e]
    . exact .inr ⟨k,c,e,z.sameBut hs (cne y c e)⟩
  . obtain⟨w',z⟩:=I.cell y c e;exact⟨w',z.sameBut hs (cne y c e)⟩
  . obtain⟨e,n,ne,nf,d⟩:=I.pin p hp;exact⟨(hs.2 p.1 ne).trans e,n,ne,nf,d⟩
 .
  have hfn:X.fn x=true:=by
   rcases hf with z|z
   . exact z
   . rw[z]at hk;cases hk
  obtain⟨c,hc⟩:=I.ok.has x (.inl hk);obtain⟨w',z⟩:=I.cell x c hc;refine wpAny_storeName_cell I.ok.kind hk hc z (λh' hc' hs=>?_);obtain⟨oc,hoc,hocd⟩:=id z;refine h {s with heap:=h' } ⟨I.ok,I.os,I.bare,⟨λb o e n hb hx=>?_,λb o e n hb hx=>?_,I.base.free,λb o e hx=>?_,I.base.tups,I.base.frzs,I.base.tbls⟩,⟨m,hn.sameBut hs (YE (cne x c hc)),λj y v' e1 e2 e3=>?_⟩,λy c' e=>?_,I.free,I.freeC,λp hp=>?_,tracked ⟨oc,hoc,(I.freeC x c hc).resolve_right λz=>by rw[hfn]at z;exact absurd z.1 xp⟩ hs,by simpa using I.len⟩ ⟨c,hs,.inr hc⟩
  . exact(hs.2 b (Yi (XX (X2 e) (I.ok.cab x c hfn hc)))).trans (I.base.keep b o e n hb hx)
  . obtain⟨sl,e1⟩:=I.base.slot b o e n hb hx;exact⟨sl,(hs.2 b (Yi (XX (X2 e) (I.ok.cab x c hfn hc)))).trans e1⟩
  . obtain⟨o',e1⟩:=I.base.there b o e hx;exact⟨o',(hs.2 b (Yi (XX (X2 e) (I.ok.cab x c hfn hc)))).trans e1⟩
  .
   by_cases hj:j=i
   . subst hj;rw[hi]at e1;cases e1;rw[Zw hiσ]at e2;cases e2;exact⟨u,r,.inr ⟨.inl hk,c,hc,hc'⟩⟩
   .
    rw[aae (YE hj)]at e2;obtain⟨u',r',q⟩:=hl j y v' e1 e2 e3;refine⟨u',r',?_⟩;rcases q with q|⟨k,c',e,z'⟩
    . exact .inl q
    . refine .inr ⟨k,c',e,z'.sameBut hs ?_⟩;rintro rfl;exact hj (BL hN e1 (I.ok.inj _ _ _ e hc ▸ hi))
  .
   by_cases hcc:c'=c
   . subst hcc;exact⟨_,hc'⟩
   . obtain⟨w2,z2⟩:=I.cell y c' e;exact⟨w2,z2.sameBut hs hcc⟩
  . obtain⟨e,n,ne,nf,d⟩:=I.pin p hp;refine⟨(hs.2 p.1 ?_).trans e,n,ne,nf,d⟩;intro q;rw[q,hoc]at e;have q':oc=p.2:=YN e;exact d w' (by rw[<- q'];exact hocd)
theorem qV{M:Model}{A:Around}{E:Value->Shared->Prop}{i:Nat}{x:Str}{v:V}{u:Value}{Q:Unit->Shared->Prop}(I:Tp X ab σ H s)(hN:X.N.Nodup)(hi:X.N[i]?=some x)(hx:To X.env.scope x)(r:cQ v u)
  (h:∀s',Tp X ab (σ.set i (some v)) H s'->Q () s') (hf:autoParam (X.fn x=true∨X.env.scope.names.lookup x=some .local) acK):wpAny M A (storeName X.env x u) Q E s :=
 yd I hN hi hx r (λs' I' _=>h s' I') hf
theorem Tp.call'{s':Shared}{ch:List Addr}(I:Tp X ab σ H s)(ho:s'.os=s.os)(u:Un (frs X.stack) ch H H' s.heap s'.heap)(hok:Tf X.prog X.w H' s'.heap)(hg:AllBare s'.gens)
  (hch:∀b∈ch,(b∈X.ex∨X.s₀.heap.objs.size<=b)/\b≠X.env.locals/\(∀x c,X.env.cells.lookup x=some c->c≠b)/\∀p∈X.pn++ab,p.1≠b):Tp X ab σ H' s':=by
 obtain⟨h',g',d',t',o'⟩:=s';have e:o'=s.os:=ho;subst e;exact I.call (g':=g') (t':=t') (d':=d') u hok hg hch
end
noncomputable abbrev XK:=Value->Option Addr->Hp->Prop
noncomputable abbrev St:=List (Option V)
noncomputable abbrev VK:=V->Hp->Prop
abbrev TE:=St->Hp->VK->Prop
noncomputable abbrev TT:=St->Hp->(Bool->Hp->Prop)->Prop
noncomputable abbrev TA:=St->Hp->(List V->Hp->Prop)->Prop
structure N4 where
 nx:St->Hp->Prop
 rt:VK
 bk:St->Hp->Prop:=λ_ _=>False
 ct:St->Hp->Prop:=λ_ _=>False
abbrev TS:=N4->St->Hp->Prop
inductive EP (X:Cx) (ab:List (Addr×Obj)) (σ:St) (Q:VK) (u:Value) (s':Shared):Prop
 |mk (v:V) (H':Hp) (i:Tp X ab σ H' s') (r:cQ v u) (q:Q v H')
theorem EP.on{G:Prop}{X:Cx}{ab:List (Addr×Obj)}{σ:St}{Q:VK}{u:Value}{s':Shared}(h:EP X ab σ Q u s')(k:∀v H',Tp X ab σ H' s'->cQ v u->Q v H'->G):G:=by cases h with|mk v H' i r q=>exact k v H' i r q
inductive TP (X:Cx) (ab:List (Addr×Obj)) (σ:St) (Q:Bool->Hp->Prop) (b:Bool) (s':Shared):Prop
 |mk (H':Hp) (i:Tp X ab σ H' s') (q:Q b H')
inductive AP (X:Cx) (ab:List (Addr×Obj)) (σ:St) (Q:List V->Hp->Prop) (us:List Value) (s':Shared):Prop
 |mk (vs:List V) (H':Hp) (i:Tp X ab σ H' s') (r:cw vs us) (q:Q vs H')
inductive Tq (X:Cx) (ab:List (Addr×Obj)) (D:St->Hp->Prop) (s':Shared):Prop
 |mk (σ':St) (H':Hp) (i:Tp X ab σ' H' s') (q:D σ' H')
inductive Ts (X:Cx) (ab:List (Addr×Obj)) (D:VK) (u:Value) (s':Shared):Prop
 |mk (v:V) (σ':St) (H':Hp) (i:Tp X ab σ' H' s') (r:cQ v u) (q:D v H')
def SP(X:Cx)(ab:List (Addr×Obj))(D:N4)(f:Flow)(s':Shared):Prop :=
 match f with
 |.next=>Tq X ab D.nx s'
 |.brk=>Tq X ab D.bk s'
 |.cont=>Tq X ab D.ct s'
 |.ret u=>Ts X ab D.rt u s'
def PE(X:Cx)(e:Expr)(t:TE):Prop :=
 ∀(ab:List (Addr×Obj))(s:Shared)(σ:St)(H:Hp)(Q:VK),Tp X ab σ H s->t σ H Q->wpAny (model X.prog X.w) X.A (eval e X.env) (EP X ab σ Q) X.xe s
def PT(X:Cx)(e:Expr)(t:TT):Prop :=
 ∀(ab:List (Addr×Obj))(s:Shared)(σ:St)(H:Hp)(Q:Bool->Hp->Prop),Tp X ab σ H s->t σ H Q->wpAny (model X.prog X.w) X.A (isTrue e X.env (eval e X.env)) (TP X ab σ Q) X.xe s
def PA(X:Cx)(es:List Expr)(t:TA):Prop :=
 ∀(pos:Pos)(ab:List (Addr×Obj))(s:Shared)(σ:St)(H:Hp)(Q:List V->Hp->Prop),Tp X ab σ H s->t σ H Q->wpAny (model X.prog X.w) X.A (spliced (backTo pos (starEach es X.env))) (AP X ab σ Q) X.xe s
def PS(X:Cx)(st:Stmt)(t:TS):Prop :=
 ∀(ab:List (Addr×Obj))(s:Shared)(σ:St)(H:Hp)(D:N4),Tp X ab σ H s->t D σ H->wpAny (model X.prog X.w) X.A (exec st X.env) (SP X ab D) X.xe s
def Tt(X:Cx)(st:List Stmt)(t:TS):Prop :=
 ∀(ab:List (Addr×Obj))(s:Shared)(σ:St)(H:Hp)(D:N4),Tp X ab σ H s->t D σ H->wpAny (model X.prog X.w) X.A (execs st X.env) (SP X ab D) X.xe s
theorem Tu{α:Type}{t:Sem α}{Q Q':α->Shared->Prop}{M:Model}{A:Around}{E:Value->Shared->Prop}{s:Shared}(h:wpAny M A t Q E s)(hQ:∀a s,Q a s->Q' a s):wpAny M A t Q' E s:=aal h hQ λ_ _ x=>x
section
variable{X:Cx}
theorem Tv{a b:Expr}{ta tb:TE}(ha:PE X a ta)(hb:PE X b tb){ab:List (Addr×Obj)}{s:Shared}{σ:St}{H:Hp}{R:V->V->Hp->Prop}(I:Tp X ab σ H s)(h:ta σ H λx H1=>tb σ H1 λy H2=>R x y H2)
  {α:Type} {Q:α->Shared->Prop} {f:Value->Value->Sem α}
  (hf:∀v u s2 x y H2,Tp X ab σ H2 s2->cQ x v->cQ y u->R x y H2->wpAny (model X.prog X.w) X.A (f v u) Q X.xe s2) :
  wpAny (model X.prog X.w) X.A (eval a X.env) (λv s₁=>wpAny (model X.prog X.w) X.A (eval b X.env) (λu s₂=>wpAny (model X.prog X.w) X.A (f v u) Q X.xe s₂) X.xe s₁) X.xe s:=by
 refine Tu (ha ab s σ H _ I h) λv s1 jqz=>?_;obtain⟨x,H1,I1,r1,q1⟩:=jqz;refine Tu (hb ab s1 σ H1 _ I1 q1) λu s2 jqz=>?_;obtain⟨y,H2,I2,r2,q2⟩:=jqz;exact hf v u s2 x y H2 I2 r1 r2 q2
def Su(i:Nat):TE:=λσ H Q=>∃v,σ[i]?=some (some v)/\Q v H
def tC(v:V):TE:=λ_ H Q=>Q v H
theorem jg{i:Nat}{x:Str}{pos:Pos}(hN:X.N[i]?=some x)(hv:Tn X.env.scope x) (hd:autoParam ((x == ("__debug__" : Str))=false) acG) (hcd:autoParam ((x == ("__classdict__" : Str))=false) acG):PE X (.Name x pos) (Su i):=by
 intro ab s σ H Q I h;obtain⟨v,e,h⟩:=h;obtain⟨m,hn,hl⟩:=I.loc;obtain⟨u,r,l⟩:=hl i x v hN e hv;have Tw:EP X ab σ Q u s:=⟨v,H,I,r,h⟩;rcases l with⟨hk,hm⟩|⟨hk,c,hc,hcell⟩
 . exact wpAny_Name (wpAny_loadName_local I.ok.kind hk hn hm Tw) hd
 .
  rcases hk with hk|hk
  . exact wpAny_Name (wpAny_loadName_cell I.ok.kind hk hc hcell Tw) hd
  . exact wpAny_Name (wpAny_loadName_free I.ok.kind hk hc hcell Tw hcd) hd
theorem Oi {i j pos}:PE X (.Constant (.int i) j pos) (tC (.int i)):=λ_ _ _ H _ I h=>wpAny_Constant_int ⟨.int i,H,I.tok _,⟨_,rfl⟩,h⟩
theorem QO {b j pos}:PE X (.Constant (.bool b) j pos) (tC (.bl b)):=λ_ _ _ H _ I h=>Constant_bool ⟨.bl b,H,I,rfl,h⟩
theorem Oj {j pos}:PE X (.Constant .none j pos) (tC .non):=λ_ _ _ H _ I h=>Constant_none ⟨.non,H,I,rfl,h⟩
theorem Kv {x j pos}:PE X (.Constant (.str x) j pos) (tC (.str x)):=λ_ _ _ H _ I h=>Calls.Constant_str ⟨.str x,H,I.tok _,⟨_,rfl⟩,h⟩
def Gl(X:Cx)(x:Str):Prop:=X.env.kindOf x=some .globalImplicit
theorem Ak{E:Value->Shared->Prop}{ab:List (Addr×Obj)}{s:Shared}{σ:St}{H:Hp}{x:Str}{u:Value}{pos:Pos}{Q:Value->Shared->Prop}(I:Tp X ab σ H s)(hg:Gl X x)(hm:X.mg x=some u)(h:Q u s)
  (hd:autoParam ((x == ("__debug__" : Str))=false) acG):wpAny (model X.prog X.w) X.A (eval (.Name x pos) X.env) Q E s :=
 Calls.Name_function_global I.ok.kind hg (Calls.loadGlobal_global (by rw[I.ok.glob];exact I.mod.glob.keeps I.bk) hm h) hd
theorem fk{E:Value->Shared->Prop}{ab:List (Addr×Obj)}{s:Shared}{σ:St}{H:Hp}{x:Str}{u:Value}{pos:Pos}{Q:Value->Shared->Prop}(I:Tp X ab σ H s)(hg:Gl X x)(hm:X.mg x=none)(hv:bootBuiltins x=some u)(h:Q u s)
  (hn:autoParam (x≠"__name__") acG) (hd:autoParam ((x == ("__debug__" : Str))=false) acG):wpAny (model X.prog X.w) X.A (eval (.Name x pos) X.env) Q E s:=by
 obtain⟨mb,h1,h2⟩:=I.mod.blt;exact Calls.Name_function_global I.ok.kind hg (Calls.loadGlobal_builtin (by rw[I.ok.glob];exact I.mod.glob.keeps I.bk) hm (by rw[I.ok.blt];exact h1.keeps I.bk) ((h2 x hn).trans hv) h) hd
theorem Lj{x:Str}{v:V}{u:Value}{pos:Pos}(hg:Gl X x)(hm:X.mg x=some u)(r:cQ v u) (hd:autoParam ((x == ("__debug__" : Str))=false) acG):PE X (.Name x pos) (tC v) :=
 λ_ _ _ H _ I h=>Ak I hg hm ⟨v,H,I,r,h⟩ hd
theorem Al{x:Str}{v:V}{u:Value}{pos:Pos}(hg:Gl X x)(hm:X.mg x=none)(hv:bootBuiltins x=some u)(r:cQ v u) (hn:autoParam (x≠"__name__") acG) (hd:autoParam ((x == ("__debug__" : Str))=false) acG):PE X (.Name x pos) (tC v) :=
 λ_ _ _ H _ I h=>fk I hg hm hv ⟨v,H,I,r,h⟩ hn hd
variable{a b:Expr}{ta tb:TE}{pos:Pos}
noncomputable def tB(t:TE):TT:=λσ H Q=>t σ H λx H1=>∃c,x=.bl c/\Q c H1
end
def Tz(K:W.Frag)(H:Hp)(a:Addr)(xs:List V):Prop :=
 Rd H a (.lst xs) ∨
  ∃(o:Obj)(its:Array Value)(n:Nat),K.lookup a=some o/\o.cls=.type "list"/\o.dict=none/\o.data=.seq its n/\its.size<=sizeLine/\cw xs its.toList
def TB(K:W.Frag)(H:Hp)(a:Addr)(xs:List V):Prop :=
 Rd H a (.tup xs) ∨
  ∃(o:Obj)(its:Array Value)(n:Nat),K.lookup a=some o/\o.cls=.type "tuple"/\o.data=.seq its n/\its.size<=sizeLine/\cw xs its.toList
noncomputable def Sv:Value->Option V
 |.none=>some .non
 |.bool b=>some (.bl b)
 |.int i _=>some (.int i)
 |.str x _=>some (.str x)
 |.bytes b _=>some (.byt b)
 |.float b _=>some (.flt b)
 |.ref a=>some (.ref a)
 |.type n=>some (.ty n)
 |_=>none
theorem cQ.abs{x:V}{u:Value}(r:cQ x u):Sv u=some x:=by
 cases x with
 |non=>cases r;rfl
 |bl _=>cases r;rfl
 |int _=>obtain⟨t,rfl⟩:=r;rfl
 |str _=>obtain⟨t,rfl⟩:=r;rfl
 |byt _=>obtain⟨t,rfl⟩:=r;rfl
 |flt _=>obtain⟨t,rfl⟩:=r;rfl
 |ref _=>cases r;rfl
 |ty _=>cases r;rfl
theorem cQ.inj{x y:V}{u:Value}(r:cQ x u)(q:cQ y u):x=y:=YN (r.abs.symm.trans q.abs)
theorem cw.inj:∀{xs ys:List V}{us:List Value},cw xs us->cw ys us->xs=ys:=by
 intro xs ys us h
 induction h generalizing ys with
 |nil=>intro q;cases q;rfl
 | cons r t ih =>
  intro q
  cases q with
  |cons r' t'=>rw[r.inj r',ih t']
section
variable{X:Cx}{ab:List (Addr×Obj)}{σ:St}{H:Hp}{s:Shared}{a:Addr}{xs ys:List V}
theorem Tz.of{K:W.Frag}(h:H a=some (.lst xs)):Tz K H a xs:=.inl (.inl h)
theorem TB.of{K:W.Frag}(h:H a=some (.tup xs)):TB K H a xs:=.inl (.inl h)
theorem Tp.list(I:Tp X ab σ H s)(h:Tz X.K H a xs):∃its:List Value,cw xs its/\PlainL s.heap a its.toArray/\xs.length<=sizeLine:=by
 rcases h with h|⟨o,its,n,hk,hc,hd,hs,hz,r⟩
 . obtain⟨z,its,n,r,e⟩:=h.ok I.hok;exact⟨its,r,⟨_,n,e,rfl,rfl,rfl⟩,z⟩
 . refine⟨its.toList,r,⟨o,n,I.kIn a o hk,hc,hd,by simpa using hs⟩,?_⟩;have e:=r.length;simp only[Array.length_toList]at e;omega
theorem Tp.tuple(I:Tp X ab σ H s)(h:TB X.K H a xs):∃its:List Value,cw xs its/\IsTup s.heap a its.toArray/\xs.length<=sizeLine:=by
 rcases h with h|⟨o,its,n,hk,hc,hs,hz,r⟩
 . obtain⟨z,its,r,p⟩:=h.ok I.hok;exact⟨its,r,p,z⟩
 . refine⟨its.toList,r,⟨o,I.kIn a o hk,hc,n,by simpa using hs⟩,?_⟩;have e:=r.length;simp only[Array.length_toList]at e;omega
theorem Tp.list_inj(I:Tp X ab σ H s)(h:Tz X.K H a xs)(h':Tz X.K H a ys):xs=ys:=by
 obtain⟨its,r,⟨o,n,e,_,_,d⟩,_⟩:=I.list h;obtain⟨its',r',⟨o',n',e',_,_,d'⟩,_⟩:=I.list h';rw[e]at e';cases e';rw[d]at d';injection d' with d1 _;have:its=its':=by simpa using Zy Array.toList d1
 subst this;exact r.inj r'
theorem Tp.tuple_inj(I:Tp X ab σ H s)(h:TB X.K H a xs)(h':TB X.K H a ys):xs=ys:=by
 obtain⟨its,r,⟨o,e,_,n,d⟩,_⟩:=I.tuple h;obtain⟨its',r',⟨o',e',_,n',d'⟩,_⟩:=I.tuple h';rw[e]at e';cases e';rw[d]at d';injection d' with d1 _;have:its=its':=by simpa using Zy Array.toList d1
 subst this;exact r.inj r'
end
noncomputable abbrev Cx.wish(X:Cx)(E:Value->Shared->Prop):Cx:={X with xe:=E}
noncomputable abbrev Cx.nox(X:Cx):Cx:=X.wish λ_ _=>False
theorem Cx.Ok.wish{X:Cx}(ok:X.Ok)(E:Value->Shared->Prop):(X.wish E).Ok :=
 ⟨ok.mod,ok.kind,ok.glob,ok.blt,ok.above,ok.inj,ok.has,ok.cab,ok.hd,ok.frames,ok.stk,ok.exf,ok.bs,ok.bsz,ok.noex,ok.exfs,ok.funs,ok.frf,ok.tbs⟩
theorem Cx.Ok.unwish{X:Cx}{E:Value->Shared->Prop}(ok:(X.wish E).Ok):X.Ok :=
 ⟨ok.mod,ok.kind,ok.glob,ok.blt,ok.above,ok.inj,ok.has,ok.cab,ok.hd,ok.frames,ok.stk,ok.exf,ok.bs,ok.bsz,ok.noex,ok.exfs,ok.funs,ok.frf,ok.tbs⟩
section
variable{X:Cx}{ab:List (Addr×Obj)}{σ:St}{H:Hp}{s:Shared}{E:Value->Shared->Prop}
theorem Tp.wish(I:Tp X ab σ H s)(E:Value->Shared->Prop):Tp (X.wish E) ab σ H s:=⟨I.ok.wish E,I.os,I.bare,I.base,I.loc,I.cell,I.free,I.freeC,I.pin,I.hok,I.len⟩
theorem Tp.unwish(I:Tp (X.wish E) ab σ H s):Tp X ab σ H s:=⟨I.ok.unwish,I.os,I.bare,I.base,I.loc,I.cell,I.free,I.freeC,I.pin,I.hok,I.len⟩
theorem SP.unwish{D:N4}{f:Flow}{s':Shared}(h:SP (X.wish E) ab D f s'):SP X ab D f s':=by
 cases f with
 |next=>obtain⟨σ',H',I,q⟩:=h;exact⟨σ',H',I.unwish,q⟩
 |brk=>obtain⟨σ',H',I,q⟩:=h;exact⟨σ',H',I.unwish,q⟩
 |cont=>obtain⟨σ',H',I,q⟩:=h;exact⟨σ',H',I.unwish,q⟩
 |ret u=>obtain⟨v,σ',H',I,r,q⟩:=h;exact⟨v,σ',H',I.unwish,r,q⟩
theorem Tt.nox{st:List Stmt}{t:TS}(h:Tt X.nox st t):Tt X st t:=λab s σ H D I hw =>
 aal (h ab s σ H D (I.wish _) hw) (λ_ _ q=>q.unwish) λ_ _ z=>False.elim z
end
section
variable{X:Cx}
theorem Tp.quiet{ab:List (Addr×Obj)}{σ:St}{H:Hp}{s:Shared}(I:Tp X ab σ H s):interactive X.env=false:=by simp[interactive,I.ok.kind]
end
noncomputable abbrev TG:=V->St->Hp->(St->Hp->Prop)->Prop
noncomputable abbrev TC:=List V->St->Hp->(St->Hp->Prop)->Prop
def PG(X:Cx)(target:Expr)(t:TG):Prop :=
 ∀(ab:List (Addr×Obj))(s:Shared)(σ:St)(H:Hp)(v:V)(u:Value)(Q:St->Hp->Prop),Tp X ab σ H s->cQ v u->t v σ H Q ->
  wpAny (model X.prog X.w) X.A (assign target X.env u) (λ_ s'=>∃σ' H',Tp X ab σ' H' s'/\Q σ' H') X.xe s
def TF(X:Cx)(ts:List Expr)(t:TC):Prop :=
 ∀(ab:List (Addr×Obj))(s:Shared)(σ:St)(H:Hp)(vs:List V)(us:List Value)(Q:St->Hp->Prop),Tp X ab σ H s->cw vs us->t vs σ H Q ->
  wpAny (model X.prog X.w) X.A (assignInOrder ((assignEach ts X.env).map (·.2)) us) (λ_ s'=>∃σ' H',Tp X ab σ' H' s'/\Q σ' H') X.xe s
noncomputable abbrev QP:=V->V->V->Hp->(Hp->Prop)->Prop
def RU(X:Cx)(t:QP):Prop :=
 ∀(ab:List (Addr×Obj))(s:Shared)(σ:St)(H:Hp)(o i v:V)(ov iv u:Value)(Q:Hp->Prop),Tp X ab σ H s->cQ o ov->cQ i iv->cQ v u->t o i v H Q ->
  wpAny (model X.prog X.w) X.A (setItem ov iv u) (λ_ s'=>∃H',Tp X ab σ H' s'/\Q H') X.xe s
section
variable{X:Cx}{pos:Pos}
noncomputable def QQ(i:Nat):TG:=λv σ H Q=>Q (σ.set i (some v)) H
theorem vL{i:Nat}{x:Str}(hN:X.N.Nodup)(hi:X.N[i]?=some x)(hx:To X.env.scope x)(hf:autoParam (X.fn x=true∨X.env.scope.names.lookup x=some .local) acK):PG X (.Name x pos) (QQ i):=by intro ab s σ H v u Q I r h;exact wpAny_assign_Name (qV I hN hi hx r (λs' I'=>⟨_,H,I',h⟩) hf)
noncomputable def Sw:TC:=λvs σ H Q=>vs=[]/\Q σ H
noncomputable def QR(t:TG)(u:TC):TC:=λvs σ H Q=>∃v r,vs=v::r/\t v σ H λσ' H'=>u r σ' H' Q
theorem Ed:TF X [] Sw:=by intro ab s σ H vs us Q I r h;obtain⟨e,h⟩:=h;subst e;cases r;exact assignInOrder_nil ⟨σ,H,I,h⟩
theorem BM{e:Expr}{es:List Expr}{t:TG}{u:TC}(h1:PG X e t)(h2:TF X es u)
  (hs:autoParam ((assignEach (e::es) X.env).map (·.2)=assign e X.env::(assignEach es X.env).map (·.2)) acE):TF X (e::es) (QR t u):=by
 intro ab s σ H vs us Q I r h;obtain⟨v,vr,e1,h⟩:=h;subst e1
 cases r with
 | cons r rr =>
  rw[hs];refine assignInOrder_cons (Tu (h1 ab s σ H _ _ _ I r h) λ_ s1 jqz=>?_);obtain⟨σ1,H1,I1,q1⟩:=jqz;exact h2 ab s1 σ1 H1 _ _ Q I1 rr q1
noncomputable def Sx(K:W.Frag)(n:Nat)(t:TC):TG:=λv σ H Q=>∃a xs,v=.ref a/\TB K H a xs/\xs.length=n/\t xs σ H Q
theorem Kw{es:List Expr}{k:Nat}{t:TC}{n:Nat}(hc:X.calm=true)(h:TF X es t)
  (hn:autoParam ((assignEach es X.env).length=n) acE) (hst:autoParam ((assignEach es X.env).findIdx? (·.1)=none) acE):PG X (.Tuple es k pos) (Sx X.K n t):=by
 intro ab s σ H v u Q I r hw;obtain⟨a,xs,e1,hq,hl,hw⟩:=hw;subst e1;cases r;obtain⟨its,rv,ht,hz⟩:=I.tuple hq;refine assign_Tuple_tuple (I.ok.hd hc) ht (by simp[hn,<- hl,rv.length]) hst λh' hx=>?_;have I1:Tp X ab σ H {s with heap:=h' }:=I.kept (t':=s.toks) λb o e=>hx b o (Yi (X2 e)) e;exact h ab _ σ H xs _ Q I1 (by simpa using rv) hw
noncomputable def Sy(to ti:TE)(t:QP):TG:=λv σ H Q=>to σ H λo H1=>ti σ H1 λi H2=>t o i v H2 λH3=>Q σ H3
theorem Ol{o i:Expr}{to ti:TE}{t:QP}(ho:PE X o to)(hi:PE X i ti)(hs:RU X t)
  (ha:∀v,assign (.Subscript o i pos) X.env v=(do
   let ov <- holding [v] (eval o X.env)
   let iv <- holding [v,ov] (eval i X.env)
   standAt pos
   holding [v,ov,iv] (setItem ov iv v)
   release [v,ov,iv] []):=by intro _;rfl):PG X (.Subscript o i pos) (Sy to ti t):=by
 intro ab s σ H v u Q I r h;rw[ha];refine kS (Zm (Tu (ho ab s σ H _ I h) λov s1 jqz=>?_));obtain⟨x,H1,I1,r1,q1⟩:=jqz;refine kS (Zm (Tu (hi ab s1 σ H1 _ I1 q1) λiv s2 jqz=>?_));obtain⟨y,H2,I2,r2,q2⟩:=jqz;refine kS (wpAny_standAt (kS (Zm (Tu (hs ab s2 σ H2 x y v ov iv u _ I2 r1 r2 r q2) λ_ s3 jqz=>?_))));obtain⟨H3,I3,q3⟩:=jqz;exact wpAny_release ⟨σ,H3,I3,q3⟩
def Sz(te:TE)(g:TG):TS:=λD σ H=>te σ H λx H1=>g x σ H1 D.nx
theorem Om{tg e:Expr}{te:TE}{g:TG}(he:PE X e te)(hg:PG X tg g)(hs:autoParam (swapsWithSole [tg] e pos.line X.env=pure false) acE)(hw:autoParam (swappedStores [tg] e X.env=pure none) acE)
  (h1:autoParam ((assignEach [tg] X.env).map (·.2)=[assign tg X.env]) acE):PS X (.Assign [tg] e pos) (Sz te g):=by
 intro ab s σ H D I h;refine wpAny_Assign_stores (Tu (he ab s σ H _ I h) λv s1 jqz=>?_) hs hw;obtain⟨x,H1,I1,r1,q1⟩:=jqz;rw[h1];exact Tu (hg ab s1 σ H1 x v _ I1 r1 q1) λ_ s2 ⟨_,_,a,b⟩=>⟨_,_,a,b⟩
def SA(i j:Nat)(ta:TA):TS:=λD σ H=>ta σ H λvs H1=>∃v w,vs=[v,w]/\D.nx ((σ.set i (some v)).set j (some w)) H1
theorem On{i j:Nat}{x y:Str}{a b:Expr}{ta:TA}{px py pt:Pos} {kt k2 pt2} (hc:X.calm=true) (hN:X.N.Nodup) (hi:X.N[i]?=some x) (hj:X.N[j]?=some y) (hij:i≠j)
  (hx:X.env.scope.names.lookup x=some .local) (hy:X.env.scope.names.lookup y=some .local) (ha:PA X [a,b] ta)
  (hw:swappedStores [.Tuple [.Name x px,.Name y py] kt pt] (.Tuple [a,b] k2 pt2) X.env=pure (some [x,y]))
  (hs:autoParam (swapsWithSole [.Tuple [.Name x px,.Name y py] kt pt] (.Tuple [a,b] k2 pt2) pos.line X.env=pure false) acE) :
  PS X (.Assign [.Tuple [.Name x px,.Name y py] kt pt] (.Tuple [a,b] k2 pt2) pos) (SA i j ta):=by
 intro ab s σ H D I h;rw[exec_Assign_arm];refine kS (wpAny_standAt ?_);rw[hs];refine kS (X3 ?_);rw[if_neg (by decide)];refine kS (Tuple_ (Tu (ha _ ab s σ H _ I h) λus s1 jqz=>?_));obtain⟨vs,H1,I1,r1,q1⟩:=jqz;obtain⟨v,w,e1,q1⟩:=q1;subst e1
 obtain⟨u1,u2,rfl,rv,rw'⟩:∃u1 u2,us=[u1,u2]/\cQ v u1/\cQ w u2:=by
  cases r1 with
  | cons p q =>
   cases q with
   | cons p' q' =>
    cases q';exact⟨_,_,rfl,p,p'⟩
 refine ZI ?_ (by show 2<=sizeLine;decide);have I2:Tp X ab σ H1 {s1 with heap:=s1.heap.push {cls:=.type "tuple",data:=.seq [u1,u2].toArray} }:=I1.kept (t':=s1.toks) λb o e=>p4 _ e;rw[hw];refine kS (X3 ?_)
 show wpAny (model X.prog X.w) X.A (do rule "assign.swapped-stores"; let items <- unpackItems (.ref s1.heap.objs.size) 2 none; assignInOrder [λv=>bindName X.env y v,λv=>bindName X.env x v] items.reverse; pure Flow.next) _ _ _
 refine kS (wpAny_rule (kS (unpackItems_tuple (items:=#[u1,u2]) (I.ok.hd hc) (IsTup.new s1.heap _) λh' hx'=>?_)));have I3:=I2.kept (h':=h') (t':=s1.toks) λb o e=>hx' b o (Yi (X2 e)) e
 show wpAny _ _ (assignInOrder [λv=>bindName X.env y v,λv=>bindName X.env x v] [u2,u1] >>= λ_=>pure Flow.next) _ _ _
 refine kS (assignInOrder_cons (wpAny_bindName (qV I3 hN hj (.inl hy) rw' (λs2 I4=>?_) (.inr hy))));refine assignInOrder_cons (wpAny_bindName (qV I4 hN hi (.inl hx) rv (λs3 I5=>assignInOrder_nil (X3 ?_)) (.inr hx)));rw[List.set_comm _ _ (YE hij)]at I5;exact⟨_,H1,I5,q1⟩
end
section
variable{X:Cx}{pos:Pos}
def Oo(c:TT)(tb:TS):TS:=λD σ H=>∃W:Nat->St->Hp->Prop,(∃m,W m σ H)/\∀m σ H,W m σ H ->
 c σ H λb H1=>if b=true then ∃N:St->Hp->Prop,(∀σ' H',N σ' H'->∃m',m' < m/\W m' σ' H')/\tb {D with nx:=N,ct:=N,bk:=D.nx} σ H1 else D.nx σ H1
theorem HQ{c:Expr}{body:List Stmt}{tc:TT}{tb:TS}(hp:PassesOwn (model X.prog X.w) X.A X.env X.xe)(hc:PT X c tc)(hb:Tt X body tb):PS X (.While c body [] pos) (Oo tc tb):=by
 intro ab s σ H D I h;obtain⟨W,⟨m0,w0⟩,turn⟩:=h;refine wpAny_While (codeAny_whileLoop (λn s'=>∃σ' H',Tp X ab σ' H' s'/\W n σ' H') ?_ m0 ⟨σ,H,I,w0⟩);rintro n s1 ⟨σ1,H1,I1,w1⟩;refine aac hp (Tu (hc ab s1 σ1 H1 _ I1 (turn n σ1 H1 w1)) λb s2 jqz=>?_);obtain⟨H2,I2,q2⟩:=jqz
 cases b with
 | true =>
  obtain⟨N,hN,q2⟩:=q2;rw[if_pos rfl];refine aac hp (Tu (hb ab s2 σ1 H2 _ I2 q2) λf s3 q3=>?_)
  cases f with
  | next =>
   obtain⟨σ3,H3,I3,n3⟩:=q3;obtain⟨m',hm,w3⟩:=hN σ3 H3 n3;exact⟨m',hm,σ3,H3,I3,w3⟩
  | cont =>
   obtain⟨σ3,H3,I3,n3⟩:=q3;obtain⟨m',hm,w3⟩:=hN σ3 H3 n3;exact⟨m',hm,σ3,H3,I3,w3⟩
  |brk=>exact q3
  |ret v=>exact q3
 | false =>
  rw[if_neg YC];exact wpAny_execs_nil ⟨σ1,H2,I2,q2⟩
end
structure It where
 go:Nat->Hp->Prop
 yld:Nat->Hp->V->Hp->Prop
 stop:Nat->Hp->Prop
def BN(X:Cx)(ab:List (Addr×Obj))(H:Hp)(b:Addr):Prop :=
 H b=none/\b≠X.env.locals/\b∉X.fs/\(b∈X.ex∨X.s₀.heap.objs.size<=b)/\(∀x c,X.env.cells.lookup x=some c->c≠b)/\∀p∈X.pn++ab,p.1≠b
theorem Tp.fpOk{X:Cx}{ab:List (Addr×Obj)}{σ:St}{H H':Hp}{s:Shared}{b:Addr}(I:Tp X ab σ H s)(hb:s.heap.objs.size<=b)(hn:H' b=none):BN X ab H' b:=by
 refine⟨hn,aat (XX I.lt hb),I.nofs hb,.inr (X0 I.sz hb),λx c e z=>?_,λp hp z=>?_⟩
 . obtain⟨v,q⟩:=I.cell x c e;exact absurd (XX q.lt (by rw[z];exact hb)) (Y1 _)
 . exact absurd (XX (X2 (I.pin p hp).1) (by rw[z];exact hb)) (Y1 _)
structure HG (P:Program) (w:World) (K:W.Frag) (tg:Expr) (J:It) (fp:List Addr) (it:Addr) (tn:Nat->Heap->Prop):Prop where
 mem:it∈fp
 obj:∀i h,tn i h->∀b∈fp,∃o,h.get? b=some o/\∀v,o.data≠.cell v
 keep:∀i h h',tn i h->(∀b∈fp,∀o,h.get? b=some o->h'.get? b=some o)->tn i h'
 item:∀(X:Cx),X.prog=P->X.w=w->X.K=K->X.calm=true->∀(i:Nat)(ab:List (Addr×Obj))(s:Shared)(σ:St)(H:Hp)(E:Value->Shared->Prop),Tp X ab σ H s->(∀b∈fp,BN X ab H b)->tn i s.heap->J.go i H ->
  wpAny (model P w) X.A (pyNext (.ref it)) (λr s1=>∃u,r=some u /\
   wpAny (model P w) X.A (letOwnedTupleGo tg (.ref it) u) (λ_ s2=>∃x H',Tp X ab σ H' s2/\cQ x u/\J.yld i H x H'/\tn (i+1) s2.heap/\∀b∈fp,H' b=none) E s1) E s
 done:∀(X:Cx),X.prog=P->X.w=w->X.K=K->X.calm=true->∀(i:Nat)(ab:List (Addr×Obj))(s:Shared)(σ:St)(H:Hp)(E:Value->Shared->Prop),Tp X ab σ H s->(∀b∈fp,BN X ab H b)->tn i s.heap->J.stop i H ->
  wpAny (model P w) X.A (pyNext (.ref it)) (λr s1=>r=none/\Tp X ab σ H s1) E s
 self:∀(A:Around)(i:Nat)(s:Shared)(Q:Value->Shared->Prop)(E:Value->Shared->Prop),tn i s.heap->Q (.ref it) s->wpAny (model P w) A (pyIter (.ref it)) Q E s
noncomputable abbrev TI:=St->Hp->(It->Hp->Prop)->Prop
inductive TH (X:Cx) (ab:List (Addr×Obj)) (σ:St) (tg:Expr) (R:It->Hp->Prop) (itv:Value) (s2:Shared):Prop
 |mk (it:Addr) (fp:List Addr) (tn:Nat->Heap->Prop) (J:It) (H':Hp) (hv:itv=.ref it) (i:Tp X ab σ H' s2) (t:HG X.prog X.w X.K tg J fp it tn) (h0:tn 0 s2.heap) (hf:∀b∈fp,BN X ab H' b) (q:R J H')
def PI(X:Cx)(tg iter:Expr)(wi:TI):Prop :=
 ∀(ab:List (Addr×Obj))(s:Shared)(σ:St)(H:Hp)(R:It->Hp->Prop),Tp X ab σ H s->wi σ H R ->
  wpAny (model X.prog X.w) X.A (eval iter X.env) (λv s1=>wpAny (model X.prog X.w) X.A (pyIter v) (TH X ab σ tg R) X.xe s1) X.xe s
theorem Ee {M : Model} {A : Around} {E : Value → Shared → Prop} {s : Shared} {tg : Expr} {it : Addr} {u : Value} {o : Obj} {n : String} {vs : Array Value} {Q : Unit → Shared → Prop} (ho : s.heap.get? it = some o) (hc : o.cls = .type n) (hd : o.data = .fields vs)
    (hn : ["enumerate", "zip", "dict_itemiterator", "dict_reverseitemiterator", "odict_iterator", "itertools.zip_longest", "itertools.pairwise"].contains n = false) (hQ : Q () s) : wpAny M A (letOwnedTupleGo tg (.ref it) u) Q E s := by
  unfold letOwnedTupleGo
  cases tg<;>first
    |exact X3 hQ
    | (cases u<;>first
        |exact X3 hQ
        | (refine kS (wpAny_load ho ?_)
           rw[hc, hd]
           show wpAny M A (if(["enumerate", "zip", "dict_itemiterator", "dict_reverseitemiterator", "odict_iterator", "itertools.zip_longest", "itertools.pairwise"].contains n && vs[0]? == some (rawInt _)) = true then _ else _) Q E s
           rw[if_neg (by intro h;rw[hn, Bool.false_and]at h;cases h)]
           exact X3 hQ))
noncomputable def TJ(K:W.Frag)(a:Addr):It :=
 ⟨λi H=>∃xs x,Tz K H a xs/\xs[i]?=some x,λi H x H'=>H'=H/\∀xs,Tz K H a xs->xs[i]?=some x,λi H=>∃xs,Tz K H a xs/\xs.length<=i⟩
noncomputable def TK(K:W.Frag)(a:Addr):It :=
 ⟨λi H=>∃xs x,TB K H a xs/\xs[i]?=some x,λi H x H'=>H'=H/\∀xs,TB K H a xs->xs[i]?=some x,λi H=>∃xs,TB K H a xs/\xs.length<=i⟩
noncomputable def TL(lo:Int)(n:Nat):It:=⟨λi _=>i<n,λi H x H'=>H'=H/\x=.int (lo+i),λi _=>n<=i⟩
theorem Ef{P:Program}{w:World}{K:W.Frag}{tg:Expr}(a it:Addr):HG P w K tg (TJ K a) [it] it (λi h=>h.IsListIter it a i) where
 mem:=by simp
 obj:=λi h st b hb=>by
  have e:b=it:=by simpa using hb
  subst e;obtain⟨o,e,c,d⟩:=st;exact⟨o,e,λv z=>by rw[d]at z;cases z⟩
 keep:=λi h h' st k=>st.at λo e=>k it x_ o e
 item:=by intro X hP hw hK hc i ab s σ H E I hf st hg;subst hP hw hK;obtain⟨xs,x,hq,hx⟩:=hg;obtain⟨its,rv,p,hz⟩:=I.list hq;obtain⟨u,hu,ru⟩:=rv.get hx;obtain⟨f0,f1,f2,f3,f4,f5⟩:=hf it x_;refine wpAny_pyNext_list_item st p.isList (x:=u) (by simpa using hu) λh' st' sb=>?_;have I1:Tp X ab σ H {s with heap:=h' }:=I.turned (t':=s.toks) (λb o hb e=>(sb.2 b hb).trans e) f0 f1 f3 f4 f5;obtain⟨o,e,c,d⟩:=id st';exact⟨u,rfl,Ee (s:={s with heap:=h' }) e c d xp ⟨x,H,I1,ru,⟨rfl,λys hy=>by rw[I.list_inj hy hq];exact hx⟩,st',λb hb=>(hf b hb).1⟩⟩
 done:=by intro X hP hw hK hc i ab s σ H E I hf st hg;subst hP hw hK;obtain⟨xs,hq,hx⟩:=hg;obtain⟨its,rv,p,hz⟩:=I.list hq;obtain⟨f0,f1,f2,f3,f4,f5⟩:=hf it x_;have hl:=rv.length;exact wpAny_pyNext_list_end (I.ok.hd hc) st p.isList (by simp;omega) λh' eb=>⟨rfl,I.turned (t':=s.toks) (λb o hb e=>eb b o hb e) f0 f1 f3 f4 f5⟩
 self:=λ_ _ _ _ _ st h=>wpAny_pyIter_listiter st h
theorem CW{P:Program}{w:World}{K:W.Frag}{tg:Expr}(a it:Addr):HG P w K tg (TK K a) [it] it (λi h=>h.IsTupleIter it a i) where
 mem:=by simp
 obj:=λi h st b hb=>by
  have e:b=it:=by simpa using hb
  subst e;obtain⟨o,e,c,d⟩:=st;exact⟨o,e,λv z=>by rw[d]at z;cases z⟩
 keep:=λi h h' st k=>st.at λo e=>k it x_ o e
 item:=by intro X hP hw hK hc i ab s σ H E I hf st hg;subst hP hw hK;obtain⟨xs,x,hq,hx⟩:=hg;obtain⟨its,rv,p,hz⟩:=I.tuple hq;obtain⟨u,hu,ru⟩:=rv.get hx;obtain⟨f0,f1,f2,f3,f4,f5⟩:=hf it x_;refine wpAny_pyNext_tuple_item st (show s.heap.IsTuple a its.toArray from p) (x:=u) (by simpa using hu) λh' st' sb=>?_;have I1:Tp X ab σ H {s with heap:=h' }:=I.turned (t':=s.toks) (λb o hb e=>(sb.2 b hb).trans e) f0 f1 f3 f4 f5;obtain⟨o,e,c,d⟩:=id st';exact⟨u,rfl,Ee (s:={s with heap:=h' }) e c d xp ⟨x,H,I1,ru,⟨rfl,λys hy=>by rw[I.tuple_inj hy hq];exact hx⟩,st',λb hb=>(hf b hb).1⟩⟩
 done:=by intro X hP hw hK hc i ab s σ H E I hf st hg;subst hP hw hK;obtain⟨xs,hq,hx⟩:=hg;obtain⟨its,rv,p,hz⟩:=I.tuple hq;obtain⟨f0,f1,f2,f3,f4,f5⟩:=hf it x_;have hl:=rv.length;exact wpAny_pyNext_tuple_end (I.ok.hd hc) st (show s.heap.IsTuple a its.toArray from p) (by simp;omega) λh' eb=>⟨rfl,I.turned (t':=s.toks) (λb o hb e=>eb b o hb e) f0 f1 f3 f4 f5⟩
 self:=λ_ _ _ _ _ st h=>wpAny_pyIter_tupleiter st h
theorem CY{P:Program}{w:World}{K:W.Frag}{tg:Expr}(it:Addr)(lo:Int)(n:Nat):HG P w K tg (TL lo n) [it] it (λi h=>IsRangeIter h it (lo+(i:Nat)*1) ((n:Int)-(i:Nat)) 1) where
 mem:=by simp
 obj:=λi h st b hb=>by
  have e:b=it:=by simpa using hb
  subst e
  exact⟨_,st,λv z=>by
   have z':Data.fields _=Data.cell v:=z
   cases z'⟩
 keep:=λi h h' st k=>k it x_ _ st
 item:=by intro X hP hw hK hc i ab s σ H E I hf st hg;subst hP hw hK;obtain⟨f0,f1,f2,f3,f4,f5⟩:=hf it x_;have W:=Walks.range (prog:=X.prog) (w:=X.w) (I.ok.hd hc) it lo 1 n;refine W.item i s _ _ hg st λv h' tk hv st' kk=>?_;obtain⟨t,rfl⟩:=hv;have I1:Tp X ab σ H {s with heap:=h',toks:=tk}:=I.turned (λb o hb e=>kk b o (by simpa using hb) e) f0 f1 f3 f4 f5;refine⟨_,rfl,Ee (s:={s with heap:=h',toks:=tk}) (n:="range_iterator") st' rfl rfl xp ⟨.int (lo+i),H,I1,⟨t,?_⟩,⟨rfl,rfl⟩,st',λb hb=>(hf b hb).1⟩⟩;rw[Int.mul_one]
 done:=by intro X hP hw hK hc i ab s σ H E I hf st hg;subst hP hw hK;obtain⟨f0,f1,f2,f3,f4,f5⟩:=hf it x_;exact wpAny_pyNext_range_end (I.ok.hd hc) st (by have:n<=i:=hg;omega) λh' eb=>⟨rfl,I.turned (t':=s.toks) (λb o hb e=>eb b o hb e) f0 f1 f3 f4 f5⟩
 self:=λ_ _ _ _ _ st h=>wpAny_pyIter_rangeiter st h
section
variable{X:Cx}{tg:Expr}
theorem BO{ab:List (Addr×Obj)}{σ:St}{H:Hp}{s:Shared}{R:It->Hp->Prop}{E:Value->Shared->Prop}{lo hi:Int}{t u v:Tok}{tk:Nat}(I:Tp X ab σ H s)(h1 : -(2^62)<=lo)(h2:lo<2^62)(h3 : -(2^62)<=hi)(h4:hi<2^62)
  (q:R (TL lo (hi-lo).toNat) H):wpAny (model X.prog X.w) X.A (pyIter (.ref s.heap.objs.size)) (TH X ab σ tg R) E {s with heap:=s.heap.push {cls:=.type "range",data:=.fields #[.int lo t,.int hi u,.int 1 v] },toks:=tk}:=by
 refine wpAny_pyIter_range (IsRange.new ..) (small_one h1 h2 h3 h4) ?_;have I1:Tp X ab σ H {s with heap:=s.heap.push {cls:=.type "range",data:=.fields #[.int lo t,.int hi u,.int 1 v] },toks:=tk}:=I.kept λb o e=>p4 _ e
 refine⟨(s.heap.push {cls:=.type "range",data:=.fields #[.int lo t,.int hi u,.int 1 v] }).objs.size,[(s.heap.push {cls:=.type "range",data:=.fields #[.int lo t,.int hi u,.int 1 v] }).objs.size],_,_,H,rfl,
  I1.kept (t':=tk) λb o e=>p4 _ e,CY _ lo (hi-lo).toNat,?_,λb hb=>?_,q⟩
 .
  have e1:lo+((0:Nat):Int)*1=lo:=by simp
  have e2:(((hi-lo).toNat:Nat):Int)-((0:Nat):Int)=Builtin.Range.rangeSize lo hi 1:=by rw[rangeSize_one];split<;>omega
  show IsRangeIter _ _ (lo+((0:Nat):Int)*1) ((((hi-lo).toNat:Nat):Int)-((0:Nat):Int)) 1;rw[e1,e2];exact X5 _ rfl
 .
  have e:b=(s.heap.push {cls:=.type "range",data:=.fields #[.int lo t,.int hi u,.int 1 v] }).objs.size:=by simpa using hb
  subst e;exact I1.fpOk (XZ _) (I1.hok.fresh (XZ _))
noncomputable def QS(ta:TA):TI:=λσ H R=>ta σ H λvs H1=>∃j:Int,vs=[.int j]/\-(2^62)<=j/\j<2^62/\R (TL 0 j.toNat) H1
noncomputable def QT(ta:TA):TI:=λσ H R=>ta σ H λvs H1=>∃i j:Int,vs=[.int i,.int j]/\(-(2^62)<=i/\i<2^62/\-(2^62)<=j/\j<2^62)/\R (TL i (j-i).toNat) H1
theorem Eg{a:Expr}{ta:TA}{p pos:Pos} (hg:Gl X "range") (hm:X.mg "range"=none) (ha:PA X [a] ta) (hs:autoParam (starEach [a] X.env=[(false,eval a X.env)]) acE):PI X tg (.Call (.Name "range" p) [a] [] pos) (QS ta):=by
 intro ab s σ H R I h;refine Call_ (fk I hg hm boot_range (Yp (Tu (ha pos ab s σ H _ I h) λus s1 jqz=>?_) hs rfl));obtain⟨vs,H1,I1,r1,q1⟩:=jqz;obtain⟨j,e,q1,q2,q⟩:=q1;subst e
 cases r1 with
 | cons r rr =>
  cases rr;obtain⟨t,rfl⟩:=r;exact call_range_1 (BO I1 xL xL q1 q2 (by simpa using q))
theorem Eh{a b:Expr}{ta:TA}{p pos:Pos} (hg:Gl X "range") (hm:X.mg "range"=none) (ha:PA X [a,b] ta) (hs:autoParam (starEach [a,b] X.env=[(false,eval a X.env),(false,eval b X.env)]) acE) (hs2:autoParam (starEach [b] X.env=[(false,eval b X.env)]) acE) :
  PI X tg (.Call (.Name "range" p) [a,b] [] pos) (QT ta):=by
 intro ab s σ H R I h;refine Call_ (fk I hg hm boot_range (Yp (Tu (ha pos ab s σ H _ I h) λus s1 jqz=>?_) (by rw[hs,hs2]) (by rw[hs2];rfl)));obtain⟨vs,H1,I1,r1,q1⟩:=jqz;obtain⟨i,j,e,⟨q1,q2,q3,q4⟩,q⟩:=q1;subst e
 cases r1 with
 | cons r rr =>
  cases rr with
  | cons r' rr =>
   cases rr;obtain⟨t,rfl⟩:=r;obtain⟨t',rfl⟩:=r';exact call_range_2 (BO I1 q1 q2 q3 q4 q)
noncomputable def ye(fp:List Addr)(h:Heap):List (Addr×Obj):=fp.filterMap λb=>(h.get? b).map λo=>(b,o)
theorem kH{fp:List Addr}{h:Heap}{b:Addr}{o:Obj}(hb:b∈fp)(e:h.get? b=some o):(b,o)∈ye fp h:=List.mem_filterMap.mpr ⟨b,hb,by rw[e];rfl⟩
theorem Ei{fp:List Addr}{h:Heap}{p:Addr×Obj}(hp:p∈ye fp h):p.1∈fp/\h.get? p.1=some p.2:=by
 obtain⟨b,hb,e⟩:=List.mem_filterMap.mp hp
 cases q:h.get? b with
 |none=>rw[q]at e;cases e
 | some o =>
  rw[q]at e;have e':(b,o)=p:=YN e;subst e';exact⟨hb,q⟩
theorem Tp.pinned{ab:List (Addr×Obj)}{σ:St}{H:Hp}{s:Shared}{fp:List Addr}(I:Tp X ab σ H s)(hf:∀b∈fp,BN X ab H b)(ho:∀b∈fp,∃o,s.heap.get? b=some o/\∀v,o.data≠.cell v):Tp X (ab++ye fp s.heap) σ H s :=
 I.pins_of λp hp=>(Ys.mp hp).elim (λz=>I.pin p (Yj _ z)) λz=>by obtain⟨hb,e⟩:=Ei z;obtain⟨f0,f1,f2,_⟩:=hf p.1 hb;obtain⟨o,e',d⟩:=ho p.1 hb;rw[e]at e';cases e';exact⟨e,f0,f1,f2,d⟩
theorem Tp.unpinned{ab pl:List (Addr×Obj)}{σ:St}{H:Hp}{s:Shared}(I:Tp X (ab++pl) σ H s):Tp X ab σ H s:=I.pins_of λp hp=>I.pin p (Yj _ (Yz _ hp))
end
abbrev R2:=V->V->Hp->VK->Prop
def TM(X:Cx)(f:Value->Value->Sem Value)(r:R2):Prop :=
 ∀(ab:List (Addr×Obj))(s:Shared)(σ:St)(H:Hp)(x y:V)(v u:Value)(Q:VK),Tp X ab σ H s->cQ x v->cQ y u->r x y H Q ->
  wpAny (model X.prog X.w) X.A (f v u) (EP X ab σ Q) X.xe s
def TN(X:Cx)(f:Value->Sem Value)(r:V->Hp->VK->Prop):Prop :=
 ∀(ab:List (Addr×Obj))(s:Shared)(σ:St)(H:Hp)(x:V)(v:Value)(Q:VK),Tp X ab σ H s->cQ x v->r x H Q ->
  wpAny (model X.prog X.w) X.A (f v) (EP X ab σ Q) X.xe s
def g8(X:Cx)(f:Value)(r:List V->Hp->VK->Prop):Prop :=
 ∀(ab:List (Addr×Obj))(s:Shared)(σ:St)(H:Hp)(xs:List V)(us:List Value)(Q:VK),Tp X ab σ H s->cw xs us->r xs H Q ->
  wpAny (model X.prog X.w) X.A (call f us) (EP X ab σ Q) X.xe s
def TQ(r:R2)(ta tb:TE):TE:=λσ H Q=>ta σ H λx H1=>tb σ H1 λy H2=>r x y H2 Q
def rI(C:Int->Int->Prop)(g:Int->Int->V):R2:=λx y H Q=>∃i j,x=.int i/\y=.int j/\C i j/\Q (g i j) H
def TR(g:Int->Int->V):R2:=λx y H Q=>∃i j,x=.int i/\y=.int j/\Q (g i j) H
def rU(g:Int->V):V->Hp->VK->Prop:=λx H Q=>∃i,x=.int i/\Q (g i) H
section
variable{X:Cx}{a b:Expr}{ta tb:TE}
theorem SC(ha:PE X a ta)(hb:PE X b tb){ab:List (Addr×Obj)}{s:Shared}{σ:St}{H:Hp}{R:V->V->Hp->Prop}(I:Tp X ab σ H s)
  (h:ta σ H λx H1=>tb σ H1 λy H2=>R x y H2) {Q:Value->Shared->Prop} {f:Value->Value->Sem Value}
  (hf:∀v u s2 x y H2,Tp X ab σ H2 s2->cQ x v->cQ y u->R x y H2->wpAny (model X.prog X.w) X.A (f v u) Q X.xe s2) :
  wpAny (model X.prog X.w) X.A (eval a X.env) (λv s₁=>wpAny (model X.prog X.w) X.A (eval b X.env) (λu s₂=>wpAny (model X.prog X.w) X.A (f v u) Q X.xe s₂) X.xe s₁) X.xe s:=by
 refine Tu (ha ab s σ H _ I h) λv s1 jqz=>?_;obtain⟨x,H1,I1,r1,q1⟩:=jqz;refine Tu (hb ab s1 σ H1 _ I1 q1) λu s2 jqz=>?_;obtain⟨y,H2,I2,r2,q2⟩:=jqz;exact hf v u s2 x y H2 I2 r1 r2 q2
theorem TU{f:Value->Value->Sem Value}{C:Int->Int->Prop}{g:Int->Int->Int}
  (rule:∀(i j:Int)(t u:Tok)(s:Shared)(Q:Value->Shared->Prop)(E:Value->Shared->Prop),C i j->Q (.int (g i j) s.toks) {s with toks:=s.toks+1}->wpAny (model X.prog X.w) X.A (f (.int i t) (.int j u)) Q E s) :
  TM X f (rI C λi j=>.int (g i j)):=by
 intro ab s σ H x y v u Q I rx ry h;obtain⟨i,j,rfl,rfl,hc,q⟩:=h;obtain⟨t,rfl⟩:=rx;obtain⟨t',rfl⟩:=ry;exact rule i j t t' s _ _ hc ⟨.int (g i j),H,I.tok _,⟨_,rfl⟩,q⟩
theorem RV{f:Value->Value->Sem Value}{g:Int->Int->Int}
  (rule:∀(i j:Int)(t u:Tok)(s:Shared)(Q:Value->Shared->Prop)(E:Value->Shared->Prop),Q (.int (g i j) s.toks) {s with toks:=s.toks+1}->wpAny (model X.prog X.w) X.A (f (.int i t) (.int j u)) Q E s) :
  TM X f (TR λi j=>.int (g i j)):=by
 intro ab s σ H x y v u Q I rx ry h;obtain⟨i,j,rfl,rfl,q⟩:=h;obtain⟨t,rfl⟩:=rx;obtain⟨t',rfl⟩:=ry;exact rule i j t t' s _ _ ⟨.int (g i j),H,I.tok _,⟨_,rfl⟩,q⟩
theorem Qw{f:Value->Value->Sem Value}{g:Int->Int->Bool}
  (rule:∀(i j:Int)(t u:Tok)(s:Shared)(Q:Value->Shared->Prop)(E:Value->Shared->Prop),Q (.bool (g i j)) s->wpAny (model X.prog X.w) X.A (f (.int i t) (.int j u)) Q E s) :
  TM X f (TR λi j=>.bl (g i j)):=by
 intro ab s σ H x y v u Q I rx ry h;obtain⟨i,j,rfl,rfl,q⟩:=h;obtain⟨t,rfl⟩:=rx;obtain⟨t',rfl⟩:=ry;exact rule i j t t' s _ _ ⟨.bl (g i j),H,I,rfl,q⟩
def SD(i j:Int):Prop:=0<=j/\j<=1000000/\i.natAbs<2^64
def RW(i j:Int):Prop:=(-(2^64)<i/\i<2^64)∨(-(2^64)<j/\j<2^64)
theorem RW.ok{i j:Int}(h:RW i j):IntMulOk i j:=by
 rcases h with⟨h1,h2⟩|⟨h1,h2⟩
 . exact .of_left (intBits_le_64 h1 h2)
 . exact .of_right (intBits_le_64 h1 h2)
theorem Oq:TM X (binaryOp .Add) (TR λi j=>.int (i+j)):=RV λ_ _ _ _ _ _ _ q=>add_int q
theorem Os:TM X (binaryOp .Sub) (TR λi j=>.int (i-j)):=RV λ_ _ _ _ _ _ _ q=>sub_int q
theorem Lk:TM X (binaryOp .Mod) (rI (λ_ j=>j≠0) λi j=>.int (i.fmod j)):=TU λ_ _ _ _ _ _ _ hc q=>mod_int' hc q
theorem Ot:TM X (binaryOp .Pow) (rI SD λi j=>.int (i^j.toNat)):=TU λ_ _ _ _ _ _ _ hc q=>pow_int_small hc.1 hc.2.1 hc.2.2 q
theorem TV{f:Value->Sem Value}{g:Int->Int}
  (rule:∀(i:Int)(t:Tok)(s:Shared)(Q:Value->Shared->Prop)(E:Value->Shared->Prop),Q (.int (g i) s.toks) {s with toks:=s.toks+1}->wpAny (model X.prog X.w) X.A (f (.int i t)) Q E s) :
  TN X f (rU λi=>.int (g i)):=by
 intro ab s σ H x v Q I rx h;obtain⟨i,rfl,q⟩:=h;obtain⟨t,rfl⟩:=rx;exact rule i t s _ _ ⟨.int (g i),H,I.tok _,⟨_,rfl⟩,q⟩
theorem Ou:TN X (unaryOp .USub) (rU λi=>.int (-i)):=TV λ_ _ _ _ _ q=>neg_int q
end
section
variable{X:Cx}{a b c:Expr}{ta tb tc:TE}{pos:Pos}
theorem Kx{ab:List (Addr×Obj)}{σ:St}{H:Hp}{s:Shared}{Q:VK}{k k':Bool}(I:Tp X ab σ H s)(q:Q (.bl k) H)(e:k=k'):EP X ab σ Q (.bool k') s:=by subst e;exact⟨.bl k,H,I,rfl,q⟩
theorem Ov:TM X (compareOp .Lt) (TR λi j=>.bl (decide (i<j))):=Qw λ_ _ _ _ _ _ _ q=>lt_int q
theorem Ow:TM X (compareOp .LtE) (TR λi j=>.bl (decide (i<=j))):=Qw λ_ _ _ _ _ _ _ q=>le_int q
theorem QU:TM X (compareOp .Gt) (TR λi j=>.bl (decide (j<i))):=Qw λ_ _ _ _ _ _ _ q=>gt_int q
theorem QV:TM X (compareOp .GtE) (TR λi j=>.bl (decide (j<=i))):=Qw λ_ _ _ _ _ _ _ q=>ge_int q
theorem Ox:TM X (compareOp .Is) (λx y H Q=>y=.non/\Q (.bl (decide (x=.non))) H):=by
 intro ab s σ H x y v u Q I rx ry h;obtain⟨rfl,q⟩:=h;cases ry;refine is_none_gen (Kx I q ?_)
 cases x<;>first
  |(cases rx;rfl)
  |(obtain⟨t,rfl⟩:=rx;rfl)
theorem Ll:TM X (compareOp .IsNot) (λx y H Q=>y=.non/\Q (.bl (!decide (x=.non))) H):=by
 intro ab s σ H x y v u Q I rx ry h;obtain⟨rfl,q⟩:=h;cases ry;refine isnot_none_gen (Kx I q ?_)
 cases x<;>first
  |(cases rx;rfl)
  |(obtain⟨t,rfl⟩:=rx;rfl)
theorem aV(b:Expr){op:CmpOp}(h:autoParam (op≠.In) acG)(h2:autoParam (op≠.NotIn) acG):behindInMarks op b=false:=by
 have e1:(op == CmpOp.In)=false:=by cases op<;>first|rfl|exact absurd rfl h
 have e2:(op == CmpOp.NotIn)=false:=by cases op<;>first|rfl|exact absurd rfl h2
 cases b<;>simp[behindInMarks,e1,e2]
def Ky(r r':R2)(ta tb tc:TE):TE:=λσ H Q=>ta σ H λx H1=>tb σ H1 λy H2=>r x y H2 λz H3=>∃k,z=.bl k /\
 (if k=true then tc σ H3 λw' H4=>r' y w' H4 Q else Q (.bl false) H3)
theorem HR{op op':CmpOp}{r r':R2}(ho:TM X (compareOp op) r)(ho':TM X (compareOp op') r')(ha:PE X a ta)(hb:PE X b tb)(hc:PE X c tc)
  (hm:autoParam (lastMarks [op,op'] [b,c]=false) acM):PE X (.Compare a [op,op'] [b,c] pos) (Ky r r' ta tb tc):=by
 intro ab s σ H Q I h
 refine Compare_chain (Tu (ha ab s σ H _ I h) λv s1 ⟨x,H1,I1,r1,q1⟩=>chain_link (Tu (hb ab s1 σ H1 _ I1 q1) λu s2 ⟨y,H2,I2,r2,q2⟩ =>
  Tu (ho ab s2 σ H2 x y v u _ I2 r1 r2 q2) λd s3 ⟨z,H3,I3,r3,k,e,q3⟩=>?_)) hm
 subst e;cases r3;refine ZW ?_
 cases k with
 |false=>exact ite_ff ⟨.bl false,H3,I3,rfl,q3⟩
 |true=>exact ite_tt (chain_last (Tu (hc ab s3 σ H3 _ I3 q3) λw' s4 ⟨z',H4,I4,r4,q4⟩=>ho' ab s4 σ H4 y z' u w' Q I4 r2 r4 q4))
theorem u9:(sizeLine:Nat)<2^63:=by rw[sizeLine_eq];decide
theorem CZ:TM X (binaryOp .Add) (λx y H Q=>∃i j,x=.str i/\y=.str j/\i.length+j.length<=sizeLine/\Q (.str (i++j)) H):=by intro ab s σ H x y v u Q I rx ry h;obtain⟨i,j,rfl,rfl,hz,q⟩:=h;obtain⟨t,rfl⟩:=rx;obtain⟨t',rfl⟩:=ry;exact add_str (λt' tk=>⟨.str (i++j),H,I.tok _,⟨_,rfl⟩,q⟩) hz
theorem rn{x:V}{us:List Value}(r:cw [x] us):∃u,us=[u]/\cQ x u:=by
 cases r with
 |cons r1 r2=>cases r2;exact⟨_,rfl,r1⟩
theorem Ej{x y:V}{us:List Value}(r:cw [x,y] us):∃u w',us=[u,w']/\cQ x u/\cQ y w':=by
 cases r with
 | cons r1 r2 =>
  cases r2 with
  |cons r3 r4=>cases r4;exact⟨_,_,rfl,r1,r3⟩
theorem HS:g8 X (.builtin "abs") (λxs H Q=>∃ i,xs=[.int i]/\Q (.int (if i < 0 then -i else i)) H):=by
 intro ab s σ H xs us Q I r h;obtain⟨i,rfl,q⟩:=h;obtain⟨u,rfl,t,rfl⟩:=rn r
 exact call_abs_int λu tk=>⟨.int (if i<0 then -i else i),H,I.tok _,⟨_,rfl⟩,q⟩
theorem Ek(hc:X.calm=true):g8 X (.builtin "max") (λxs H Q=>∃ i j,xs=[.int i,.int j]/\Q (.int (if j > i then j else i)) H):=by
 intro ab s σ H xs us Q I r h;obtain⟨i,j,rfl,q⟩:=h;obtain⟨u,w',rfl,⟨t,rfl⟩,⟨t',rfl⟩⟩:=Ej r;refine max_two_ints (I.ok.hd hc) λh' tk k=>⟨_,H,I.kept k,?_,q⟩;by_cases hj:j > i
 . rw[if_pos hj,if_pos hj];exact⟨_,rfl⟩
 . rw[if_neg hj,if_neg hj];exact⟨_,rfl⟩
theorem El(hc:X.calm=true):g8 X (.builtin "min") (λxs H Q=>∃ i j,xs=[.int i,.int j]/\Q (.int (if j < i then j else i)) H):=by
 intro ab s σ H xs us Q I r h;obtain⟨i,j,rfl,q⟩:=h;obtain⟨u,w',rfl,⟨t,rfl⟩,⟨t',rfl⟩⟩:=Ej r;refine min_two_ints (I.ok.hd hc) λh' tk k=>⟨_,H,I.kept k,?_,q⟩;by_cases hj:j<i
 . rw[if_pos hj,if_pos hj];exact⟨_,rfl⟩
 . rw[if_neg hj,if_neg hj];exact⟨_,rfl⟩
theorem Em:g8 X (.type "int") (λxs H Q=>(∃ i,xs=[.int i]/\Q (.int i) H)∨∃ k,xs=[.bl k]/\Q (.int (if k then 1 else 0)) H):=by
 intro ab s σ H xs us Q I r h;rcases h with⟨i,rfl,q⟩|⟨k,rfl,q⟩
 . obtain⟨u,rfl,t,rfl⟩:=rn r;exact call_int_int ⟨.int i,H,I,⟨_,rfl⟩,q⟩
 .
  obtain⟨u,rfl,r1⟩:=rn r;cases r1
  exact call_int_bool ⟨.int (if k then 1 else 0),H,I.tok _,⟨_,rfl⟩,q⟩
end
structure TX (K:W.Frag) (C:Addr):Prop where
 pg:W.plainGet K C Str.empty=true
 hd:W.hasDictIn K C=true
 po:W.plainOver K C=true
 sa:W.findIn K (.ref C) "__setattr__"=some (some (.builtin "object.__setattr__"))
theorem TX.get{K:W.Frag}{C:Addr}(c:TX K C)(f:Str):W.plainGet K C f=true:=c.pg
structure uB (k:Nat) (A:Around):Prop where
 hd:A.handled=none
 dp:A.depth+3*k+5<recursionLimit
 un:A.units+16*k+200<cLine
 gd:A.guards=some []
theorem uB.mono{j k:Nat}{A:Around}(r:uB k A)(h:j<=k):uB j A:=⟨r.hd,by have:=r.dp;omega,by have:=r.un;omega,r.gd⟩
theorem uB.deeper{k:Nat}{A:Around}(r:uB (k+1) A)(env:Env):uB k (A.deeper env) :=
 ⟨r.hd,by have:=r.dp;show A.depth+1+3*k+5<_;omega,by have:=r.un;show A.units+3+16*k+200<_;omega,r.gd⟩
theorem uB.depth{k:Nat}{A:Around}(r:uB k A):A.depth<recursionLimit:=by have:=r.dp;omega
theorem uB.units{k:Nat}{A:Around}(r:uB k A):A.units+64<cLine:=by have:=r.un;omega
noncomputable def SE:TA:=λ_ H Q=>Q [] H
noncomputable def QW(ta:TE)(tr:TA):TA:=λσ H Q=>ta σ H λx H1=>tr σ H1 λxs H2=>Q (x::xs) H2
section
variable{X:Cx}{e:Expr}{es:List Expr}{te:TE}{t:TA}{pos:Pos}
theorem jv:PA X [] SE:=λ_ _ _ _ H Q I h=>aah ⟨[],H,I,.nil,h⟩
theorem cx(ha:PE X e te)(hr:PA X es t)(hs:autoParam (starEach (e::es) X.env=(false,eval e X.env)::starEach es X.env) acE):PA X (e::es) (QW te t):=by intro pos ab s σ H Q I h;rw[hs];show wpAny _ _ (spliced ((false,eval e X.env)::backTo pos (starEach es X.env))) _ _ s;refine ZP (Tu (ha ab s σ H _ I h) λu s1 jqz=>?_);obtain⟨x,H1,I1,r1,q1⟩:=jqz;exact Tu (hr pos ab s1 σ H1 _ I1 q1) λus s2 ⟨xs,H2,I2,r2,q2⟩=>⟨x::xs,H2,I2,.cons r1 r2,q2⟩
def SF(t:TA):TE:=λσ H Q=>t σ H λxs H1=>xs.length<=sizeLine/\∀p,H1 p=none->Q (.ref p) (Te H1 p (.tup xs))
theorem Oy {x1} (h:PA X es t):PE X (.Tuple es x1 pos) (SF t):=by intro ab s σ H Q I hq;refine wpAny_Tuple_spliced (Tu (h pos ab s σ H _ I hq) λus s1 jqz=>?_);obtain⟨xs,H1,I1,r,z,q⟩:=jqz;refine ⟨by rw[<- r.length];exact z,?_⟩;have hf:H1 s1.heap.objs.size=none:=I1.hok.fresh (XZ _);refine⟨.ref s1.heap.objs.size,Te H1 s1.heap.objs.size (.tup xs),I1.laid (t':=s1.toks) (λb u e=>p4 _ e) (XZ _) ?_,rfl,q _ hf⟩;exact⟨z,us,r,⟨_,X5 _ rfl,rfl,_,rfl⟩⟩
end
noncomputable abbrev Sp:=List V->Hp->VK->XK->Prop
noncomputable abbrev TY:=List Env->Hp->Shared->XK->Value->Shared->Prop
structure Qx (P:Program) (w:World) (K:W.Frag) (mg:Str->Option Value) (base:Heap) (A:Around) (outer:List Env) (s:Shared) (H:Hp):Prop where
 frames:A.frames=some outer
 mod:Mod K mg base
 bs:∀b o,base.get? b=some o->s.heap.get? b=some o/\H b=none
 bsz:base.objs.size<=s.heap.objs.size
 funs:s.heap.FunFrames base outer
 frf:∀b∈frs outer,H b=none
 hok:Tf P w H s.heap
 bare:AllBare s.gens
 tbs:Tj K H
inductive CE (outer:List Env) (P:Program) (w:World) (H:Hp) (s:Shared) (Q:VK) (u:Value) (s':Shared):Prop
 |mk (v:V) (H':Hp) (os:s'.os=s.os) (g:AllBare s'.gens) (un:Un (frs outer) [] H H' s.heap s'.heap) (ok:Tf P w H' s'.heap) (r:cQ v u) (q:Q v H')
def CR(CX:TY)(outer:List Env)(P:Program)(w:World)(H:Hp)(s:Shared)(Q:VK)(E:XK)(r:Result)(s':Shared):Prop :=
 match r with
 |.ok (.ret u)=>CE outer P w H s Q u s'
 |.ok _=>False
 |.error e=>CX outer H s E e s'
structure FnOk (P:Program) (w:World) (K:W.Frag) (mg:Str->Option Value) (base:Heap) (CX:TY) (k:Nat) (f:Addr) (fd:FuncData) (ps:List Str) (sp:Sp):Prop where
 len:∀vs H Q E,sp vs H Q E->vs.length=ps.length
 run:∀(A:Around)(outer:List Env)(s:Shared)(H:Hp)(args:Args)(us:List Value)(vs:List V)(Q:VK)(E:XK),uB k A->Qx P w K mg base A outer s H->BindsTo s fd args (ps.zip us)->cw vs us->sp vs H Q E ->
  codeAny (model P w) A (.call (.ref f) args) (CR CX outer P w H s Q E) s
section
variable{X:Cx}{ab:List (Addr×Obj)}{σ:St}{H:Hp}{s s':Shared}
theorem Tp.env0(I:Tp X ab σ H s):Qx X.prog X.w X.K X.mg X.base X.A X.stack s H :=
 ⟨I.ok.frames,I.ok.mod,I.bs,X0 I.ok.bsz I.sz,I.stack,I.stkFree,I.hok,I.bare,I.tbs⟩
theorem Tp.after{Q:VK}{u:Value}(I:Tp X ab σ H s)(h:CE X.stack X.prog X.w H s Q u s'):EP X ab σ Q u s':=by obtain⟨v,H',os,bare,un,hok,r,q⟩:=h;obtain⟨hh,g,d,t,os'⟩:=s';obtain rfl:os'=s.os:=os;exact⟨v,H',I.call (h':=hh) (g':=g) (d':=d) (t':=t) (ch:=[]) un hok bare (λb z=>absurd z x_),r,q⟩
end
def Am(K:W.Frag)(fd:FuncData)(ps:List Str)(ds:List Value):Prop :=
 ∀(s:Shared)(us:List Value),K.In s.heap->(us++ds).length=ps.length->BindsTo s fd ⟨us,[]⟩ (ps.zip (us++ds))
theorem Am.all{K:W.Frag}{fd:FuncData}{ps:List Str}(h:∀us:List Value,us.length=ps.length->bindArgs fd ⟨us,[]⟩=pure (ps.zip us)):Am K fd ps []:=λs us _ hl=>by rw[ZX]at hl ⊢;exact .of_eq (h us hl)
def BP(CX:TY)(X:Cx)(E:XK):Prop:=∀(ab:List (Addr×Obj))(σ:St)(H:Hp)(s:Shared)(e:Value)(s':Shared),Tp X ab σ H s->CX X.stack H s E e s'->X.xe e s'
section
variable{X:Cx}{CX:TY}{k:Nat}{f:Addr}{fd:FuncData}{ps:List Str}{sp:Sp}{dvs:List V}{ds:List Value}{E:XK}{e:Expr}
theorem Kz{ab:List (Addr×Obj)}{σ:St}{H:Hp}{s:Shared}{Q:VK}{us:List Value}{vs:List V}(F:FnOk X.prog X.w X.K X.mg X.base CX k f fd ps sp)(hr:uB k X.A)(hb:Am X.K fd ps ds)(hd:cw dvs ds)(hx:BP CX X E)
  (I:Tp X ab σ H s) (r:cw vs us) (h:sp (vs++dvs) H Q E):wpAny (model X.prog X.w) X.A (call (.ref f) us) (EP X ab σ Q) X.xe s:=by
 have r2:cw (vs++dvs) (us++ds):=r.append hd;have hl:(us++ds).length=ps.length:=by rw[<- r2.length];exact F.len _ _ _ _ h
 refine wpAny_call (codeAny_mono (F.run X.A X.stack s H ⟨us,[]⟩ (us++ds) (vs++dvs) Q E hr I.env0 (hb s us I.kIn hl) r2 h) λr s' hq=>?_)
 cases r with
 |error e=>exact hx ab σ H s e s' I hq
 | ok fl =>
  cases fl with
  |ret u=>exact I.after hq
  |next=>exact False.elim hq
  |brk=>exact False.elim hq
  |cont=>exact False.elim hq
end
structure aC (N P:List Str) (sc:Scope):Prop where
 kind:sc.kind=.function
 co:sc.isCoroutine=false
 gen:sc.isGenerator=false
 nd:N.Nodup
 pre:N.take P.length=P
 par:∀x∈P,sc.names.lookup x=some .local∨sc.names.lookup x=some .cell
 nofree:∀y∈sc.names,y.2≠.free
theorem yf{kindOf:Str->Option NameKind}{x:Str}:∀{binds:List (Str×Value)}{m:Str->Option Value},(∀v,(x,v)∉binds)->bindL kindOf binds m x=m x
 |[],_,_=>rfl
 | (n,v)::r,m,h=>by
  unfold bindL;rw[yf λw hw=>h w (p3 _ hw)];split
  .
   have:x≠n:=by rintro rfl;exact h v XU
   simp[this]
  . rfl
theorem yg{kindOf:Str->Option NameKind}{x:Str}:∀{binds:List (Str×Value)}{m:Str->Option Value},(∀v,(x,v)∉binds)->bindC kindOf binds m x=m x
 |[],_,_=>rfl
 | (n,v)::r,m,h=>by
  unfold bindC;rw[yg λw hw=>h w (p3 _ hw)];split
  . rfl
  .
   have:x≠n:=by rintro rfl;exact h v XU
   simp[this]
theorem yh{kindOf:Str->Option NameKind}{x:Str}{v:Value}:∀{P:List Str}{vs:List Value}{i:Nat}{m:Str->Option Value},P.Nodup->P[i]?=some x->vs[i]?=some v->kindOf x=some .local ->
  bindL kindOf (P.zip vs) m x=some v
 |[],_,_,_,_,h,_,_=>by simp at h
 |_::_,[],_,_,_,_,h,_=>by simp at h
 | p::P,w::vs,0,m,nd,h1,h2,hk=>by simp at h1 h2;subst h1;subst h2;show bindL kindOf ((p,w)::P.zip vs) m p=_;unfold bindL;rw[yf λv hv=>(Yr.mp nd).1 (ZY hv).1,if_pos hk];simp
 | p::P,w::vs,i+1,m,nd,h1,h2,hk=>by show bindL kindOf ((p,w)::P.zip vs) m x=_;unfold bindL;exact yh (i:=i) (Yr.mp nd).2 (by simpa using h1) (by simpa using h2) hk
theorem yi{kindOf:Str->Option NameKind}{x:Str}{v:Value}:∀{P:List Str}{vs:List Value}{i:Nat}{m:Str->Option Value},P.Nodup->P[i]?=some x->vs[i]?=some v->kindOf x≠some .local ->
  bindC kindOf (P.zip vs) m x=some v
 |[],_,_,_,_,h,_,_=>by simp at h
 |_::_,[],_,_,_,_,h,_=>by simp at h
 | p::P,w::vs,0,m,nd,h1,h2,hk=>by simp at h1 h2;subst h1;subst h2;show bindC kindOf ((p,w)::P.zip vs) m p=_;unfold bindC;rw[yg λv hv=>(Yr.mp nd).1 (ZY hv).1,if_neg hk];simp
 | p::P,w::vs,i+1,m,nd,h1,h2,hk=>by show bindC kindOf ((p,w)::P.zip vs) m x=_;unfold bindC;exact yi (i:=i) (Yr.mp nd).2 (by simpa using h1) (by simpa using h2) hk
noncomputable def vM(N:List Str)(vs:List V):St:=vs.map some++List.replicate (N.length-vs.length) none
noncomputable def Lm(CX:TY)(P:Program)(w:World)(K:W.Frag)(mg:Str->Option Value)(base:Heap)(N:List Str)(qual:Str)(scope:Scope)(f:Addr)(cd:Value)(A:Around)(outer:List Env)(s:Shared)(H:Hp)(E:XK):Cx where
 prog:=P
 w:=w
 K:=K
 mg:=mg
 base:=base
 A:=A.deeper (envOfC qual scope s.heap.objs.size f cd)
 N:=N
 s₀:=s
 H₀:=H
 env:=envOfC qual scope s.heap.objs.size f cd
 outer:=outer
 stack:=envOfC qual scope s.heap.objs.size f cd::outer
 ex:=[]
 calm:=true
 fn:=λ_=>true
 pn:=[]
 xe:=λe s'=>wpAny (model P w) (A.deeper (envOfC qual scope s.heap.objs.size f cd)) (leaving (envOfC qual scope s.heap.objs.size f cd) e) (λ_ s''=>CX outer H s E e s'') (λe' s''=>CX outer H s E e' s'') s'
theorem BQ{sc:Scope}{n:Nat}{x:Str}(h:sc.names.lookup x=some .cell):∃c,(cellsFrom n sc.names []).lookup x=some c:=by have q:=W.cellsFrom_some sc.names n [] (.inl h);exact Option.isSome_iff_exists.mp q
theorem En{CX:TY}{P:Program}{w:World}{K:W.Frag}{mg:Str->Option Value}{base:Heap}{N ps:List Str}{qual:Str}{scope:Scope}{f:Addr}{cd:Value}{A:Around}{outer:List Env}{s s1:Shared}{H:Hp}{E:XK}{us:List Value}{vs:List V}
  (S:aC N ps scope) (hd:A.handled=none) (e0:Qx P w K mg base A outer s H) (hl:vs.length=ps.length) (r:cw vs us)
  (x:InCallC s s.heap.objs.size (bindL (envOfC qual scope s.heap.objs.size f cd).kindOf (ps.zip us) λ_=>none) (cellsFrom (s.heap.objs.size+1) scope.names []) (bindC (envOfC qual scope s.heap.objs.size f cd).kindOf (ps.zip us) λ_=>none) s1) :
  Tp (Lm CX P w K mg base N qual scope f cd A outer s H E) [] (vM N vs) H s1:=by
 have hpl:ps.length<=N.length:=by have:=Zy List.length S.pre;rw[YK]at this;omega
 obtain⟨h1,tk,rfl,hk⟩:=x.done;have noA:∀b:Addr,b∉(Lm CX P w K mg base N qual scope f cd A outer s H E).ex:=λb z=>absurd (show b∈([]:List Addr)from z) x_
 refine⟨⟨e0.mod,S.kind,rfl,rfl,XZ _,λy z c h1 h2=>?_,λy hy=>?_,λy c _ h=>?_,λ_=>hd,Around.frames_deeper e0.frames,.inr ⟨rfl,rfl⟩,λb z=>absurd z (noA b),e0.bs,e0.bsz,λb _ _=>noA b,λb z=>absurd z (noA b),e0.funs,e0.frf,e0.tbs⟩,
  rfl,e0.bare,Un.kept hk,⟨_,x.toInCall.ns,λi y v h1 h2 h3=>?_⟩,λy c h=>⟨_,x.cell y c h⟩,e0.hok.fresh (XZ _),λy c h=>?_,λp hp=>absurd (show p∈([]:List (Addr×Obj))from hp) x_,e0.hok.kept hk,?_⟩
 . exact name_of_addr x.apart (ZZ h1) (ZZ h2)
 .
  have hy:scope.names.lookup y=some .cell∨scope.names.lookup y=some .free:=hy;rcases hy with hy|hy
  . exact BQ hy
  . exact absurd rfl (S.nofree _ (ZZ hy))
 . exact Za (x.above y c (ZZ h))
 .
  have hi:i<vs.length:=by
   unfold vM at h2;by_cases hi:i<vs.length
   . exact hi
   . rw[Yg (by simpa using hi)]at h2;rw[List.getElem?_replicate]at h2;split at h2<;>cases h2
  have ha:vs[i]?=some v:=by
   unfold vM at h2;rw[Ym (by simpa using hi),X1]at h2
   cases e:vs[i]? with
   |none=>rw[e]at h2;cases h2
   |some a=>rw[e]at h2;cases h2;rfl
  obtain⟨u,hu,rv⟩:=r.get ha;have hp:ps[i]?=some y:=by rw[<- S.pre,List.getElem?_take_of_lt xL];exact h1
  have ndP:ps.Nodup:=by rw[<- S.pre];exact S.nd.sublist (List.take_sublist _ _)
  refine⟨u,rv,?_⟩;rcases S.par y (X4 hp)with k|k
  . exact .inl ⟨k,yh ndP hp hu k⟩
  . obtain⟨c,e⟩:=BQ (n:=s.heap.objs.size+1) k;refine .inr ⟨.inl k,c,e,?_⟩;have q:=x.cell y c e;rw[yi ndP hp hu (by show scope.names.lookup y≠_;rw[k];decide)]at q;exact q
 . exact .inl (e0.hok.fresh (Za (x.above y c (ZZ h))))
 . unfold vM;show _=N.length;rw[Yw,tv,List.length_replicate];omega
theorem QX{CX:TY}{P:Program}{w:World}{K:W.Frag}{mg:Str->Option Value}{base:Heap}{k:Nat}{f:Addr}{name qual:Str}{params:Arguments}{body:List Stmt}{scope:Scope}{dV kV doc pm cdv ct oc:Value}{an od:Option Addr}
  {osl:Array (Option Value)} {N ps:List Str} {sp:Sp} (lk:K.lookup f=some ⟨oc,od,.func (W.fnOf name qual params body scope dV kV doc pm an cdv ct),osl⟩) (hcd:W.codeIn K cdv qual=true) (S:aC N ps scope)
  (len:∀vs H Q E,sp vs H Q E->vs.length=ps.length)
  (hbody:∀(A:Around)(outer:List Env)(s:Shared)(H:Hp)(vs:List V)(Q:VK)(E:XK),uB k (A.deeper (envOfC qual scope s.heap.objs.size f cdv))->sp vs H Q E ->
   ∃t,Tt (Lm CX P w K mg base N qual scope f cdv A outer s H E) body t/\t {nx:=λ_ H'=>Q .non H',rt:=Q} (vM N vs) H) :
  FnOk P w K mg base CX (k+1) f (W.fnOf name qual params body scope dV kV doc pm an cdv ct) ps sp:=by
 refine⟨len,λA outer s H args us vs Q E hr e0 hb r hsp=>?_⟩;have hl:=len _ _ _ _ hsp;have KX:K.In s.heap:=e0.mod.kin.keeps λb o e=>(e0.bs b o e).1;have lim:s.heap.NoLimit:=e0.mod.nolimit.keeps λb o e=>(e0.bs b o e).1
 have hkind:∀y∈ps.zip us,scope.names.lookup y.1=some .local∨(scope.names.lookup y.1=some .cell/\((cellsFrom (s.heap.objs.size+1) scope.names []).lookup y.1).isSome=true):=fun⟨n,v⟩ hy=>by
  rcases S.par n (ZY hy).1 with q|q
  . exact .inl q
  . exact .inr ⟨q,W.cellsFrom_some _ _ _ (.inl q)⟩
 refine codeAny_call_function hr.depth (KX _ _ lk) rfl S.co S.gen rfl (W.codeRec_of KX hcd) (hb _ _ _ _ ?_);refine wpAny_newFunctionEnv_cells S.kind hkind λenv he s1 x=>?_;subst he;refine⟨lim.keeps x.toInCall.keep,codeAny_func ?_⟩;obtain⟨t,ht,hq⟩:=hbody A outer s H vs Q E (hr.deeper _) hsp;have I:Tp (Lm CX P w K mg base N qual scope f cdv A outer s H E) [] (vM N vs) H s1:=En S hr.hd e0 hl r x;refine aal (ht [] s1 (vM N vs) H _ I hq) (λfl s' hs=>?_) λe s' hs=>hs
 have Tw:∀{σ':St}{H':Hp}{v:V}{u:Value},Tp (Lm CX P w K mg base N qual scope f cdv A outer s H E) [] σ' H' s'->cQ v u->Q v H'->CE outer P w H s Q u s' :=
  λ{σ' H' v u} J rv q=>⟨v,H',J.os,J.bare,J.base,J.hok,rv,q⟩
 cases fl with
 | ret u =>
  obtain⟨v,σ',H',J,rv,q⟩:=hs;exact Tw J rv q
 | next =>
  obtain⟨σ',H',J,q⟩:=hs;exact Tw (v:=V.non) (u:=Value.none) J rfl q
 | brk =>
  obtain⟨_,_,_,q⟩:=hs;exact False.elim q
 | cont =>
  obtain⟨_,_,_,q⟩:=hs;exact False.elim q
section
variable{X:Cx}{x:Str}{p pos:Pos}{e:Expr}{es:List Expr}{t:TA}{id:String}{r:List V->Hp->VK->Prop}
def TZ(r:List V->Hp->VK->Prop)(t:TA):TE:=λσ H Q=>t σ H λvs H1=>r vs H1 Q
theorem vN(hc:g8 X (.builtin id) r)(hg:Gl X x)(hm:X.mg x=none)(hv:bootBuiltins x=some (.builtin id))(ha:PA X (e::es) t) (hn:autoParam (x≠"__name__") acG) (hdb:autoParam ((x == ("__debug__" : Str))=false) acG)
  (he:autoParam (starEach (e::es) X.env=(false,eval e X.env)::starEach es X.env) acE) (hpl:autoParam ((backTo pos (starEach es X.env)).any (·.1)=false) acE):PE X (.Call (.Name x p) (e::es) [] pos) (TZ r t):=by
 intro ab s σ H Q I h;refine ZQ (fk I hg hm hv ?_ hn hdb);exact PyProof.Rows.callWith_builtin1 (Tu (ha pos ab s σ H _ I h) λus s1 ⟨vs,H1,I1,r1,q1⟩=>hc ab s1 σ H1 vs us Q I1 r1 q1) he hpl
end
end L2
namespace HT
open PySem PyProof.Rows
section
variable{prog:Program}{w:World}{A:Around}{E:Value->Shared->Prop}{s:Shared}
noncomputable def sIx(n d:Nat):Option Int->Nat
 |none=>d
 |some v=>if v<0 then(v+(n:Int)).toNat else min v.toNat n
theorem Oz(n d:Nat)(hd:d<=n)(o:Option Int):sIx n d o<=n:=by
 cases o with
 |none=>exact hd
 | some v =>
  show(if v<0 then(v+(n:Int)).toNat else min v.toNat n)<=n
  by_cases hv:v<0
  . rw[if_pos hv];omega
  . rw[if_neg hv];exact Nat.min_le_right _ _
theorem Eo(v:Int)(n d:Nat):(if v<0 then max (v+(n:Int)) 0 else min v (n:Int))=((sIx n d (some v):Nat):Int):=by
 show(if v<0 then max (v+(n:Int)) 0 else min v (n:Int))=(((if v<0 then(v+(n:Int)).toNat else min v.toNat n):Nat):Int)
 by_cases hv:v<0
 . simp only[if_pos hv];omega
 . simp only[if_neg hv];omega
theorem C0(lo hi:Option Int)(n:Nat):Builtin.Slice.sliceAdjust lo hi 1 (n:Int)=(((sIx n 0 lo:Nat):Int),((sIx n n hi:Nat):Int)):=by
 have h1:¬((1:Int)<0):=by omega
 unfold Builtin.Slice.sliceAdjust;simp only[h1,ZH];refine Prod.ext ?_ ?_
 .
  cases lo with
  |none=>rfl
  |some v=>exact Eo v n 0
 .
  cases hi with
  |none=>rfl
  |some v=>exact Eo v n n
theorem C1(i j:Nat):Builtin.Slice.slicePlaces (i:Int) (j:Int) 1=j-i:=by
 unfold Builtin.Slice.slicePlaces;have h1:(1:Int) > 0:=by omega
 simp only[h1,Zh,Int.ediv_one];split<;>omega
theorem va{v:Value}{o:Option Int}{Q:Option Int->Shared->Prop}(p:IsPart v o)(h:Q o s):wpAny (model prog w) A (Builtin.Slice.slicePartIndex v) Q E s:=by
 cases p with
 |none=>exact slicePart_none h
 |int i t=>exact slicePart_int h
theorem qE{sl:Addr}{vl vu:Value}{lo hi:Option Int}{n:Nat}{Q:Int×Int×Nat->Shared->Prop}(hs:s.heap.IsSliceOf sl vl vu .none)(pl:IsPart vl lo)(pu:IsPart vu hi)
  (h:Q (((sIx n 0 lo:Nat):Int),1,sIx n n hi-sIx n 0 lo) s):wpAny (model prog w) A (Builtin.Slice.sliceApplied (.ref sl) (pure (n:Int))) Q E s:=by
 obtain⟨os,hos,hcs,hds⟩:=id hs;unfold Builtin.Slice.sliceApplied Builtin.Slice.sliceFields;refine kS (kS (YQ hos hds (x:=vl) rfl (kS (YQ hos hds (x:=vu) rfl (kS (YQ hos hds (x:=.none) rfl (X3 ?_)))))));refine kS (slicePart_none ?_)
 show wpAny _ _ (if((1:Int) == 0)=true then _ else _) _ _ s
 rw[if_neg (by decide)];refine kS (va pl (kS (va pu (kS (X3 ?_)))))
 show wpAny _ _ (match Builtin.Slice.sliceAdjust lo hi 1 (n:Int)with|(lo,hi)=>pure (lo,(1:Int),Builtin.Slice.slicePlaces lo hi 1)) _ _ s
 rw[C0 lo hi n];show wpAny _ _ (pure (((sIx n 0 lo:Nat):Int),(1:Int),Builtin.Slice.slicePlaces ((sIx n 0 lo:Nat):Int) ((sIx n n hi:Nat):Int) 1)) _ _ s;rw[C1];exact X3 h
theorem HU(xs:Array Value)(i k:Nat):((List.range k).filterMap λ(m:Nat)=>xs[((i:Int)+(m:Int)*1).toNat]?).toArray=((xs.toList.drop i).take k).toArray:=by
 have e:(λ(m:Nat)=>xs[((i:Int)+(m:Int)*1).toNat]?)=λm=>xs[i+m]?:=by
  funext m
  have:((i:Int)+(m:Int)*1).toNat=i+m:=by omega
  rw[this]
 rw[e];have:=pick_run xs i k;rw[List.filterMap_map]at this;have e2:((λx=>xs[x]?) ∘ λx=>i+x)=λm=>xs[i+m]?:=rfl;rw[e2]at this;rw[this]
theorem getItem_tuple_cut{t sl:Addr}{items:Array Value}{vl vu:Value}{lo hi:Option Int}{Q:Value->Shared->Prop}(ht:IsTup s.heap t items)(hs:s.heap.IsSliceOf sl vl vu .none)(pl:IsPart vl lo)(pu:IsPart vu hi)
  (hw:¬(sIx items.size 0 lo=0/\sIx items.size items.size hi=items.size))
  (h:Q (.ref s.heap.objs.size) {s with heap:=s.heap.push {cls:=.type "tuple",data:=.seq ((items.toList.drop (sIx items.size 0 lo)).take (sIx items.size items.size hi-sIx items.size 0 lo)).toArray} })
  (hsz:items.size<=sizeLine):wpAny (model prog w) A (getItem (.ref t) (.ref sl)) Q E s:=by
 have htake:sizeOk (.seq ((items.toList.drop (sIx items.size 0 lo)).take (sIx items.size items.size hi-sIx items.size 0 lo)).toArray):=by show((items.toList.drop (sIx items.size 0 lo)).take (sIx items.size items.size hi-sIx items.size 0 lo)).toArray.size<=sizeLine;rw[Ye,YK,YS,Array.length_toList];omega
 have hj:sIx items.size items.size hi<=items.size:=Oz _ _ (XZ _) hi;obtain⟨os,hos,hcs,hds⟩:=id hs;have hTs:s.TypeIs (.ref sl) "slice":=⟨os,hos,hcs⟩;unfold getItem
 try with_reducible refine Zm ?_
 first|refine kS (X3 ?_)|skip
 refine kS (wpAny_sequenceKey ht.typeIs xp ?_)
 refine kS (Ze (name:=Str.ofString "__getitem__") ht.typeIs PyProof.Rows.slot_tuple_getitem
  (Zt PyProof.Rows.slot_tuple_getitem ht.typeIs entry_tuple_getitem ?_ (args_tuple_getitem _ _)))
 show wpAny _ _ (Builtin.Tuple.tupleItemsOf (.ref t) >>= _) _ _ s;refine kS (tupleItemsOf_ ht ?_);refine kS (wpAny_typeOf hTs ?_);rw[if_pos (by decide)];refine kS (qE hs pl pu ?_);have hno:¬((((sIx items.size 0 lo:Nat):Int) == 0 && (1:Int) == 1 && (sIx items.size items.size hi-sIx items.size 0 lo) == items.size)=true):=by intro q;rw[YI,YI]at q;have q1:((sIx items.size 0 lo:Nat):Int)=0:=eq_of_beq q.1.1;have q2:sIx items.size items.size hi-sIx items.size 0 lo=items.size:=eq_of_beq q.2;exact hw ⟨xL,xL⟩
 show wpAny _ _ (if(((sIx items.size 0 lo:Nat):Int) == 0 && (1:Int) == 1 && (sIx items.size items.size hi-sIx items.size 0 lo) == items.size)=true then _ else _) _ _ s
 rw[if_neg hno,HU]
 first
  |exact kS (m:=Builtin.Tuple.tupleExact _) (ZI (X3 ⟨_,rfl,X3 h⟩) htake)
  |exact kS (m:=Builtin.Tuple.tupleExact _) (ZI (kS (X3 (X3 ⟨_,rfl,X3 h⟩))) htake)
  |exact kS (kS (m:=Builtin.Tuple.tupleExact _) (ZI (X3 (X3 ⟨_,rfl,X3 h⟩)) htake))
  |exact kS (kS (m:=Builtin.Tuple.tupleExact _) (ZI (X3 ⟨_,rfl,X3 h⟩) htake))
end
end HT
namespace L2
open PySem PySem.Spec PyProof.Rows
noncomputable abbrev TO:=St->Hp->(Option Int->Hp->Prop)->Prop
def PO(X:Cx)(e:Option Expr)(t:TO):Prop :=
 ∀(ab:List (Addr×Obj))(s:Shared)(σ:St)(H:Hp)(Q:Option Int->Hp->Prop),Tp X ab σ H s->t σ H Q ->
  wpAny (model X.prog X.w) X.A (evalPart e X.env) (λu s'=>∃o H',Tp X ab σ H' s'/\IsPart u o/\Q o H') X.xe s
noncomputable def Ln:TO:=λ_ H Q=>Q none H
noncomputable def QY(t:TE):TO:=λσ H Q=>t σ H λx H1=>∃i,x=.int i/\Q (some i) H1
section
variable{X:Cx}{e:Expr}{te:TE}{lo hi:Option Expr}{tl th:TO}{pos p2:Pos}
theorem Lo:PO X none Ln:=by intro ab s σ H Q I h;rw[evalPart_none];exact X3 ⟨none,H,I,.none,h⟩
theorem Lp(h:PE X e te):PO X (some e) (QY te):=by intro ab s σ H Q I hw;rw[evalPart_some];refine Tu (h ab s σ H _ I hw) λu s1 jqz=>?_;obtain⟨x,H1,I1,r1,q1⟩:=jqz;obtain⟨i,rfl,q⟩:=q1;obtain⟨t,rfl⟩:=r1;exact⟨some i,H1,I1,.int i t,q⟩
def Ua(X:Cx)(r:V->Option Int->Option Int->Hp->VK->Prop):Prop :=
 ∀(ab:List (Addr×Obj))(s:Shared)(σ:St)(H:Hp)(x:V)(v vl vu:Value)(lo hi:Option Int)(sl:Addr)(Q:VK),Tp X ab σ H s->cQ x v->s.heap.IsSliceOf sl vl vu .none->IsPart vl lo->IsPart vu hi->r x lo hi H Q ->
  ∃ T id,typeLookup (.type T) "__getitem__"=pure (some (.builtin id))/\s.TypeIs v T/\wpAny (model X.prog X.w) X.A (getItem v (.ref sl)) (EP X ab σ Q) X.xe s
theorem Ua.or{r r':V->Option Int->Option Int->Hp->VK->Prop}(h:Ua X r)(h':Ua X r'):Ua X (λx lo hi H Q=>r x lo hi H Q∨r' x lo hi H Q):=by
 intro ab s σ H x v vl vu lo hi sl Q I rx hs pl pu q;rcases q with q|q
 . exact h ab s σ H x v vl vu lo hi sl Q I rx hs pl pu q
 . exact h' ab s σ H x v vl vu lo hi sl Q I rx hs pl pu q
def Ub(r:V->Option Int->Option Int->Hp->VK->Prop)(te:TE)(tl th:TO):TE:=λσ H Q=>te σ H λx H1=>tl σ H1 λl H2=>th σ H2 λu H3=>r x l u H3 Q
theorem HV{r:V->Option Int->Option Int->Hp->VK->Prop}(hr:Ua X r)(he:PE X e te)(hl:PO X lo tl)(hu:PO X hi th):PE X (.Subscript e (.Slice lo hi none p2) pos) (Ub r te tl th):=by intro ab s σ H Q I h;refine Subscript_ (Tu (he ab s σ H _ I h) λv s1 jqz=>?_);obtain⟨x,H1,I1,r1,q1⟩:=jqz;refine wpAny_Slice (Tu (hl ab s1 σ H1 _ I1 q1) λvl s2 jqz=>?_);obtain⟨l,H2,I2,pl,q2⟩:=jqz;refine Tu (hu ab s2 σ H2 _ I2 q2) λvu s3 jqz=>?_;obtain⟨u,H3,I3,pu,q3⟩:=jqz;rw[evalPart_none];refine X3 ?_;have I4:Tp X ab σ H3 {s3 with heap:=s3.heap.push {cls:=.type "slice",data:=.fields #[vl,vu,.none] } }:=I3.kept (t':=s3.toks) λb ob q=>p4 _ q;obtain⟨T,id,hT,ht,hg⟩:=hr ab {s3 with heap:=s3.heap.push {cls:=.type "slice",data:=.fields #[vl,vu,.none] } } σ H3 x v vl vu l u s3.heap.objs.size Q I4 r1 (Heap.IsSliceOf.new ..) pl pu q3;show wpAny (model X.prog X.w) X.A (subscriptTail e (.Slice lo hi none p2) v (.ref s3.heap.objs.size)) (EP X ab σ Q) X.xe {s3 with heap:=s3.heap.push {cls:=.type "slice",data:=.fields #[vl,vu,.none] } };exact tail_any (ops:=[.ref s3.heap.objs.size,v]) ht hT hg (by with_unfolding_all rfl)
noncomputable def KA(xs:List V)(lo hi:Option Int):List V:=(xs.drop (HT.sIx xs.length 0 lo)).take (HT.sIx xs.length xs.length hi-HT.sIx xs.length 0 lo)
theorem rp(xs:List V)(lo hi:Option Int):(KA xs lo hi).length<=xs.length:=by unfold KA;rw[YK,YS];omega
def SG(K:W.Frag):V->Option Int->Option Int->Hp->VK->Prop:=λx lo hi H Q=>∃a xs,x=.ref a/\TB K H a xs /\
 ¬(HT.sIx xs.length 0 lo=0/\HT.sIx xs.length xs.length hi=xs.length)/\∀p,H p=none->Q (.ref p) (Te H p (.tup (KA xs lo hi)))
theorem OA:Ua X (SG X.K):=by
 intro ab s σ H x v vl vu lo hi sl Q I rx hs pl pu h;obtain⟨a,xs,rfl,hx,hw,q⟩:=h;cases rx;obtain⟨its,r,ht,hz⟩:=I.tuple hx;have fI:its.toArray.size=xs.length:=by rw[Ye];exact r.length.symm
 refine⟨"tuple",_,PyProof.Rows.slot_tuple_getitem.lookup,ht.typeIs,?_⟩;refine HT.getItem_tuple_cut ht hs pl pu (by rw[fI];exact hw) ?_ (by rw[fI];exact hz);rw[fI];refine⟨.ref s.heap.objs.size,_,I.laid (t':=s.toks) (o:=.tup (KA xs lo hi)) (λb ob q=>p4 _ q) (XZ _) ?_,rfl,q _ (I.hok.fresh (XZ _))⟩;exact⟨X0 (rp xs lo hi) hz,_,(r.drop (HT.sIx xs.length 0 lo)).take (HT.sIx xs.length xs.length hi-HT.sIx xs.length 0 lo),IsTup.new _ _⟩
end
noncomputable def Uc(n:Nat)(i:Int):Option Nat:=if 0<=i then(if i<n then some i.toNat else none)else if -(n:Int)<=i then some (i+n).toNat else none
noncomputable def Ud{α:Type}(xs:List α)(i:Int):Option α:=(Uc xs.length i).bind λj=>xs[j]?
theorem Ep{n:Nat}{i:Int}{j:Nat}(h:Uc n i=some j):seqIndex? i n=some j/\j<n/\-(n:Int)<=i/\i<n:=by
 unfold Uc at h;by_cases h0:0<=i
 .
  rw[if_pos h0]at h;by_cases h1:i<n
  . rw[if_pos h1]at h;have e:i.toNat=j:=YN h;exact⟨by rw[seqIndex_of h0 h1,e],xL,xL,h1⟩
  . rw[if_neg h1]at h;cases h
 .
  rw[if_neg h0]at h;by_cases h1 : -(n:Int)<=i
  . rw[if_pos h1]at h;have e:(i+n).toNat=j:=YN h;exact⟨by rw[seqIndex_neg xL h1,e],xL,h1,xL⟩
  . rw[if_neg h1]at h;cases h
theorem An{α:Type}{xs:List α}{i:Int}{v:α}(h:Ud xs i=some v):∃j,seqIndex? i xs.length=some j/\xs[j]?=some v/\j<xs.length/\-(xs.length:Int)<=i/\i<xs.length:=by
 unfold Ud at h
 cases e:Uc xs.length i with
 |none=>rw[e]at h;cases h
 | some j =>
  rw[e]at h;obtain⟨h1,h2,h3,h4⟩:=Ep e;exact⟨j,h1,h,h2,h3,h4⟩
theorem gD{α:Type}{xs:List α}{j:Nat}{v:α}(h:xs[j]?=some v):Ud xs (j:Int)=some v:=by
 have hj:j<xs.length:=(tu.mp h).1;have e:Uc xs.length (j:Int)=some j:=by unfold Uc;rw[if_pos (by omega),if_pos (by omega)];simp
 unfold Ud;rw[e];exact h
def Ao(b:Expr):Prop:=∀o i,subscripted b false o i=operate [o,i] (getItem o i)
def Ue(X:Cx)(r:R2):Prop :=
 ∀(value slice:Expr)(ab:List (Addr×Obj))(s:Shared)(σ:St)(H:Hp)(x y:V)(v u:Value)(Q:VK),Tp X ab σ H s->cQ x v->cQ y u->r x y H Q ->
  subscripted slice false v u=operate [v,u] (getItem v u)->wpAny (model X.prog X.w) X.A (subscriptTail value slice v u) (EP X ab σ Q) X.xe s
def Ug(X:Cx)(id:String)(r:V->List V->Hp->VK->Prop):Prop :=
 ∀(ab:List (Addr×Obj))(s:Shared)(σ:St)(H:Hp)(x:V)(xs:List V)(v:Value)(us:List Value)(Q:VK),Tp X ab σ H s->cQ x v->cw xs us->r x xs H Q ->
  wpAny (model X.prog X.w) X.A (call (.builtin id) (v::us)) (EP X ab σ Q) X.xe s
section
variable{X:Cx}{a b:Expr}{ta tb:TE}{pos:Pos}
theorem QZ{r:R2}(hr:Ue X r)(ha:PE X a ta)(hb:PE X b tb)(hs:Ao b):PE X (.Subscript a b pos) (TQ r ta tb):=by intro ab s σ H Q I h;exact Subscript_ (SC ha hb I h λv u s2 x y H2 I2 rx ry q=>hr a b ab s2 σ H2 x y v u Q I2 rx ry q (hs _ _))
def SH(K:W.Frag):R2:=λx y H Q=>∃p xs i v,x=.ref p/\y=.int i/\Tz K H p xs/\Ud xs i=some v/\Q v H
def SI(K:W.Frag):R2:=λx y H Q=>∃p xs i v,x=.ref p/\y=.int i/\TB K H p xs/\Ud xs i=some v/\Q v H
def SJ:R2:=λx y H Q=>∃z i c,x=.str z/\y=.int i/\z.length<=sizeLine/\Ud z.cps.toList i=some c/\Q (.str ⟨#[c]⟩) H
theorem Er:Ue X (SH X.K):=by
 intro value slice ab s σ H x y v u Q I rx ry h hs;obtain⟨p,xs,i,z,rfl,rfl,hq,he,q⟩:=h;cases rx;obtain⟨t,rfl⟩:=ry;obtain⟨its,r,pl,hz⟩:=I.list hq;obtain⟨j,h1,h2,h3,h4,h5⟩:=An he;obtain⟨w,ew,rw'⟩:=r.get h2;have hl:=r.length;have hn:=u9;have Tw:EP X ab σ Q w s:=⟨z,H,I,rw',q⟩;by_cases h0:0<=i
 .
  have hj:i.toNat=j:=by rw[seqIndex_of h0 h5]at h1;exact YN h1
  exact item_listR pl.isList h0 xL (by rw[hj];simpa using ew) Tw hs
 .
  have hj:(i+(its.toArray.size:Int)).toNat=j:=by rw[seqIndex_neg xL h4]at h1;rw[Ye,<- hl];exact YN h1
  exact subscriptTail_builtinR (x:=w) pl.isList.typeIs slot_list_getitem.lookup
   (wpAny_getItem_list_neg (Q:=λr s'=>r=w/\EP X ab σ Q r s') pl.isList xL (by rw[Ye]<;>omega) xL (by rw[hj];simpa using ew) ⟨rfl,Tw⟩) hs
theorem OB:Ue X (SI X.K):=by
 intro value slice ab s σ H x y v u Q I rx ry h hs;obtain⟨p,xs,i,z,rfl,rfl,hq,he,q⟩:=h;cases rx;obtain⟨t,rfl⟩:=ry;obtain⟨its,r,pl,hz⟩:=I.tuple hq;obtain⟨j,h1,h2,h3,h4,h5⟩:=An he;obtain⟨w,ew,rw'⟩:=r.get h2;have hl:=r.length;have hn:=u9;have Tw:EP X ab σ Q w s:=⟨z,H,I,rw',q⟩
 exact subscriptTail_builtinR (x:=w) pl.typeIs slot_tuple_getitem.lookup
  (getItem_tuple (j:=j) (Q:=λr s'=>r=w/\EP X ab σ Q r s') pl xL xL (by rw[Ye,<- hl];exact h1) (by simpa using ew) ⟨rfl,Tw⟩) hs
theorem OC:Ue X SJ:=by
 intro value slice ab s σ H x y v u Q I rx ry h hs;obtain⟨z,i,c,rfl,rfl,hz,he,q⟩:=h;obtain⟨t,rfl⟩:=rx;obtain⟨t',rfl⟩:=ry;obtain⟨j,h1,h2,h3,h4,h5⟩:=An he;have hl:z.cps.toList.length=z.length:=by simp[Str.length]
 rw[hl]at h1 h4 h5;have hn:=u9
 exact tail_any (typeIs_str s z t) slot_str_getitem.lookup (getItem_str (c:=c) (by
  have e1:decide (i < -(2^63:Int))=false:=Yt xL;have e2:decide (i≥2^63)=false:=Yt xL
  rw[e1,e2,Bool.or_false]) (by rw[h1];simpa using h2) ⟨.str ⟨#[c]⟩,H,I.tok _,⟨_,rfl⟩,q⟩) hs
theorem C2(its:List Value)(n j:Nat)(u:Value):Obj.mapSeq (·.setIfInBounds j u) {cls:=.type "list",data:=.seq its.toArray n}={cls:=.type "list",data:=.seq (its.set j u).toArray n}:=by simp[Obj.mapSeq]
theorem Tp.lst{ab:List (Addr×Obj)}{σ:St}{H:Hp}{s:Shared}{p:Addr}{xs:List V}(I:Tp X ab σ H s)(h:H p=some (.lst xs)) :
  ∃(its:List Value)(n:Nat),cw xs its/\s.heap.get? p=some {cls:=.type "list",data:=.seq its.toArray n}/\xs.length<=sizeLine:=by
 obtain⟨z,its,n,r,e⟩:=I.hok p _ h;exact⟨its,n,r,e,z⟩
theorem Tp.lstUpd{ab:List (Addr×Obj)}{σ:St}{H:Hp}{s:Shared}{p:Addr}{xs ys:List V}{its its':List Value}{n n':Nat}{f:Obj->Obj}(I:Tp X ab σ H s)(h:H p=some (.lst xs))
  (ho:s.heap.get? p=some {cls:=.type "list",data:=.seq its.toArray n}) (hf:f {cls:=.type "list",data:=.seq its.toArray n}={cls:=.type "list",data:=.seq its'.toArray n' }) (r:cw ys its') (hz:ys.length<=sizeLine) (t:Nat) :
  Tp X ab σ (Te H p (.lst ys)) {s with heap:=s.heap.update p f,toks:=t}:=by
 have e:(s.heap.update p f).get? p=some {cls:=.type "list",data:=.seq its'.toArray n' }:=by rw[YX f ho (by rw[hf]<;>rfl),hf]
 refine I.write (x:=p) (e:=p) (by rw[h];trivial) (.inl rfl) (λb u hb q=>(Zu _ _ (YE hb)).trans q) ⟨_,e⟩ ?_;exact⟨hz,its',n',r,e⟩
def Q0:V->V->V->Hp->(Hp->Prop)->Prop:=λo i v H Q=>∃p xs k j,o=.ref p/\i=.int k/\H p=some (.lst xs)/\Uc xs.length k=some j/\Q (Te H p (.lst (xs.set j v)))
theorem HW:RU X Q0:=by
 intro ab s σ H o i v ov iv u Q I ro ri rv h;obtain⟨p,xs,k,j,rfl,rfl,hp,hj,q⟩:=h;cases ro;obtain⟨t,rfl⟩:=ri;obtain⟨its,n,r,ho,hz⟩:=I.lst hp;obtain⟨h1,h2,h3,h4⟩:=Ep hj;have hl:=r.length;have hn:=u9
 have I':Tp X ab σ (Te H p (.lst (xs.set j v))) {s with heap:=s.heap.update p (Obj.mapSeq (·.setIfInBounds j u)) } :=
  I.lstUpd hp ho (C2 its n j u) (r.set rv j) (by rw[List.length_set];exact hz) s.toks
 by_cases h0:0<=k
 .
  have hk:k.toNat=j:=by rw[seqIndex_of h0 h4]at h1;exact YN h1
  exact W.ki_setAt ho h0 xL (by rw[Ye,<- hl];exact h4) (by rw[hk];exact⟨_,I',q⟩)
 .
  have hk:(k+(its.toArray.size:Int)).toNat=j:=by rw[seqIndex_neg xL h3]at h1;rw[Ye,<- hl];exact YN h1
  exact W.ki_setBack ho xL (by rw[Ye,<- hl];exact h3) xL (by rw[hk];exact⟨_,I',q⟩)
theorem yj(lo hi:Option Int)(n:Nat):(sliceBounds lo hi none n).1=((HT.sIx n 0 lo:Nat):Int)/\(sliceBounds lo hi none n).2.1=((HT.sIx n n hi:Nat):Int)/\(sliceBounds lo hi none n).2.2=1:=by
 refine⟨?_,?_,rfl⟩
 .
  cases lo with
  |none=>simp[sliceBounds,HT.sIx]
  | some i =>
   simp only[sliceBounds,HT.sIx,Option.getD_none,show(1:Int) > 0 by decide,Zh];by_cases h:i<0
   . simp only[h,Zh]<;>omega
   . simp only[h,ZH]<;>omega
 .
  cases hi with
  |none=>simp[sliceBounds,HT.sIx]
  | some i =>
   simp only[sliceBounds,HT.sIx,Option.getD_none,show(1:Int) > 0 by decide,Zh];by_cases h:i<0
   . simp only[h,Zh]<;>omega
   . simp only[h,ZH]<;>omega
theorem vO(its:List Value)(lo hi:Option Int):slicePick its.toArray lo hi none=((its.drop (HT.sIx its.length 0 lo)).take (HT.sIx its.length its.length hi-HT.sIx its.length 0 lo)).toArray:=by obtain⟨h1,h2,h3⟩:=yj lo hi its.toArray.size;unfold slicePick;rw[h1,h2,h3];simp only[sliceRange_one,pick_run,Ye]<;>rfl
def SK(K:W.Frag):V->Option Int->Option Int->Hp->VK->Prop:=λx lo hi H Q=>∃a xs,x=.ref a/\Tz K H a xs/\∀p,H p=none->Q (.ref p) (Te H p (.lst (KA xs lo hi)))
theorem Lq:Ua X (SK X.K):=by intro ab s σ H x v vl vu lo hi sl Q I rx hs pl pu h;obtain⟨a,xs,rfl,hx,q⟩:=h;cases rx;obtain⟨its,r,ht,hz⟩:=I.list hx;have fI:=r.length;refine⟨"list",_,slot_list_getitem.lookup,ht.isList.typeIs,?_⟩;refine wpAny_getItem_list_slice ht.isList hs pl pu .none x_ ?_ (by rw[Ye]<;>omega);rw[vO,<- fI];refine⟨.ref s.heap.objs.size,_,I.laid (t':=s.toks) (o:=.lst (KA xs lo hi)) (λb ob q=>p4 _ q) (XZ _) ?_,rfl,q _ (I.hok.fresh (XZ _))⟩;exact⟨X0 (rp xs lo hi) hz,_,0,(r.drop (HT.sIx xs.length 0 lo)).take (HT.sIx xs.length xs.length hi-HT.sIx xs.length 0 lo),X5 _ rfl⟩
noncomputable def uC:V->Bool
 |.non=>true
 |.bl _=>true
 |.int _=>true
 |.str _=>true
 |_=>false
noncomputable def Uh:V->V->Bool
 |.non,.non=>true
 |.bl a,.bl b=>a == b
 |.bl a,.int b=>(if a then 1 else 0) == b
 |.int a,.bl b=>a == (if b then 1 else 0)
 |.int a,.int b=>a == b
 |.str a,.str b=>a == b
 |_,_=>false
theorem OD{A:Around}{s:Shared}{y x:V}{u v:Value}(ry:cQ y u)(rx:cQ x v)(fy:uC y=true)(fx:uC x=true):SeqAt.EqAt A s u v (Uh y x):=by
 cases y with
 | non =>
  cases ry
  cases x with
  |non=>cases rx;exact SeqAt.EqAt.same _
  |bl b=>cases rx;exact SeqAt.EqAt.none_bool b
  |int b=>obtain⟨t,rfl⟩:=rx;exact SeqAt.EqAt.none_int b t
  |str b=>obtain⟨t,rfl⟩:=rx;exact SeqAt.EqAt.none_str b t
  |_=>exact absurd (show false=true from fx) YC
 | bl a =>
  cases ry
  cases x with
  |non=>cases rx;exact SeqAt.EqAt.bool_none a
  |bl b=>cases rx;exact SeqAt.EqAt.bool_bool a b
  |int b=>obtain⟨t,rfl⟩:=rx;exact SeqAt.EqAt.bool_int a b t
  |str b=>obtain⟨t,rfl⟩:=rx;exact SeqAt.EqAt.bool_str a b t
  |_=>exact absurd (show false=true from fx) YC
 | int a =>
  obtain⟨t',rfl⟩:=ry
  cases x with
  |non=>cases rx;exact SeqAt.EqAt.int_none a t'
  |bl b=>cases rx;exact SeqAt.EqAt.int_bool a t' b
  |int b=>obtain⟨t,rfl⟩:=rx;exact SeqAt.EqAt.int_int a t' b t
  |str b=>obtain⟨t,rfl⟩:=rx;exact SeqAt.EqAt.int_str a t' b t
  |_=>exact absurd (show false=true from fx) YC
 | str a =>
  obtain⟨t',rfl⟩:=ry
  cases x with
  |non=>cases rx;exact SeqAt.EqAt.str_none a t'
  |bl b=>cases rx;exact SeqAt.EqAt.str_bool a t' b
  |int b=>obtain⟨t,rfl⟩:=rx;exact SeqAt.EqAt.str_int a t' b t
  |str b=>obtain⟨t,rfl⟩:=rx;exact SeqAt.EqAt.str_str a t' b t
  |_=>exact absurd (show false=true from fx) YC
 |_=>exact absurd (show false=true from fy) YC
noncomputable def Ui(x:V)(u:Value):Bool:=match u with
 |.none=>Uh .non x
 |.bool b=>Uh (.bl b) x
 |.int i _=>Uh (.int i) x
 |.str z _=>Uh (.str z) x
 |_=>false
theorem KB{x y:V}{u:Value}(r:cQ y u)(f:uC y=true):Ui x u=Uh y x:=by
 cases y with
 |non=>cases r;rfl
 |bl b=>cases r;rfl
 |int i=>obtain⟨t,rfl⟩:=r;rfl
 |str z=>obtain⟨t,rfl⟩:=r;rfl
 |_=>exact absurd (show false=true from f) YC
theorem rq{x:V}:∀{xs:List V}{us:List Value},cw xs us->xs.all uC=true->us.any (Ui x)=xs.any λy=>Uh y x
 |_,_,.nil,_=>rfl
 | y::xs,u::us,.cons r t,f=>by rw[List.all_cons,YI]at f;rw[ZS,ZS,KB r f.1,rq t f.2]
theorem m6{A:Around}{s:Shared}{x:V}{v:Value}(rx:cQ x v)(fx:uC x=true):∀{xs:List V}{us:List Value},cw xs us->xs.all uC=true->∀u∈us,SeqAt.EqAt A s u v (Ui x u)
 |_,_,.nil,_=>λu hu=>by cases hu
 | y::xs,u::us,.cons r t,f=>λu' hu=>by
  rw[List.all_cons,YI]at f;rcases XW.mp hu with rfl|hu
  . rw[KB r f.1];exact OD r rx f.1 fx
  . exact m6 rx fx t f.2 u' hu
noncomputable def Uj(x:V)(xs:List V):Bool:=xs.any λy=>Uh y x
def Uk(K:W.Frag)(neg:Bool):R2:=λx y H Q=>∃p xs,y=.ref p/\(Tz K H p xs∨TB K H p xs)/\uC x=true/\xs.all uC=true/\Q (.bl (if neg then !Uj x xs else Uj x xs)) H
theorem Es:TM X (compareOp .In) (Uk X.K false):=by
 intro ab s σ H x y v u Q I rx ry h;obtain⟨p,xs,rfl,hq,fx,fs,q⟩:=h;cases ry;rcases hq with hq|hq
 . obtain⟨its,r,pl,hz⟩:=I.list hq;refine SeqAt.in_listAt (Ui x) pl.isList (λw hw=>m6 rx fx r fs w (by simpa using hw)) ⟨.bl _,H,I,rfl,?_⟩;rw[show its.toArray.any (Ui x)=its.any (Ui x) by simp,rq r fs];exact q
 . obtain⟨its,r,pl,hz⟩:=I.tuple hq;refine SeqAt.in_tupleAt (Ui x) pl (λw hw=>m6 rx fx r fs w (by simpa using hw)) ⟨.bl _,H,I,rfl,?_⟩;rw[show its.toArray.any (Ui x)=its.any (Ui x) by simp,rq r fs];exact q
theorem yk:TM X (compareOp .NotIn) (Uk X.K true):=by
 intro ab s σ H x y v u Q I rx ry h;obtain⟨p,xs,rfl,hq,fx,fs,q⟩:=h;cases ry;rcases hq with hq|hq
 . obtain⟨its,r,pl,hz⟩:=I.list hq;refine SeqAt.notIn_listAt (Ui x) pl.isList (λw hw=>m6 rx fx r fs w (by simpa using hw)) ⟨.bl _,H,I,rfl,?_⟩;rw[show its.toArray.any (Ui x)=its.any (Ui x) by simp,rq r fs];exact q
 . obtain⟨its,r,pl,hz⟩:=I.tuple hq;refine SeqAt.notIn_tupleAt (Ui x) pl (λw hw=>m6 rx fx r fs w (by simpa using hw)) ⟨.bl _,H,I,rfl,?_⟩;rw[show its.toArray.any (Ui x)=its.any (Ui x) by simp,rq r fs];exact q
theorem pY:g8 X (.builtin "len") (λxs H Q=>∃ p ys,xs=[.ref p]/\(Tz X.K H p ys∨TB X.K H p ys)/\Q (.int ys.length) H):=by
 intro ab s σ H xs us Q I r h;obtain⟨p,ys,rfl,hq,q⟩:=h;obtain⟨u,rfl,rx⟩:=rn r;cases rx;have hn:=u9;rcases hq with hq|hq
 . obtain⟨its,r',pl,hz⟩:=I.list hq;have fI:=r'.length;exact Calls.call_len_list pl.isList (by simp only[Ye]<;>omega) ⟨.int ys.length,H,I.tok _,⟨s.toks+1,by rw[Ye,fI]⟩,q⟩
 . obtain⟨its,r',pl,hz⟩:=I.tuple hq;have fI:=r'.length;exact len_tuple pl (by simp only[Ye]<;>omega) ⟨.int ys.length,H,I.tok _,⟨s.toks+1,by rw[Ye,fI]⟩,q⟩
theorem yl:g8 X (.builtin "len") (λxs H Q=>∃ z,xs=[.str z]/\z.length<=sizeLine/\Q (.int z.length) H):=by intro ab s σ H xs us Q I r h;obtain⟨z,rfl,hz,q⟩:=h;obtain⟨u,rfl,t,rfl⟩:=rn r;have hn:=u9;exact len_str xL ⟨.int z.length,H,I.tok _,⟨_,rfl⟩,q⟩
theorem g8.or{f:Value}{r r':List V->Hp->VK->Prop}(h:g8 X f r)(h':g8 X f r'):g8 X f (λxs H Q=>r xs H Q∨r' xs H Q):=by
 intro ab s σ H xs us Q I rs q;rcases q with q|q
 . exact h ab s σ H xs us Q I rs q
 . exact h' ab s σ H xs us Q I rs q
theorem ym:g8 X (.type "list") (λxs H Q=>∃ p ys,xs=[.ref p]/\(Tz X.K H p ys∨TB X.K H p ys)/\∀ l,H l=none->Q (.ref l) (Te H l (.lst ys))):=by
 intro ab s σ H xs us Q I r h;obtain⟨p,ys,rfl,hq,q⟩:=h;obtain⟨u,rfl,rx⟩:=rn r;cases rx
 have Tw:∀(its:List Value),cw ys its->ys.length<=sizeLine->∀(h':Heap)(c':Nat),(∀b o',s.heap.get? b=some o'->h'.get? b=some o') ->
   h'.get? s.heap.objs.size=some {cls:=.type "list",dict:=none,data:=.seq its.toArray c',slots:=#[] }->EP X ab σ Q (.ref s.heap.objs.size) {s with heap:=h' }:=λits r' hz h' c' kp e =>
  ⟨.ref s.heap.objs.size,_,I.laid (t':=s.toks) kp (XZ _) (show fj X.prog X.w _ h' _ (.lst ys)from⟨hz,its,c',r',e⟩),rfl,q _ (I.hok.fresh (XZ _))⟩
 rcases hq with hq|hq
 . obtain⟨its,r',pl,hz⟩:=I.list hq;have fI:=r'.length;obtain⟨o,ho,hc,n,hd⟩:=pl.isList;exact call_list_seq p (.inl rfl) ho hc hd (λh' c' kp e=>Tw its r' hz h' c' kp e) (by simp only[Ye]<;>omega)
 . obtain⟨its,r',pl,hz⟩:=I.tuple hq;have fI:=r'.length;obtain⟨o,ho,hc,n,hd⟩:=pl;exact call_list_seq p (.inr rfl) ho hc hd (λh' c' kp e=>Tw its r' hz h' c' kp e) (by simp only[Ye]<;>omega)
def Ul(K:W.Frag)(T:String)(x:V)(H:Hp):Prop:=match x with
 |.str _=>T="str"
 |.int _=>T="int"
 | .ref p=>(T="list"/\∃ xs,Tz K H p xs)∨(T="tuple"/\∃ o,K.lookup p=some o/\o.cls=.type "tuple"/\o.dict=none) ∨
   (T="dict"/\((∃ kvs,H p=some (.dK kvs))∨∃ kvs,H p=some (.dT kvs)))∨(T="set"/\∃ S n,H p=some (.set S n))
 |_=>False
theorem OE{ab:List (Addr×Obj)}{σ:St}{H:Hp}{s:Shared}{T:String}{x:V}{v:Value}(I:Tp X ab σ H s)(r:cQ x v)(ty:Ul X.K T x H) :
  s.TypeIs v T/\∀a,v=.ref a->∃ob,s.heap.get? a=some ob/\ob.dict=none:=by
 cases x with
 | str z =>
  obtain⟨t,rfl⟩:=r;cases(show T="str" from ty);exact⟨typeIs_str s z t,λ_ e=>nomatch e⟩
 | int i =>
  obtain⟨t,rfl⟩:=r;cases(show T="int" from ty);exact⟨typeIs_int s i t,λ_ e=>nomatch e⟩
 | ref p =>
  cases r;rcases ty with⟨rfl,xs,hq⟩|⟨rfl,o,hk,hc,hd⟩|⟨rfl,hk⟩|⟨rfl,S,n,hk⟩
  . obtain⟨its,_,pl,_⟩:=I.list hq;refine⟨pl.isList.typeIs,λa e=>?_⟩;cases e;obtain⟨o,n,e,c,hd,_⟩:=pl;exact⟨o,e,hd⟩
  . refine⟨⟨o,I.kIn p o hk,hc⟩,λa e=>?_⟩;cases e;exact⟨o,I.kIn _ o hk,hd⟩
  .
   have z:∃o,s.heap.get? p=some o/\o.ExactDict:=by
    rcases hk with⟨kvs,hk⟩|⟨kvs,hk⟩
    . obtain⟨_,_,_,_,o,_,_,e,ex,_⟩:=I.hok p _ hk;exact⟨o,e,ex⟩
    . obtain⟨_,_,_,_,o,_,_,e,ex,_⟩:=I.hok p _ hk;exact⟨o,e,ex⟩
   obtain⟨o,e,ex⟩:=z;refine⟨⟨o,e,ex.1⟩,λa e2=>?_⟩;cases e2;exact⟨o,e,ex.2.1⟩
  . obtain⟨o,_,_,_,e,ex,_⟩:=I.hok p _ hk;refine⟨⟨o,e,ex.1⟩,λa e2=>?_⟩;cases e2;exact⟨o,e,ex.2.1⟩
 |_=>exact False.elim ty
def Um(K:W.Frag)(T:String)(r:V->List V->Hp->VK->Prop)(to:TE)(t:TA):TE:=λσ H Q=>to σ H λx H1=>Ul K T x H1/\t σ H1 λxs H2=>r x xs H2 Q
variable{o e:Expr}{es:List Expr}{to:TE}{t:TA}{name:Str}{apos cpos:Pos}{T id:String}{r:V->List V->Hp->VK->Prop}
theorem Lr(pa:PlainAttrs T)(slot:Slot T name id) (hty:typeOf (.builtin id)=pure (.type "method_descriptor")) (hm:Ug X id r) (ho:PE X o to) (ha:PA X (e::es) t)
  (hbase:autoParam (attributeBase o name X.env (eval o X.env)=eval o X.env) acE)
  (hfew:((backTo cpos (starEach (e::es) X.env)).all (λx=>!x.1) && (backToKw cpos (keywordEach [] X.env)).all (λx=>x.1.isSome)
   && decide ((e::es).length+([]:List Keyword).length+(if([]:List Keyword).isEmpty then 0 else 1)<30))=true:=by rfl)
  (hline:autoParam ((apos.endLine == cpos.line)=true) acE) (hs:autoParam (starEach (e::es) X.env=(false,eval e X.env)::starEach es X.env) acE) (hplain:autoParam ((backTo cpos (starEach es X.env)).any (·.1)=false) acE) :
  PE X (.Call (.Attribute o name apos) (e::es) [] cpos) (Um X.K T r to t):=by
 intro ab s σ H Q I h;refine wpAny_Call_method_late hbase hfew hline rfl (Tu (ho ab s σ H _ I h) λv s1 jqz=>?_);obtain⟨x,H1,I1,r1,ty,q1⟩:=jqz;obtain⟨h1,h2⟩:=OE I1 r1 ty;refine⟨T,id,pa,slot,hty,h1,h2,?_⟩;have hA:=ha cpos ab s1 σ H1 _ I1 q1;rw[hs]at hA ⊢;refine Calls.callWith_builtin (by show(false ||(backTo cpos (starEach es X.env)).any (·.1))=false;rw[hplain]<;>rfl) (Calls.evalArgs_plain ?_);exact Tu hA λus s2 ⟨vs,H2,I2,r2,q2⟩=>hm ab s2 σ H2 x vs v us Q I2 r1 r2 q2
/- xs.append(e),list.index on a module's tuple .. are Ug facts of 06m -/
end
def Uo(X:Cx)(id:String)(r:V->List V->Hp->VK->Prop):Prop :=
 ∀(ab:List (Addr×Obj))(s:Shared)(σ:St)(H:Hp)(x:V)(xs:List V)(v:Value)(us:List Value)(Q:VK),Tp X ab σ H s->cQ x v->cw xs us->r x xs H Q ->
  wpAny (model X.prog X.w) X.A (call (.builtin id) (v::us)) (EP X ab σ Q) X.xe s
theorem cw.one:∀{x:V}{us:List Value},cw [x] us->∃u,us=[u]/\cQ x u:=by
 intro x us h
 cases h with
 | cons r h =>
  cases h;exact⟨_,rfl,r⟩
theorem cw.two:∀{x y:V}{us:List Value},cw [x,y] us->∃u v,us=[u,v]/\cQ x u/\cQ y v:=by
 intro x y us h
 cases h with
 | cons r h =>
  cases h with
  | cons q h =>
   cases h;exact⟨_,_,rfl,r,q⟩
theorem cw.reverse{xs:List V}{us:List Value}(h:cw xs us):cw xs.reverse us.reverse:=by
 induction h with
 |nil=>exact .nil
 |cons r t ih=>rw[List.reverse_cons,List.reverse_cons];exact cw.append ih (.cons r .nil)
section
variable{X:Cx}{ab:List (Addr×Obj)}{σ:St}{H:Hp}{s:Shared}{l:Addr}{xs ys:List V}
theorem Tp.lset{its its':List Value}{n:Nat}{f:Array Value->Array Value}{t':Nat}(I:Tp X ab σ H s)(hH:H l=some (.lst xs))
  (e:s.heap.get? l=some {cls:=.type "list",data:=.seq its.toArray n}) (hf:f its.toArray=its'.toArray) (hv:cw ys its') (hz:ys.length<=sizeLine) :
  Tp X ab σ (Te H l (.lst ys)) {s with heap:=s.heap.update l (Obj.mapSeq f),toks:=t' }:=by
 have q:=PySem.IsL.update e f;rw[hf]at q;refine I.write (x:=l) (e:=l) (by rw[hH];exact trivial) (.inl rfl) (λb' u hb hu=>(Zu s.heap (Obj.mapSeq f) (YE hb)).trans hu) ⟨_,q⟩ ?_;exact⟨hz,its',_,hv,q⟩
theorem Tp.lnew{its:List Value}{t':Nat}(I:Tp X ab σ H s)(hv:cw ys its)(hz:ys.length<=sizeLine) :
  Tp X ab σ (Te H s.heap.objs.size (.lst ys)) {s with heap:=s.heap.push {cls:=.type "list",data:=.seq its.toArray},toks:=t' } :=
 I.laid (λ_ _ q=>p4 _ q) (XZ _) ⟨hz,its,0,hv,X5 _ rfl⟩
theorem Tp.fresh(I:Tp X ab σ H s):H s.heap.objs.size=none:=I.hok.fresh (XZ _)
theorem Tp.lstM(I:Tp X ab σ H s)(hH:H l=some (.lst xs)):xs.length<=sizeLine/\∃(its:List Value)(n:Nat),cw xs its/\xs.length=its.length/\s.heap.get? l=some {cls:=.type "list",data:=.seq its.toArray n}:=by obtain⟨z,its,n,r,e⟩:=I.hok l _ hH;exact⟨z,its,n,r,r.length,e⟩
theorem HX{n:Nat}(h:n<=sizeLine):Builtin.List.listTooLong n=false:=by unfold Builtin.List.listTooLong;exact Yt xL
end
section
variable{X:Cx}
def Ls:V->List V->Hp->VK->Prop:=λx vs H Q=>∃l xs y,x=.ref l/\vs=[y]/\H l=some (.lst xs)/\xs.length<sizeLine/\Q .non (Te H l (.lst (xs++[y])))
theorem yn:Uo X "list.append" Ls:=by intro ab s σ H x vs v us Q I rx rv h;obtain⟨l,xs,y,rfl,rfl,hH,hz,q⟩:=h;cases rx;obtain⟨u,rfl,ru⟩:=rv.one;obtain⟨z,its,n,r,hl,e⟩:=I.lstM hH;refine call_meets F.slot_list_append ⟨_,e,rfl⟩ F.entry_list_append (F.args_list_append_2 _ _) (PySem.list_append l its.toArray n u (by rw[Ye];omega)) ⟨e,?_⟩;refine⟨.non,_,I.lset (its':=its++[u]) hH e x_ (r.append (.cons ru .nil)) ?_,rfl,q⟩;rw[Yw,Y9];omega
def Lu:V->List V->Hp->VK->Prop:=λx vs H Q=>∃l b xs zs,x=.ref l/\vs=[.ref b]/\H l=some (.lst xs)/\H b=some (.lst zs)/\xs.length+zs.length<=sizeLine/\Q .non (Te H l (.lst (xs++zs)))
theorem Et:Uo X "list.extend" Lu:=by
 intro ab s σ H x vs v us Q I rx rv h;obtain⟨l,b,xs,zs,rfl,rfl,hH,hB,hz,q⟩:=h;cases rx;obtain⟨u,rfl,ru⟩:=rv.one;cases ru;obtain⟨z,its,n,r,hl,e⟩:=I.lstM hH;obtain⟨z2,its2,n2,r2,hl2,e2⟩:=I.lstM hB;have hsz:its.toArray.size+its2.toArray.size<=sizeLine:=by rw[Ye,Ye];omega
 have hlong:¬(!its.toArray.isEmpty && Builtin.List.listTooLong (its.toArray.size+its2.toArray.size))=true:=by rw[HX hsz,Bool.and_false];exact YC
 refine call_meets F.slot_list_extend ⟨_,e,rfl⟩ F.entry_list_extend (F.args_list_extend_2 _ _)
  (AutoSeq1.list_extend_list_list_0 l its.toArray n b its2.toArray n2 hlong (by rw[Ye];omega) xL) ⟨e,e2,?_⟩
 refine⟨.non,_,I.lset (its':=its++its2) hH e x_ (r.append r2) ?_,rfl,q⟩;rw[Yw];omega
end
end L2
namespace Att
open PySem PySem.W PySem.Calls PyProof.Rows
theorem rA{P:Params}{h:Heap}:∀(ns:List Int)(vs:List Value),WellAll P h vs (ns.map WData.int)->IntsAre vs ns:=by
 intro ns
 induction ns with
 | nil =>
  intro vs w;rw[Zv]at w;cases w;exact .nil
 | cons n ns ih =>
  intro vs w;rw[X7]at w
  cases w with
  | cons a b =>
   cases a;exact .cons _ _ (ih _ b)
theorem Eu{l:OpenLaw}{n:Nat}(hn:l.most=some n){P:Params}{h:Heap}{args:List WData}{vals:List Value}
  (hpre:l.row.toRowW.claim.pre args=true) (hwl:WellAll P h vals args) :
  ∃ a vs ns,vals=[Value.ref a]/\args=[WData.list (ns.map WData.int)]/\h.get? a=some {cls:=.type "list",data:=.seq vs.toArray}/\IntsAre vs ns/\ns.length<=n:=by
 have hsh:WShape.hasAll [] args [.list .int]=true:=(pre_splitW hpre).1;have hc:l.pre.holds [] {args:=args}=true:=(pre_splitW hpre).2;obtain⟨d,r,rfl,h1,h2⟩:=hasAllW_cons hsh;obtain rfl:=hasAllW_nil h2;obtain⟨xs,rfl,h3⟩:=hasW_list h1;obtain⟨ns,rfl⟩:=items_int h3
 have fI:ns.length<=n:=by
  unfold OpenLaw.pre at hc;have h4:(WTm.not (.lt (.lit (.int (n:Int))) (.len (.arg 0)))).holds [] {args:=[.list (ns.map .int)] }=true:=by have h4:=(holds_andW hc).1;rw[hn]at h4;exact h4
  have h5:=condW_of h4 (w_not (w_lt w_lit (w_len_list (w_arg rfl))));rw[tv]at h5;refine Nat.le_of_not_lt λq=>?_;have q':(n:Int)<((ns.length:Nat):Int):=by omega
  first
   |(rw[Y6 q']at h5;exact absurd h5 xp)
   |(simp at h5;omega)
 cases hwl with
 | cons w1 w2 =>
  cases w2
  cases w1 with
  |list ho hall=>exact⟨_,_,ns,rfl,rfl,ho,rA ns _ hall,fI⟩
theorem Ew(l:OpenLaw)(args:List WData):l.row.toRowW.claim.post args (.bool true) args=true :=
 postW_of (r:=l.row.toRowW) (X:=(true == true))
  (show WShape.has [] (.bool true) .bool=true by first|rfl|decide|simp[WShape.has,WShape.arms,WShape.armsAll])
  (show(WTm.eq .res (.lit (.bool true))).value [] {args:=args,res:=some (.bool true),after:=args}=some (.bool (true == true))from w_eq_bool (w_res rfl) w_lit) rfl
theorem attach_call{l:OpenLaw}{n:Nat}{q:Program}{loose:List Str}{XP:(Str->Option Value)->Heap->Prop}{YP:World->Heap->Prop}{d:DefRec}
  (hn:l.most=some n) (hdf:d.params.defaults=[])
  (call:∀(w:World)(s₀ s₁:Shared)(mg mb:Str->Option Value)(fa:Addr)(o:Obj)(pm cd doc:Value)(a:Addr)(vs:List Value)(ns:List Int),
   Ground q loose [] XP w s₀ mg mb s₁.heap->YP w s₁.heap ->
   s₁.heap.get? fa=some o->o.data=.func (docDef d.name d.params d.body d.scope pm cd doc)->s₁.heap.CodeRec cd d.name->mg d.name=some (.ref fa) ->
   s₁.heap.get? a=some {cls:=.type "list",data:=.seq vs.toArray}->IntsAre vs ns->ns.length<=n->s₁.gens=#[] ->
   codeAny (model l.prog w) callerA (.call (.ref fa) ⟨[.ref a],[]⟩) (λr s'=>r=.ok (.ret (.bool true))/\OldK s₁.heap s'.heap/\s'.os=s₁.os/\AllBare s'.gens) s₁) :
  WalkO q loose XP YP l.row.toRowW d [] (λf vs=>PySem.call f vs):=by
 intro w s₀ s₁ mg mb G Y fa o pm cd doc dV kV ho hd hcd hD hmg hg args vals as hpre hlay hrd hwl hlo;obtain rfl:dV=.none:=Dflts.none hD hdf;obtain rfl:kV=.none:=Dflts.noKw hD;obtain⟨a,vs,ns,rfl,rfl,hobj,hints,fI⟩:=Eu hn hpre hwl;refine enter_call (codeAny_mono (call w s₀ s₁ mg mb fa o pm cd doc a vs ns G Y ho (fd_plain hd) hcd hmg hobj hints fI hg) λr s' hq=>?_);obtain⟨rfl,h2,h3,h4⟩:=hq;exact⟨.inl ⟨.bool true,.bool true,[],rfl,λ_=>rfl,.bool true,Ew l _,λ_=>⟨List.Pairwise.nil,λ_ hm=>(nomatch hm)⟩⟩,h2,h3,h4⟩
section
noncomputable def RX(h:Heap)(L d:Addr):List (Addr×Obj):=(List.range h.objs.size).filterMap λa=>if a=L∨a=d then none else(h.get? a).map λo=>(a,o)
end
end Att
namespace L2
open PySem PySem.Spec PyProof.Rows
theorem yo:∀{vs:List Value}{ns:List Int},IntsAre vs ns->cw (ns.map V.int) vs
 |_,_,.nil=>.nil
 |_,_,.cons n t h=>.cons ⟨t,rfl⟩ (yo h)
def Qy(H:Hp):Prop:=∀b,H b=none∨(∃o xs,H b=some (.frz o (.lst xs)))∨∃q,H b=some (.tbl q)
noncomputable def eh(K:W.Frag):List (Addr×Str):=lamNames.filterMap λx=>(W.tabIn K x).map λp=>(p.2,Oh x)
noncomputable def tabsOk(K:W.Frag):Bool:=decide ((eh K).map (·.1)).Nodup && (eh K).all λp=>(K.lookup p.1).isNone
theorem Ex{K:W.Frag}{P:Addr}{q:Str}(h:(P,q)∈eh K):∃x∈lamNames,∃c,W.tabIn K x=some (c,P)/\q=Oh x:=by
 obtain⟨x,hx,e⟩:=List.mem_filterMap.mp h
 cases z:W.tabIn K x with
 |none=>rw[z]at e;cases e
 |some p=>rw[z]at e;cases e;exact⟨x,hx,p.1,z,rfl⟩
theorem ll{α β:Type}[BEq α][LawfulBEq α]:∀{l:List (α×β)}{a:α}{b:β},l.lookup a=some b->(a,b)∈l
 |[],_,_,h=>nomatch h
 | (x,y)::r,a,b,h=>by
  rw[YJ]at h
  cases hb:a == x with
  |true=>rw[hb]at h;cases h;rw[eq_of_beq hb];exact .head _
  |false=>rw[hb]at h;exact .tail _ (ll h)
theorem jw{α β:Type}[BEq α][LawfulBEq α]:∀{l:List (α×β)}{a:α}{b:β},(l.map (·.1)).Nodup->(a,b)∈l->l.lookup a=some b
 |[],_,_,_,h=>nomatch h
 | (x,y)::r,a,b,nd,h=>by
  rw[X7,Yr]at nd;rw[YJ];rcases XW.mp h with e|h
  . cases e;simp
  . have:a≠x:=λz=>nd.1 (z ▸ List.mem_map_of_mem (f:=(·.1)) h);rw[show(a == x)=false from beq_false_of_ne this];exact jw nd.2 h
theorem C3{K:W.Frag}{x:Str}{c P:Addr}(h:W.tabIn K x=some (c,P)):K.lookup c≠none:=by
 unfold W.tabIn at h;split at h
 .
  split at h
  .
   split at h
   .
    split at h
    .
     rename_i hco;split at h
     . cases h;intro z;rw[hco]at z;cases z
     . cases h
    . cases h
   . cases h
  . cases h
 . cases h
theorem HY{P:Program}{w:World}{K:W.Frag}{mg mb:Str->Option Value}{CX:TY}{k:Nat}{fa a:Addr}{fd:FuncData}{x:Str}{sp:Sp}{s₁:Shared}{vs:List Value}{ns:List Int}
  (KX:K.In s₁.heap) (hns:s₁.heap.Ns mainGlobals mg) (hb:s₁.heap.Ns builtinsNs mb) (hbb:∀ x:Str,x≠"__name__"->mb x=bootBuiltins x) (hlim:s₁.heap.NoLimit) (hsys:∃ mm,s₁.heap.Ns sysModules mm) (hbm:Og mg s₁.heap) (hto:tabsOk K=true)
  (htb:∀x∈lamNames,∀c P,W.tabIn K x=some (c,P)->W.CodeHd s₁.heap c P/\s₁.heap.get? P=some (W.tabObj #[])) (hg:s₁.gens=#[])
  (ha:s₁.heap.get? a=some {cls:=.type "list",data:=.seq vs.toArray}) (hi:IntsAre vs ns) (hl:ns.length<=sizeLine) (hr:uB k callerA)
  (F:∀base:Heap,K.In base->base.Ns mainGlobals mg->FnOk P w K mg base CX k fa fd [x] sp) (hbind:∀(s:Shared)(u:Value),BindsTo s fd ⟨[u],[]⟩ [(x,u)])
  (hsp:∀H:Hp,Qy H->Tz K H a (ns.map V.int)->sp [.ref a] H (λv _=>v=.bl true) λ_ _ _=>False)
  (hCX:∀H e s',CX [] H s₁ (λ_ _ _=>False) e s'->False) :
  codeAny (model P w) callerA (.call (.ref fa) ⟨[.ref a],[]⟩) (λr s'=>r=.ok (.ret (.bool true))/\OldK s₁.heap s'.heap/\s'.os=s₁.os/\AllBare s'.gens) s₁:=by
 have rv:=yo hi;have lenV:=hi.length;obtain⟨nd,kn⟩:=aak.mp hto;have nd:=of_decide_eq_true nd;have tabAt:∀{b:Addr}{q:Str},(eh K).lookup b=some q->PySem.isCodeTable s₁.heap b/\s₁.heap.get? b=some (W.tabObj #[])/\K.lookup b=none:=λ{b q} e=>by have hm:(b,q)∈eh K:=ll e;obtain⟨x,hx,c,e1,_⟩:=Ex hm;obtain⟨h1,h2⟩:=htb x hx c b e1;refine⟨(h1.tab h2).isCodeTable,h2,?_⟩;have:=List.all_eq_true.mp kn (b,q) hm;simpa using this
 have core:∀H:Hp,Qy H->Tz K H a (ns.map V.int)->Tf P w H s₁.heap->(∀b,H b≠none->b=a∨∃q,H b=some (.tbl q)/\(eh K).lookup b=some q)->(∀b,H b≠none->K.lookup b=none)->Tj K H ->
   codeAny (model P w) callerA (.call (.ref fa) ⟨[.ref a],[]⟩) (λr s'=>r=.ok (.ret (.bool true))/\OldK s₁.heap s'.heap/\s'.os=s₁.os/\AllBare s'.gens) s₁:=by
  intro H hO hS hok hA hK hT;have base_of:∀{b:Addr}{o:Obj},s₁.heap.get? b=some o->H b=none->(HN s₁.heap H).get? b=some o:=λe n=>HP e n
  have noB:∀{b:Addr}{o:Obj},s₁.heap.get? b=some o->(∀us n,o.data≠.seq us n)->(∀us,o.data≠.fields us)->H b=none:=λ{b o} e d1 d2=>by
   cases q:H b with
   |none=>rfl
   | some u =>
    rcases hA b (by rw[q];simp)with e' | ⟨z,_,e'⟩
    . subst e';rw[ha]at e;cases e;exact absurd rfl (d1 _ _)
    . rw[(tabAt e').2.1]at e;cases e;exact absurd rfl (d2 _)
  have noA:∀{b:Addr}{o:Obj}{es:Array DictEntry}{ep:Nat},s₁.heap.get? b=some o->o.data=.dict es ep->H b=none:=λ{b o es ep} e d =>
   noB e (λus n z=>by rw[d]at z;cases z) λus z=>by rw[d]at z;cases z
  have nsK:∀{b:Addr}{m:Str->Option Value},s₁.heap.Ns b m->(HN s₁.heap H).Ns b m:=λ{b m} ⟨o,es,ep,e,d,r⟩=>⟨o,es,ep,base_of e (noA e d),d,r⟩
  have hKb:K.In (HN s₁.heap H):=λb o e=>base_of (KX b o e) (by
   cases q:H b with
   |none=>rfl
   |some u=>rw[hK b (by rw[q];simp)]at e;cases e)
  have hM:Mod K mg (HN s₁.heap H):=⟨hKb,nsK hns,⟨mb,nsK hb,hbb⟩,let ⟨mc,h1,h2⟩:=hlim;⟨mc,nsK h1,h2⟩,let ⟨mm,h1⟩:=hsys;⟨mm,nsK h1⟩,by
   obtain⟨bm,ob,b1,b2,b3,b4,b5,b6⟩:=hbm
   exact⟨bm,ob,b1,b2,base_of b3 (noB b3 (λus n z=>by rw[b6]at z;cases z) λus z=>by rw[b6]at z;cases z),b4,b5,b6⟩,λx hx c P e=>by
   obtain⟨⟨o,vs,file,tf,flags,tg,Up,text,tt,e1,r⟩,_⟩:=htb x hx c P e
   exact⟨o,vs,file,tf,flags,tg,Up,text,tt,base_of e1 (by
    cases q:H c with
    |none=>rfl
    |some u=>exact absurd (hK c (by rw[q];simp)) (C3 e)),r⟩⟩
  have e0:Qx P w K mg (HN s₁.heap H) callerA [] s₁ H:=⟨rfl,hM,λb o e=>Lg e,Nat.le_of_eq (Ec _ _),trivial,λb hb=>absurd (show b∈([]:List Addr)from hb) x_,hok,.of_eq hg,hT⟩;refine codeAny_mono ((F _ hKb (nsK hns)).run callerA [] s₁ H ⟨[.ref a],[]⟩ [.ref a] [.ref a] _ _ hr e0 (hbind s₁ (.ref a)) (.cons rfl .nil) (hsp H hO hS)) λr s' h=>?_
  cases r with
  |error e=>exact(hCX H e s' h).elim
  | ok fl =>
   cases fl with
   |next=>exact False.elim h
   |brk=>exact False.elim h
   |cont=>exact False.elim h
   | ret u =>
    obtain⟨v,H',os,bare,un,hok',r',q⟩:=h;have q':v=.bl true:=q;subst q';obtain rfl:u=Value.bool true:=r'
    have Tw:∀b o,s₁.heap.get? b=some o->s'.heap.get? b=some o∨(PySem.isCodeTable s₁.heap b/\o=W.tabObj #[]/\∃ps,s'.heap.get? b=some (W.tabObj ps)):=λb o e=>by
     cases q:H b with
     |none=>exact .inl (un.keep b o e q (by intro z;exact absurd (show b∈([]:List Addr)from z) x_) x_)
     | some u =>
      rcases hO b with z|⟨ob,xs,z⟩|⟨t,z⟩
      . rw[q]at z;cases z
      . have z2:=un.frzs b ob _ z;obtain⟨e1,_⟩:=hok b _ z;obtain⟨e2,_⟩:=hok' b _ z2;rw[e]at e1;cases e1;exact .inl e2
      .
       rcases hA b (by rw[q];simp)with e' | ⟨t2,_,e'⟩
       . subst e';obtain⟨ps,e1,_⟩:=hok b _ z;rw[ha]at e1;cases e1
       . obtain⟨ps,e2,_⟩:=hok' b _ (un.tbls b _ z);obtain⟨t1,t2,_⟩:=tabAt e';rw[e]at t2;cases t2;exact .inr ⟨t1,rfl,ps,e2⟩
    refine⟨rfl,⟨λb o e=>?_,λb o e=>?_⟩,os,bare⟩
    .
     rcases Tw b o e with z|⟨t,rfl,ps,z⟩
     . exact .inl z
     . exact .inr (.inl ⟨t,rfl,#[],ps,rfl,by rw[Array.empty_append];exact z⟩)
    .
     rcases Tw b o e with z|⟨t,_,ps,z⟩
     . exact⟨o,z⟩
     . exact⟨_,z⟩
 have tbsOf:∀{H:Hp},(∀b q,(eh K).lookup b=some q->H b=some (.tbl q))->Tj K H:=λ{H} h x hx c P e=>h P _ (jw nd (List.mem_filterMap.mpr ⟨x,hx,by rw[e];rfl⟩));have okT:∀{H:Hp}{b:Addr}{q:Str},(eh K).lookup b=some q->fj P w H s₁.heap b (.tbl q):=λ{H b q} e=>⟨#[],(tabAt e).2.1,trivial,λpos cv z=>by simp[codeAmong]at z⟩;have na:∀q,(eh K).lookup a≠some q:=λq z=>by have:=(tabAt z).2.1;rw[ha]at this;cases this
 cases hk:K.lookup a with
 | some o =>
  have e:=KX a o hk;rw[ha]at e;cases e;refine core (λb=>((eh K).lookup b).map .tbl) (λb=>?_) (.inr ⟨_,vs.toArray,_,hk,rfl,rfl,rfl,by rw[Ye,lenV];exact hl,by simpa using rv⟩) (λb u z=>?_) (λb z=>?_) (λb z=>?_) (tbsOf λb q e=>by show Option.map _ _=_;rw[e];rfl)
  .
   show Option.map HO.tbl ((eh K).lookup b)=none∨_
   cases q:(eh K).lookup b with
   |none=>exact .inl rfl
   |some t=>exact .inr (.inr ⟨t,by show Option.map _ _=_;rw[q];rfl⟩)
  .
   have z':Option.map HO.tbl ((eh K).lookup b)=some u:=z
   cases q:(eh K).lookup b with
   |none=>rw[q]at z';cases z'
   |some t=>rw[q]at z';cases z';exact okT q
  .
   have z':Option.map HO.tbl ((eh K).lookup b)≠none:=z
   cases q:(eh K).lookup b with
   |none=>rw[q]at z';exact absurd rfl z'
   |some t=>exact .inr ⟨t,rfl,rfl⟩
  .
   have z':Option.map HO.tbl ((eh K).lookup b)≠none:=z
   cases q:(eh K).lookup b with
   |none=>rw[q]at z';exact absurd rfl z'
   |some t=>exact(tabAt q).2.2
 | none =>
  have at_a:∀ b,(if b=a then some (HO.frz {cls:=.type "list",data:=.seq vs.toArray} (.lst (ns.map V.int)))else((eh K).lookup b).map .tbl)≠none->b=a∨∃ q,(eh K).lookup b=some q:=λb z=>by
   by_cases hb:b=a
   . exact .inl hb
   .
    rw[if_neg hb]at z
    cases q:(eh K).lookup b with
    |none=>rw[q]at z;exact absurd rfl z
    |some t=>exact .inr ⟨t,rfl⟩
  have tabA:∀ b q,(eh K).lookup b=some q->(if b=a then some (HO.frz {cls:=.type "list",data:=.seq vs.toArray} (.lst (ns.map V.int)))else((eh K).lookup b).map .tbl)=some (.tbl q):=λb q e=>by rw[if_neg (λ(z:b=a)=>na q (by rw[<- z];exact e)),e];rfl
  refine core (λb=>if b=a then some (.frz {cls:=.type "list",data:=.seq vs.toArray} (.lst (ns.map V.int)))else((eh K).lookup b).map .tbl) (λb=>?_) (.inl (.inr ⟨{cls:=.type "list",data:=.seq vs.toArray},if_pos rfl⟩)) (λb u z=>?_) (λb z=>?_) (λb z=>?_) (tbsOf λb q e=>tabA b q e)
  .
   by_cases hb:b=a
   . exact .inr (.inl ⟨_,_,if_pos hb⟩)
   .
    cases q:(eh K).lookup b with
    |none=>exact .inl (by show ite _ _ _=_;rw[if_neg hb,q];rfl)
    |some t=>exact .inr (.inr ⟨t,tabA b t q⟩)
  .
   by_cases hb:b=a
   . have z':=(if_pos hb).symm.trans z;cases z';subst hb;exact⟨ha,by rw[tv];exact hl,vs,_,rv,ha⟩
   .
    have z':=(if_neg hb).symm.trans z
    cases q:(eh K).lookup b with
    |none=>rw[q]at z';cases z'
    |some t=>rw[q]at z';cases z';exact okT q
  .
   rcases at_a b z with e|⟨q,e⟩
   . exact .inl e
   . exact .inr ⟨q,tabA b q e,e⟩
  .
   rcases at_a b z with e|⟨q,e⟩
   . rw[e];exact hk
   . exact(tabAt e).2.2
theorem walk_of{l:W.OpenLaw}{n k:Nat}{q:Program}{loose:List Str}{XP:(Str->Option Value)->Heap->Prop}{YP:World->Heap->Prop}{d:DefRec}{K:Params->W.Frag}{CX:World->TY}{sp:World->Sp}{x:Str}
  (hn:l.most=some n) (hq:importsNone q=true) (hn2:n<=sizeLine) (hdf:d.params.defaults=[]) (hr:uB k callerA)
  (hY:∀(w:World)(h:Heap),YP w h->(K w.params).In h) (hto:∀w:World,tabsOk (K w.params)=true) (hrc:∀(w:World),∀x∈lamNames,W.tabIn (K w.params) x=none∨((recsOf q).find? λe=>e.name == x).isSome=true)
  (F:∀(w:World)(mg:Str->Option Value)(fa:Addr)(h:Heap),(K w.params).In h->h.Ns mainGlobals mg->mg d.name=some (.ref fa) ->
   ∃fd:FuncData,(∀(s:Shared)(u:Value),BindsTo s fd ⟨[u],[]⟩ [(x,u)]) /\
    ∀base:Heap,(K w.params).In base->base.Ns mainGlobals mg->FnOk l.prog w (K w.params) mg base (CX w) k fa fd [x] (sp w))
  (hsp:∀(w:World)(H:Hp)(a:Addr)(ns:List Int),ns.length<=n->Qy H->Tz (K w.params) H a (ns.map V.int)->sp w [.ref a] H (λv _=>v=.bl true) λ_ _ _=>False)
  (hCX:∀(w:World)(H:Hp)(s:Shared)(e:Value)(s':Shared),CX w [] H s (λ_ _ _=>False) e s'->False) :
  W.WalkO q loose XP YP l.row.toRowW d [] (λf vs=>PySem.call f vs):=by
 refine Att.attach_call hn hdf λw s₀ s₁ mg mb fa o pm cd doc a vs ns G Y ho hd hcd hmg hobj hints fI hg=>?_;have KX:=hY w _ Y;obtain⟨fd,hb,hF⟩:=F w mg fa _ KX G.T.g hmg
 exact HY KX G.T.g G.T.b G.T.builtins G.T.nolimit (let ⟨mm,h1,_⟩:=(G.T.seer hq).mods;⟨mm,h1⟩) (let ⟨bm,ob,b1,b2,b3,b4,b5,b6⟩:=G.T.bmain;⟨bm,ob,b1,b2,b3,b4,b5,b6⟩) (hto w) (λy hy c P e=>by
  rcases hrc w y hy with z|z
  . rw[z]at e;cases e
  .
   obtain⟨d',hd'⟩:=Option.isSome_iff_exists.mp z
   exact W.tab_of G.T KX hd' e) hg hobj hints (X0 fI hn2) hr hF hb (λH hO hS=>hsp w H a ns fI hO hS) λH e s'=>hCX w H s₁ e s'
noncomputable def oW(s:Stmt):Arguments:=match s with
 |.FunctionDef _ a _ _ _ _ _ _ _ _=>a
 |_=>{posonlyargs:=[],args:=[],vararg:=none,kwonlyargs:=[],kw_defaults:=[],kwarg:=none,defaults:=[] }
noncomputable def jx(s:Stmt):List Stmt:=match s with
 |.FunctionDef _ _ b _ _ _ _ _ _ _=>b
 |_=>[]
noncomputable def aj(s:Stmt):Scope:=match s with
 |.FunctionDef _ _ _ _ _ _ sc _ _ _=>sc
 |_=>{kind:=.function,names:=[],isGenerator:=false,isCoroutine:=false}
noncomputable abbrev CX0:TY:=λ_ _ _ _ _ _=>False
noncomputable abbrev E0:XK:=λ_ _ _=>False
theorem OF{X:Cx}:BP CX0 X E0:=λ_ _ _ _ _ _ _ h=>h.elim
structure Uq (K:W.Frag) (x qual:Str) (st:Stmt) (f:Addr) (fd:FuncData):Prop where
 ex:∃(oc:Value)(od:Option Addr)(kV doc pm:Value)(an:Option Addr)(cdv ct:Value)(osl:Array (Option Value)),
  fd=W.fnOf x qual (oW st) (jx st) (aj st) .none kV doc pm an cdv ct/\K.lookup f=some ⟨oc,od,.func fd,osl⟩/\W.codeIn K cdv qual=true
 kp:W.keepIn K (.ref f)=true
section
variable{P:Program}{w:World}{K:W.Frag}{mg:Str->Option Value}{base:Heap}
theorem Uq.ok{x qual:Str}{st:Stmt}{f:Addr}{fd:FuncData}{N ps:List Str}{k:Nat}{sp:Sp}(F:Uq K x qual st f fd)(S:aC N ps (aj st))(len:∀vs H Q E,sp vs H Q E->vs.length=ps.length)
  (hbody:∀(cdv:Value)(A:Around)(outer:List Env)(s:Shared)(H:Hp)(vs:List V)(Q:VK)(E:XK),uB k (A.deeper (envOfC qual (aj st) s.heap.objs.size f cdv))->sp vs H Q E ->
   ∃t,Tt (Lm CX0 P w K mg base N qual (aj st) f cdv A outer s H E).nox (jx st) t/\t {nx:=λ_ H'=>Q .non H',rt:=Q} (vM N vs) H):FnOk P w K mg base CX0 (k+1) f fd ps sp:=by
 obtain⟨oc,od,kV,doc,pm,an,cdv,ct,osl,rfl,lk,hcd⟩:=F.ex;refine QX lk hcd S len λA outer s H vs Q E hr hsp=>?_;obtain⟨t,h,q⟩:=hbody cdv A outer s H vs Q E hr hsp;exact⟨t,h.nox,q⟩
theorem Uq.binds{x qual:Str}{st:Stmt}{f:Addr}{fd:FuncData}{ps:List Str}(F:Uq K x qual st f fd)
  (h:∀(kV doc pm:Value)(an:Option Addr)(cdv ct:Value)(us:List Value),us.length=ps.length->bindArgs (W.fnOf x qual (oW st) (jx st) (aj st) .none kV doc pm an cdv ct) ⟨us,[]⟩=pure (ps.zip us)):Am K fd ps []:=by
 obtain⟨oc,od,kV,doc,pm,an,cdv,ct,osl,rfl,lk,hcd⟩:=F.ex;exact .all (h kV doc pm an cdv ct)
theorem KC{x qual:Str}{st:Stmt}{f:Addr}{oc:Value}{od an:Option Addr}{osl:Array (Option Value)}{kV doc pm cdv ct:Value}(l:K.lookup f=some ⟨oc,od,.func (W.fnOf x qual (oW st) (jx st) (aj st) .none kV doc pm an cdv ct),osl⟩)
  (c:W.codeIn K cdv qual=true) (k:W.keepIn K (.ref f)=true):Uq K x qual st f (W.fnOf x qual (oW st) (jx st) (aj st) .none kV doc pm an cdv ct):=⟨⟨oc,od,kV,doc,pm,an,cdv,ct,osl,rfl,l,c⟩,k⟩
end
def RY(H H':Hp):Prop:=∀b o,H b=some o->H' b=some o
theorem RY.free{H H':Hp}(e:RY H H'){l:Addr}(h:H' l=Option.none):H l=Option.none:=by
 cases q:H l with
 |none=>rfl
 | some o =>
  rw[e l o q]at h;cases h
end L2
set_option maxHeartbeats 0
namespace L2
open PySem PySem.Spec
open Sem (wp)
theorem kI:Slot "function" "__getattribute__" "object.__getattribute__" :=
 .of (owner:="object") (n:="__getattribute__") (by rw[aaw,ZM]; kernel_rfl) y_ y_ y_
  (by first|exact .inl y_|exact .inr y_) (by rw[isSubtype_type];kernel_rfl)
theorem Ap:entryFor table "object.__getattribute__"=some Builtin.«object.__getattribute__»:=by
 first | exact F.entry_object_getattribute | exact entryFor_alias (id':="object.__getattribute__") z_ (by first | rfl | decide +kernel) y_ z_ | kernel_rfl
theorem C4(a b:Value):argsOk "object.__getattribute__" ⟨[a,b],[]⟩:=by
 first|exact F.args_object_getattribute_2 a b|(unfold argsOk;kernel_rfl)
theorem Aq:typeLookup (.type "function") "__class__"=pure (some (.builtin "object.__class__")):=by rw[aaw,ZM]; kernel_rfl
theorem m7:isSubtype (.type "function") (.type (".".intercalate ("object.__class__".cutAt '.').dropLast))=pure true:=by rw[F.owner_object_class,isSubtype_type];kernel_rfl
section
variable{prog:Program}{w:World}{A:Around}{E:Value->Shared->Prop}{h:Heap}{g:Array GenState}{d:Drawn}{t:Nat}{os:OsState}{a:Addr}{o:Obj}
theorem yp{R:Result->Shared->Prop}(hx:h.get? a=some o) (hc:o.cls=.type "function") (hq:R (.ok (.ret (.type "function"))) ⟨h,g,d,t,os⟩) :
  codeAny (model prog w) A (.call (.builtin "getset_descriptor.__get__") ⟨[.builtin "object.__class__",.ref a,.type "function"],[]⟩) R ⟨h,g,d,t,os⟩:=by
 have hT:(⟨h,g,d,t,os⟩:Shared).TypeIs (.ref a) "function":=⟨_,hx,hc⟩;have hT5:(⟨h,g,d,t,os⟩:Shared).TypeIs (.builtin "object.__class__") "getset_descriptor":=F.typeOf_object_class;have f8:=m7;refine codeAny_call_builtin F.slot_gs_get.plain F.entry_gs_get (F.slot_gs_get.check _ _ _ _ _ _ _ _ hT5 (F.args_gs_get _ _ _) ?_)
 repeat (any_goals (first|assumption|wp_step))
 refine⟨Code.quiet_builtin _ y_,codeAny_builtin F.entry_object_class ?_⟩
 repeat (any_goals (first|assumption|wp_step))
theorem uD{tk:Tok}{Q:PySem.Fin->Shared->Prop}(hx:h.get? a=some o) (hc:o.cls=.type "function") (hq:Q (.done (.ret (.type "function"))) ⟨h,g,d,t,os⟩) :
  wpAny (model prog w) A (Builtin.«object.__getattribute__» ⟨[.ref a,.str "__class__" tk],[]⟩) Q E ⟨h,g,d,t,os⟩:=by
 have hT:(⟨h,g,d,t,os⟩:Shared).TypeIs (.ref a) "function":=⟨_,hx,hc⟩;have hT5:(⟨h,g,d,t,os⟩:Shared).TypeIs (.builtin "object.__class__") "getset_descriptor":=F.typeOf_object_class;have f4:=Aq;have f5:=F.typeOf_object_class;have f6:=F.slot_gs_get.lookup;have f7:=F.slot_gs_set.lookup
 repeat (any_goals (first|assumption|wp_step))
 refine yp hx hc ?_
 repeat (any_goals (first|assumption|wp_step))
theorem vP{tk:Tok}{R:Result->Shared->Prop}(hx:h.get? a=some o) (hc:o.cls=.type "function") (hq:R (.ok (.ret (.type "function"))) ⟨h,g,d,t,os⟩) :
  codeAny (model prog w) A (.call (.builtin "object.__getattribute__") ⟨[.ref a,.str "__class__" tk],[]⟩) R ⟨h,g,d,t,os⟩ :=
 codeAny_call_builtin kI.plain Ap (kI.check _ _ _ _ _ _ _ _ (show(⟨h,g,d,t,os⟩:Shared).TypeIs (.ref a) "function" from⟨_,hx,hc⟩) (C4 _ _) (uD hx hc hq))
theorem Ar{tk:Tok}{Q:Value->Shared->Prop}(hx:h.get? a=some o) (hc:o.cls=.type "function") (hq:Q (.type "function") ⟨h,g,d,t,os⟩):wpAny (model prog w) A (getAttrBy (.ref a) (.str "__class__" tk) false) Q E ⟨h,g,d,t,os⟩:=by
 have hT:(⟨h,g,d,t,os⟩:Shared).TypeIs (.ref a) "function":=⟨_,hx,hc⟩;have f2:=kI.lookup;have f3:=kI.bind (.ref a)
 repeat (any_goals (first|assumption|wp_step))
 refine vP hx hc ?_
 repeat (any_goals (first|assumption|wp_step))
theorem vQ{Q:Option Value->Shared->Prop}(hx:h.get? a=some o) (hc:o.cls=.type "function") (hq:Q (some (.type "function")) ⟨h,g,d,t+1,os⟩):wpAny (model prog w) A (getAttr? (.ref a) "__class__") Q E ⟨h,g,d,t,os⟩:=by
 unfold getAttr? getAttrBy?
 repeat (any_goals (first|assumption|with_reducible apply Ar hx hc|wp_step))
end
theorem vR{K:W.Frag}{a:Addr}:W.KitX K (.ref a) (.type "function") (W.KitAt a "function"):=W.kitx_of W.kitAt_ty (λ{_ _ _ _ _ s} p k=>by obtain⟨h,g,d,t,os⟩:=s; obtain⟨o,h1,h2⟩:=p; exact vQ h1 h2 k)
end L2
namespace L2
open PySem PySem.Spec PyProof.Rows
inductive D where
 |non|bl (b:Bool)|int (i:Int)|str (x:Str)|tup (xs:List D)|lst (xs:List D)|dct (n:Nat)|exc (c:Str) (ns:List Str) (xs:List D)|fn (x:Str) (d:D)|dk (ks:List Td) (vs:List D)|gf (x:Str)
def Ur(K:W.Frag)(H:Hp)(a:Addr)(xs:List V):Prop :=
 (∃o,H a=some (.frz o (.lst xs))) ∨
  ∃(o:Obj)(its:Array Value)(n:Nat),K.lookup a=some o/\o.cls=.type "list"/\o.dict=none/\o.data=.seq its n/\its.size<=sizeLine/\cw xs its.toList
theorem Ur.l{K:W.Frag}{H:Hp}{a:Addr}{xs:List V}(h:Ur K H a xs):Tz K H a xs:=by
 rcases h with⟨o,h⟩|h
 . exact .inl (.inr ⟨o,h⟩)
 . exact .inr h
def Lv:HO->Prop
 |.frz _ u=>Lv u
 |.ins _ _ _=>False
 |_=>True
noncomputable def HH(C L:Addr):List Value:=(if C=L then[]else[.ref C])++[.ref L,.type "ValueError",.type "Exception",.type "BaseException",.type "object"]
noncomputable def vb(K:W.Frag)(c:Str)(C:Addr):Bool:=match W.clsIn K C,W.nsIn K mainGlobals "LoadError" with
 | some cd,some (some (.ref L))=>cd.name == c && cd.hasDict && cd.mro == HH C L && (W.clsIn K L).any (λk=>k.name == ("LoadError" : Str)) &&
  W.findIn K (.ref C) "__getattribute__" == some (some (.builtin "BaseException.__getattribute__")) && W.findIn K (.ref C) "__getattr__" == some none && W.findIn K (.ref C) "__class__" == some (some (.builtin "object.__class__")) &&
  W.findIn K (.ref C) "__setattr__" == some (some (.builtin "object.__setattr__")) && W.typeIn K (.ref C) == some (.type "type") && W.nsIn K mainGlobals c == some (some (.ref C))
 |_,_=>false
noncomputable def OG:List Stmt->Option (Arguments×Expr×Scope×Pos)
 |[]=>none
 | st::r=>match OG r with
  |some l=>some l
  | none=>match st with
   | .Expr (.Call _ args _ _) _=>(match args.getLast? with
    |some (.Lambda p b sc pos)=>some (p,b,sc,pos)
    |_=>none)
   | .Return (some (.Call _ _ kws _)) _=>(match kws.getLast? with
    |some ⟨_,.Lambda p b sc pos,_⟩=>some (p,b,sc,pos)
    |_=>none)
   |_=>none
noncomputable def Q3(K:W.Frag)(x:Str):Option (Arguments×Expr×Scope×Pos):=match W.nsIn K mainGlobals x with
 | some (some (.ref f))=>(match K.lookup f with
  | some ⟨_,_,.func fd,_⟩=>(match fd.body with
   |.stmts b=>OG b
   |_=>none)
  |_=>none)
 |_=>none
def XF(H:Hp)(dx:Option Addr)(ns:List Str)(vs:List V):Prop:=(ns=[]/\vs=[]/\dx=none)∨∃d od,dx=some d/\H d=some (.frz od (.xd (ns.zip vs)))/\ns.length=vs.length
mutual
inductive Us (K:W.Frag) (H:Hp):V->D->Prop where
 |non:Us K H .non .non
 |bl (b:Bool):Us K H (.bl b) (.bl b)
 |int (i:Int):Us K H (.int i) (.int i)
 |str (x:Str):Us K H (.str x) (.str x)
 |tup {a:Addr} {vs:List V} {ds:List D} (h:TB K H a vs) (r:bV K H vs ds):Us K H (.ref a) (.tup ds)
 |lst {a:Addr} {vs:List V} {ds:List D} (h:Ur K H a vs) (r:bV K H vs ds):Us K H (.ref a) (.lst ds)
 |dct {a:Addr} {o:Obj} {kvs:List (Td×V)} (h:H a=some (.frz o (.dK kvs))):Us K H (.ref a) (.dct kvs.length)
 |exc {a:Addr} {o:Obj} {u:HO} {c:Str} {C:Addr} {ns:List Str} {vs:List V} {ds:List D} (h:H a=some (.frz o u)) (hv:Lv u) (hc:o.cls=.ref C) (hn:W.notCls o=true) (hs:vb K c C=true) (hq:∀f∈ns,W.findIn K (.ref C) f=some none) (hf:XF H o.dict ns vs) (r:bV K H vs ds):Us K H (.ref a) (.exc c ns ds)
 | fn {f c c':Addr} {oc oq:Obj} {x y:Str} {pr:Arguments} {bd:Expr} {sc:Scope} {pos:Pos} {pm ctv u:Value} {v:V} {d:D} (hl:Q3 K x=some (pr,bd,sc,pos)) (hf:H f=some (.frz (W.kla_obj "<lambda>" (Oh x) pr bd sc [(y,c)] pm c' ctv) (.own f)))
  (hq:H c'=some (.frz oq (.own c'))) (hc:BK oq (Oh x)) (hz:H c=some (.frz oc (.own c))) (hd:oc.data=.cell (some u)) (hv:cQ v u) (hm:(y,NameKind.free)∈sc.names) (r:Us K H v d):Us K H (.ref f) (.fn x d)
 |dk {a:Addr} {o:Obj} {kvs:List (Td×V)} {ds:List D} (h:H a=some (.frz o (.dK kvs))) (r:bV K H (kvs.map (·.2)) ds):Us K H (.ref a) (.dk (kvs.map (·.1)) ds)
 |gf {a:Addr} {x:Str} {fd:FuncData} (h:W.nsIn K mainGlobals x=some (some (.ref a))) (ho:K.lookup a=some ⟨.type "function",none,.func fd,#[]⟩) (hk:W.keepIn K (.ref a)=true):Us K H (.ref a) (.gf x)
inductive bV (K:W.Frag) (H:Hp):List V->List D->Prop where
 |nil:bV K H [] []
 |cons {v:V} {d:D} {vs:List V} {ds:List D} (h:Us K H v d) (t:bV K H vs ds):bV K H (v::vs) (d::ds)
end
theorem Us.inv_non{K:W.Frag}{H:Hp}{v:V}(h:Us K H v .non):v=.non:=by cases h;rfl
theorem Us.inv_bl{K:W.Frag}{H:Hp}{v:V}{b:Bool}(h:Us K H v (.bl b)):v=.bl b:=by cases h;rfl
theorem Us.inv_int{K:W.Frag}{H:Hp}{v:V}{i:Int}(h:Us K H v (.int i)):v=.int i:=by cases h;rfl
theorem Us.inv_str{K:W.Frag}{H:Hp}{v:V}{x:Str}(h:Us K H v (.str x)):v=.str x:=by cases h;rfl
theorem Us.inv_tup{K:W.Frag}{H:Hp}{v:V}{ds:List D}(h:Us K H v (.tup ds)):∃a vs,v=.ref a/\TB K H a vs/\bV K H vs ds:=by cases h;exact⟨_,_,rfl,‹_›,‹_›⟩
theorem Us.inv_lst{K:W.Frag}{H:Hp}{v:V}{ds:List D}(h:Us K H v (.lst ds)):∃a vs,v=.ref a/\Ur K H a vs/\bV K H vs ds:=by cases h;exact⟨_,_,rfl,‹_›,‹_›⟩
def Qz:HO->Prop
 |.tup _=>True
 |.frz _ _=>True
 |.tbl _=>True
 |_=>False
def yq(H H':Hp):Prop:=∀b o,Qz o->H b=some o->H' b=some o
theorem TB.pres{K:W.Frag}{H H':Hp}{a:Addr}{xs:List V}(p:yq H H')(h:TB K H a xs):TB K H' a xs:=by
 rcases h with(h|⟨o,h⟩)|h
 . exact .inl (.inl (p _ _ True.intro h))
 . exact .inl (.inr ⟨o,p _ _ True.intro h⟩)
 . exact .inr h
theorem Ur.pres{K:W.Frag}{H H':Hp}{a:Addr}{xs:List V}(p:yq H H')(h:Ur K H a xs):Ur K H' a xs:=by
 rcases h with⟨o,h⟩|h
 . exact .inl ⟨o,p _ _ True.intro h⟩
 . exact .inr h
theorem XF.pres{H H':Hp}(p:yq H H'){dx:Option Addr}{ns:List Str}{vs:List V}(h:XF H dx ns vs):XF H' dx ns vs:=by
 rcases h with h|⟨d,od,e,h,l⟩
 . exact .inl h
 . exact .inr ⟨d,od,e,p _ _ True.intro h,l⟩
def Ut(o:HO):Prop:=Qz o/\Lv o
theorem vS(o:Obj)(b:Addr):Ut (.frz o (.own b)):=⟨True.intro,True.intro⟩
theorem Lw(xs:List V):Ut (.tup xs):=⟨True.intro,True.intro⟩
section
variable{K:W.Frag}{H H':Hp}
theorem TB.mapv(p:∀b o,Ut o->H b=some o->H' b=some o){a:Addr}{xs:List V}(h:TB K H a xs):TB K H' a xs:=by
 rcases h with(h|⟨o,h⟩)|h
 . exact .inl (.inl (p _ _ (Lw _) h))
 . exact .inl (.inr ⟨o,p _ _ ⟨True.intro,True.intro⟩ h⟩)
 . exact .inr h
theorem Ur.mapv(p:∀b o,Ut o->H b=some o->H' b=some o){a:Addr}{xs:List V}(h:Ur K H a xs):Ur K H' a xs:=by
 rcases h with⟨o,h⟩|h
 . exact .inl ⟨o,p _ _ ⟨True.intro,True.intro⟩ h⟩
 . exact .inr h
theorem Us.mapv(p:∀b o,Ut o->H b=some o->H' b=some o){v:V}{d:D}(r:Us K H v d):Us K H' v d :=
 Us.rec (motive_1:=λv d _=>Us K H' v d) (motive_2:=λvs ds _=>bV K H' vs ds) .non .bl .int .str
  (λh _ r=>.tup (h.mapv p) r) (λh _ r=>.lst (h.mapv p) r) (λh=>.dct (p _ _ ⟨True.intro,True.intro⟩ h))
  (λh hv hc hn hs hq hf _ r=>.exc (p _ _ ⟨True.intro,hv⟩ h) hv hc hn hs hq (by
   rcases hf with hf|⟨d,od,e,h,l⟩
   . exact .inl hf
   .
    exact .inr ⟨d,od,e,p _ _ ⟨True.intro,True.intro⟩ h,l⟩) r)
  (λhl hf hq hc hz hd hv hm _ r=>.fn hl (p _ _ (vS _ _) hf) (p _ _ (vS _ _) hq) hc (p _ _ (vS _ _) hz) hd hv hm r)
  (λh _ r=>.dk (p _ _ ⟨True.intro,True.intro⟩ h) r) (λh ho hk=>.gf h ho hk) .nil (λ_ _ h t=>.cons h t) r
theorem bV.mapv(p:∀b o,Ut o->H b=some o->H' b=some o):∀{vs:List V}{ds:List D},bV K H vs ds->bV K H' vs ds
 |_,_,.nil=>.nil
 |_,_,.cons h t=>.cons (Us.mapv p h) (bV.mapv p t)
theorem Us.pres(p:yq H H'){v:V}{d:D}(r:Us K H v d):Us K H' v d:=r.mapv λb o z e=>p b o z.1 e
theorem bV.pres(p:yq H H'){vs:List V}{ds:List D}(r:bV K H vs ds):bV K H' vs ds:=r.mapv λb o z e=>p b o z.1 e
end
theorem bV.length{K:W.Frag}{H:Hp}:∀{vs:List V}{ds:List D},bV K H vs ds->vs.length=ds.length
 |_,_,.nil=>rfl
 |_,_,.cons _ t=>by simp[bV.length t]
theorem bV.get{K:W.Frag}{H:Hp}:∀{vs:List V}{ds:List D}{i:Nat}{d:D},bV K H vs ds->ds[i]?=some d->∃v,vs[i]?=some v/\Us K H v d
 |_,_,_,_,.nil,e=>by simp at e
 |_,_,0,_,.cons h _,e=>by simp at e;subst e;exact⟨_,rfl,h⟩
 | _,_,i+1,d,.cons _ t,e=>by obtain⟨v,h1,h2⟩:=bV.get (i:=i) (d:=d) t (by simpa using e);exact⟨v,by simpa using h1,h2⟩
theorem bV.set{K:W.Frag}{H:Hp}{v:V}{d:D}(r:Us K H v d):∀{vs:List V}{ds:List D}(i:Nat),bV K H vs ds->bV K H (vs.set i v) (ds.set i d)
 |_,_,_,.nil=>.nil
 |_,_,0,.cons _ t=>.cons r t
 |_,_,i+1,.cons h t=>.cons h (bV.set r i t)
theorem bV.append{K:W.Frag}{H:Hp}:∀{vs us:List V}{ds es:List D},bV K H vs ds->bV K H us es->bV K H (vs++us) (ds++es)
 |_,_,_,_,.nil,s=>s
 |_,_,_,_,.cons h t,s=>.cons h (bV.append t s)
theorem bV.take{K:W.Frag}{H:Hp}:∀{vs:List V}{ds:List D}(n:Nat),bV K H vs ds->bV K H (vs.take n) (ds.take n)
 |_,_,0,_=>.nil
 |_,_,_+1,.nil=>.nil
 |_,_,n+1,.cons h t=>.cons h (bV.take n t)
theorem bV.drop{K:W.Frag}{H:Hp}:∀{vs:List V}{ds:List D}(n:Nat),bV K H vs ds->bV K H (vs.drop n) (ds.drop n)
 |_,_,0,r=>r
 |_,_,_+1,.nil=>.nil
 |_,_,n+1,.cons _ t=>bV.drop n t
theorem bV.reverse{K:W.Frag}{H:Hp}:∀{vs:List V}{ds:List D},bV K H vs ds->bV K H vs.reverse ds.reverse
 |_,_,.nil=>.nil
 | _,_,.cons h t=>by rw[List.reverse_cons,List.reverse_cons];exact(bV.reverse t).append (.cons h .nil)
inductive L where
 |un|d (x:D)|own (a:Addr) (xs:List D)|bx (k:Option Addr) (ls:List L)|dic (a:Addr) (kvs:List (Td×D))
noncomputable abbrev Ev:=List L
mutual
noncomputable def bY:L->List Addr
 |.un=>[]
 |.d _=>[]
 |.own a _=>[a]
 |.bx k ls=>k.toList++jh ls
 |.dic a _=>[a]
noncomputable def jh:List L->List Addr
 |[]=>[]
 |l::ls=>bY l++jh ls
end
noncomputable def owns(ρ:Ev):List Addr:=ρ.flatMap bY
theorem et:∀ls:List L,jh ls=owns ls
 |[]=>rfl
 |l::ls=>by rw[jh,et ls];rfl
mutual
def bZ(K:W.Frag)(H:Hp)(s:Option V):L->Prop
 |.un=>True
 |.d x=>∃v,s=some v/\Us K H v x
 |.own a xs=>s=some (.ref a)/\∃vs,H a=some (.lst vs)/\bV K H vs xs
 |.bx none ls=>∃a vs,s=some (.ref a)/\TB K H a vs/\eW K H vs ls
 |.bx (some a) ls=>s=some (.ref a)/\∃vs,H a=some (.lst vs)/\eW K H vs ls
 |.dic a kvs=>s=some (.ref a)/\∃vs,H a=some (.dK vs)/\Paired (λ(p:Td×V) (q:Td×D)=>p.1=q.1/\Us K H p.2 q.2) vs kvs
def eW(K:W.Frag)(H:Hp)(vs:List V):List L->Prop
 |[]=>vs=[]
 |l::ls=>∃v us,vs=v::us/\bZ K H (some v) l/\eW K H us ls
end
mutual
theorem bZ.pres{K:W.Frag}{H H':Hp}(p:yq H H'):∀{s:Option V}(l:L),(∀a∈bY l,H' a=H a)->bZ K H s l->bZ K H' s l
 |_,.un,_,_=>by simp only[bZ]
 | _,.d x,_,h=>by
  simp only[bZ]at h ⊢
  obtain⟨v,e,r⟩:=h
  exact⟨v,e,r.pres p⟩
 | _,.own a xs,q,h=>by
  simp only[bZ]at h ⊢
  obtain⟨e,vs,ha,r⟩:=h
  exact⟨e,vs,(q a (by simp[bY])).trans ha,r.pres p⟩
 | _,.bx none ls,q,h=>by
  simp only[bZ]at h ⊢
  obtain⟨a,vs,e,ha,r⟩:=h
  exact⟨a,vs,e,ha.pres p,eW.pres p ls (λb hb=>q b (by simp[bY,hb])) r⟩
 | _,.bx (some a) ls,q,h=>by
  simp only[bZ]at h ⊢
  obtain⟨e,vs,ha,r⟩:=h
  exact⟨e,vs,(q a (by simp[bY])).trans ha,eW.pres p ls (λb hb=>q b (by simp[bY,hb])) r⟩
 | _,.dic a kvs,q,h=>by
  simp only[bZ]at h ⊢
  obtain⟨e,vs,ha,r⟩:=h
  exact⟨e,vs,(q a (by simp[bY])).trans ha,Paired.mapP r λ_ _ z=>⟨z.1,z.2.pres p⟩⟩
theorem eW.pres{K:W.Frag}{H H':Hp}(p:yq H H'):∀{vs:List V}(ls:List L),(∀a∈jh ls,H' a=H a)->eW K H vs ls->eW K H' vs ls
 |_,[],_,h=>by simpa only[eW]using h
 | _,l::ls,q,h=>by
  simp only[eW]at h ⊢
  obtain⟨v,us,e,h1,h2⟩:=h
  exact⟨v,us,e,bZ.pres p l (λb hb=>q b (by simp[jh,hb])) h1,eW.pres p ls (λb hb=>q b (by simp[jh,hb])) h2⟩
end
def N5:HO->Prop
 |.lst _=>True
 |.dK _=>True
 |_=>False
theorem N5.no{o:HO}(h:N5 o)(p:Qz o):False:=by cases o<;>first|exact h|exact p
mutual
theorem bZ.lstAt{K:W.Frag}{H:Hp}:∀{s:Option V}(l:L),bZ K H s l->∀a∈bY l,∃o,H a=some o/\N5 o
 |_,.un,_,a,ha=>by simp[bY]at ha
 |_,.d x,_,a,ha=>by simp[bY]at ha
 | _,.own b xs,h,a,ha=>by
  simp only[bZ]at h
  have e:a=b:=by simpa[bY]using ha
  subst e
  obtain⟨_,vs,q,_⟩:=h
  exact⟨_,q,True.intro⟩
 | _,.bx none ls,h,a,ha=>by
  simp only[bZ]at h
  obtain⟨b,vs,e,_,r⟩:=h
  exact eW.lstAt ls r a (by simpa[bY]using ha)
 | _,.bx (some b) ls,h,a,ha=>by
  simp only[bZ]at h
  obtain⟨e,vs,q,r⟩:=h
  rcases(by simpa[bY]using ha:a=b∨a∈jh ls)with z|z
  .
   subst z;exact⟨_,q,True.intro⟩
  .
   exact eW.lstAt ls r a z
 | _,.dic b xs,h,a,ha=>by
  simp only[bZ]at h
  have e:a=b:=by simpa[bY]using ha
  subst e
  obtain⟨_,vs,q,_⟩:=h
  exact⟨_,q,True.intro⟩
theorem eW.lstAt{K:W.Frag}{H:Hp}:∀{vs:List V}(ls:List L),eW K H vs ls->∀a∈jh ls,∃o,H a=some o/\N5 o
 |_,[],_,a,ha=>by simp[jh]at ha
 | _,l::ls,h,a,ha=>by
  simp only[eW]at h
  obtain⟨v,us,e,h1,h2⟩:=h
  rcases(by simpa[jh]using ha:a∈bY l∨a∈jh ls)with z|z
  .
   exact bZ.lstAt l h1 a z
  .
   exact eW.lstAt ls h2 a z
end
structure aG (K:W.Frag) (Pr H:Hp) (σ:St) (ρ:Ev):Prop where
 sub:∀b o,Pr b=some o->H b=some o
 nd:(owns ρ).Nodup
 off:∀a∈owns ρ,Pr a=none
 sl:Paired (bZ K H) σ ρ
theorem ik{ρ:Ev}{a:Addr}:a∈owns ρ↔∃l∈ρ,a∈bY l:=by unfold owns;rw[List.mem_flatMap]
theorem Lx{ρ:Ev}{a:Addr}{xs:List D}(h:L.own a xs∈ρ):a∈owns ρ:=ik.mpr ⟨_,h,by simp[bY]⟩
theorem aK(a b:Ev):owns (a++b)=owns a++owns b:=List.flatMap_append
theorem Paired.mem2{α β:Type}{F:α->β->Prop}:∀{l1:List α}{l2:List β}{b:β},Paired F l1 l2->b∈l2->∃a,a∈l1/\F a b:=by
 intro l1 l2 b p h
 induction p with
 |nil=>cases h
 | cons r t ih =>
  rcases XW.mp h with rfl|h
  . exact⟨_,XU,r⟩
  . obtain⟨a,h1,h2⟩:=ih h;exact⟨a,p3 _ h1,h2⟩
theorem Paired.app{α β:Type}{F:α->β->Prop}:∀{a c:List α}{b d:List β},Paired F a b->Paired F c d->Paired F (a++c) (b++d):=by
 intro a c b d p s
 induction p with
 |nil=>exact s
 |cons r t ih=>exact .cons r ih
theorem Paired.unapp{α β:Type}{F:α->β->Prop}:∀{a c:List α}{b d:List β},a.length=b.length->Paired F (a++c) (b++d)->Paired F a b/\Paired F c d:=by
 intro a c b d hl s
 induction a generalizing b with
 | nil =>
  cases b with
  |nil=>exact⟨.nil,s⟩
  |cons y b=>simp at hl
 | cons x a ih =>
  cases b with
  |nil=>simp at hl
  | cons y b =>
   cases s with
   | cons r t =>
    obtain⟨p,q⟩:=ih (by simpa using hl) t;exact⟨.cons r p,q⟩
theorem Paired.get2{α β:Type}{F:α->β->Prop}:∀{l1:List α}{l2:List β}{i:Nat}{b:β},Paired F l1 l2->l2[i]?=some b->∃a,l1[i]?=some a/\F a b:=by
 intro l1 l2 i b p e
 induction p generalizing i with
 |nil=>simp at e
 | cons h t ih =>
  cases i with
  |zero=>simp at e;subst e;exact⟨_,rfl,h⟩
  | succ i =>
   obtain⟨v,h1,h2⟩:=ih (i:=i) (by simpa using e);exact⟨v,by simpa using h1,h2⟩
theorem Paired.set2{α β:Type}{F:α->β->Prop}{a:α}{b:β}(r:F a b):∀{l1:List α}{l2:List β}(i:Nat),Paired F l1 l2->Paired F (l1.set i a) (l2.set i b):=by
 intro l1 l2 i p
 induction p generalizing i with
 |nil=>exact .nil
 | cons h t ih =>
  cases i with
  |zero=>exact .cons r t
  |succ i=>exact .cons h (ih i)
theorem Paired.impMem{α β:Type}{F G:α->β->Prop}:∀{l1:List α}{l2:List β},Paired F l1 l2->(∀b∈l2,∀a,F a b->G a b)->Paired G l1 l2:=by
 intro l1 l2 p h
 induction p with
 |nil=>exact .nil
 |cons r t ih=>exact .cons (h _ XU _ r) (ih λb hb=>h b (p3 _ hb))
theorem Paired.set_r{α β:Type}{F:α->β->Prop}{b:β}:∀{l1:List α}{l2:List β}(i:Nat),Paired F l1 l2->(∀a,l1[i]?=some a->F a b)->Paired F l1 (l2.set i b):=by
 intro l1 l2 i p h
 induction p generalizing i with
 |nil=>exact .nil
 | cons q t ih =>
  cases i with
  |zero=>exact .cons (h _ rfl) t
  |succ i=>exact .cons q (ih i λa e=>h a (by simpa using e))
section
variable{K:W.Frag}{Pr H H':Hp}{σ τ w σ':St}{ρ μ lam ρ':Ev}
theorem aG.len(E:aG K Pr H σ ρ):σ.length=ρ.length:=Paired.length E.sl
noncomputable def bM(H:Hp)(ρ:Ev):Hp:=λb=>if b∈owns ρ then none else H b
theorem aG.at_own(E:aG K Pr H σ ρ){a:Addr}(h:a∈owns ρ):∃o,H a=some o/\N5 o:=by obtain⟨l,hx,ha⟩:=ik.mp h;obtain⟨s,_,q⟩:=Paired.mem2 E.sl hx;exact q.lstAt l a ha
theorem aG.wide(E:aG K Pr H σ ρ):aG K (bM H ρ) H σ ρ :=
 ⟨λb o e=>by unfold bM at e;split at e;cases e;exact e,E.nd,λa h=>by unfold bM;rw[if_pos h],E.sl⟩
theorem aG.drop(E:aG K Pr H (τ++σ) (lam++ρ))(hl:τ.length=lam.length):aG K Pr H σ ρ :=
 ⟨E.sub,(Y5.mp (aK lam ρ ▸ E.nd)).2.1,λa h=>E.off a (by rw[aK];exact Yj _ h),(Paired.unapp hl E.sl).2⟩
theorem aG.left(E:aG K Pr H (τ++σ) (lam++ρ))(hl:τ.length=lam.length):aG K Pr H τ lam :=
 ⟨E.sub,(Y5.mp (aK lam ρ ▸ E.nd)).1,λa h=>E.off a (by rw[aK];exact Yz _ h),(Paired.unapp hl E.sl).1⟩
theorem As{H H':Hp}{ρ:Ev}{σ:St}{Pr:Hp}(E:aG K Pr H σ ρ)(h:∀b o,bM H ρ b=some o->H' b=some o):yq H H':=λb o p e=>by refine h b o ?_;unfold bM;rw[if_neg,e];intro hm;obtain⟨u,e',m⟩:=E.at_own hm;rw[e]at e';cases e';exact m.no p
theorem aG.step(E:aG K Pr H (τ++σ) (lam++ρ))(hl:τ.length=lam.length)(E':aG K (bM H ρ) H' (w++σ') (μ++ρ'))(hw:w.length=μ.length):aG K Pr H' (w++(τ++σ')) (μ++(lam++ρ')):=by
 have Eσ:=E.drop hl;have p:yq H H':=As Eσ E'.sub;have dis:∀a∈owns lam,a∉owns ρ:=λa h1 h2=>(Y5.mp (aK lam ρ ▸ E.nd)).2.2 a h1 a h2 rfl;have at':∀a∈owns lam,bM H ρ a=H a:=λa h=>by unfold bM;rw[if_neg (dis a h)]
 have some':∀a∈owns lam,∃o,H a=some o/\N5 o:=λa h=>E.at_own (by rw[aK];exact Yz _ h);have out:∀a∈owns lam,a∉owns (μ++ρ'):=λa h h2=>by have z:=E'.off a h2;rw[at' a h]at z;obtain⟨vs,e,_⟩:=some' a h;rw[e]at z;cases z
 have s1:=(Paired.unapp hw E'.sl);have s2:=(Paired.unapp hl E.sl).1;refine⟨λb o e=>?_,?_,λa ha=>?_,Paired.app s1.1 (Paired.app ?_ s1.2)⟩
 . refine E'.sub b o ?_;unfold bM;rw[if_neg,E.sub b o e];intro hm;have z:=Eσ.off b hm;rw[e]at z;cases z
 .
  have n1:=E'.nd;rw[aK]at n1;rw[aK,aK];obtain⟨q1,q2,q3⟩:=Y5.mp n1;refine Y5.mpr ⟨q1,Y5.mpr ⟨(Y5.mp (aK lam ρ ▸ E.nd)).1,q2,λa ha b hb=>?_⟩,λa ha b hb=>?_⟩
  . rintro rfl;exact out a ha (by rw[aK];exact Yj _ hb)
  .
   rcases Ys.mp hb with hb|hb
   . rintro rfl;exact out a hb (by rw[aK];exact Yz _ ha)
   . exact q3 a ha b hb
 .
  rw[aK,aK]at ha
  have key:a∈owns (μ++ρ')->Pr a=none:=λh=>by
   have z:=E'.off a h;unfold bM at z;by_cases hm:a∈owns ρ
   . exact Eσ.off a hm
   .
    rw[if_neg hm]at z
    cases q:Pr a with
    |none=>rfl
    |some o=>rw[E.sub a o q]at z;cases z
  rcases Ys.mp ha with h|h
  . exact key (by rw[aK];exact Yz _ h)
  .
   rcases Ys.mp h with h|h
   . exact E.off a (by rw[aK];exact Yz _ h)
   . exact key (by rw[aK];exact Yj _ h)
 .
  have:∀l∈lam,∀s,bZ K H s l->bZ K H' s l:=λl hlm s h=>h.pres p l λa e=>by have ha:a∈owns lam:=ik.mpr ⟨l,hlm,e⟩;obtain⟨vs,e,_⟩:=some' a ha;rw[E'.sub a _ ((at' a ha).trans e),e]
  exact Paired.impMem s2 this
end
end L2
namespace L2
open PySem PySem.Spec PyProof.Rows PySem.W
structure C5 (K:Frag) (c:Str) (C L:Addr) (cd:ClassData):Prop where
 cls:clsIn K C=some cd
 load:nsIn K mainGlobals "LoadError"=some (some (.ref L))
 name:cd.name=c
 dct:cd.hasDict=true
 mro:cd.mro=HH C L
 lname:∃ k,clsIn K L=some k/\k.name=("LoadError" : Str)
 ga:findIn K (.ref C) "__getattribute__"=some (some (.builtin "BaseException.__getattribute__"))
 gx:findIn K (.ref C) "__getattr__"=some none
 gc:findIn K (.ref C) "__class__"=some (some (.builtin "object.__class__"))
 sa:findIn K (.ref C) "__setattr__"=some (some (.builtin "object.__setattr__"))
 ty:typeIn K (.ref C)=some (.type "type")
 own:nsIn K mainGlobals c=some (some (.ref C))
theorem rC{K:Frag}{c:Str}{C:Addr}(h:vb K c C=true):∃L cd,C5 K c C L cd:=by
 unfold vb at h;split at h
 . rename_i cd L e1 e2;simp only[YI,beq_iff_eq]at h;obtain⟨⟨⟨⟨⟨⟨⟨⟨⟨h1,h2⟩,h3⟩,h4⟩,h5⟩,h6⟩,h7⟩,h8⟩,h9⟩,h10⟩:=h;obtain⟨k,hk,hn⟩:=any_some h4;exact⟨L,cd,e1,e2,h1,h2,h3,⟨k,hk,beq_iff_eq.mp hn⟩,h5,h6,h7,h8,h9,h10⟩
 . cases h
section
variable{K:Frag}{c:Str}{C L:Addr}{cd:ClassData}
theorem Ey(C L:Addr):HH C L=[.ref C,.ref L,.type "ValueError",.type "Exception",.type "BaseException",.type "object"]∨HH C L=[.ref L,.type "ValueError",.type "Exception",.type "BaseException",.type "object"]/\C=L:=by
 by_cases h:C=L
 . exact .inr ⟨by unfold HH;rw[if_pos h];rfl,h⟩
 . exact .inl (by unfold HH;rw[if_neg h];rfl)
theorem H0(C L:Addr)(b:Value):(HH C L).contains b=([.ref C,.ref L,.type "ValueError",.type "Exception",.type "BaseException",.type "object"]:List Value).contains b:=by
 rcases Ey C L with e|⟨e,h⟩
 . rw[e]
 . subst h;rw[e];simp only[List.contains_cons,<- Bool.or_assoc,Bool.or_self]
theorem C5.mroIn(S:C5 K c C L cd)(b:Value):W.mroIn K C b=some (([.ref C,.ref L,.type "ValueError",.type "Exception",.type "BaseException",.type "object"]:List Value).contains b):=by
 unfold W.mroIn;rw[S.cls,Option.bind_some,S.mro];have ne:(HH C L).isEmpty=false:=by rcases Ey C L with e|⟨e,_⟩<;>rw[e]<;>rfl
 show(if(HH C L).isEmpty=true then none else some ((HH C L).contains b))=_
 rw[ne,H0];rfl
theorem rD(C L:Addr)(T:String):(([.ref C,.ref L,.type "ValueError",.type "Exception",.type "BaseException",.type "object"]:List Value).contains (.type T))=(["ValueError","Exception","BaseException","object"]:List String).contains T:=by
 simp only[List.contains_cons,List.contains_nil,Bool.or_false];have e:∀a:Addr,(Value.type T == Value.ref a)=false:=λ_=>rfl
 have f:∀U:String,(Value.type T == Value.type U)=(T == U):=λU=>by
  by_cases q:T=U
  . subst q;simp
  . rw[beq_eq_false_iff_ne.mpr q,beq_eq_false_iff_ne];intro z;injection z with z;exact q z
 rw[e,e,f,f,f,f];rfl
theorem C5.has(S:C5 K c C L cd){T:String} (h:(["ValueError","Exception","BaseException","object"]:List String).contains T=true):W.mroIn K C (.type T)=some true:=by rw[S.mroIn,rD,h]
theorem C5.isT(S:C5 K c C L cd){M:Model}{h:Heap}(X:K.In h)(T:String):Looks M h (isSubtype (.ref C) (.type T)) ((["ValueError","Exception","BaseException","object"]:List String).contains T):=looks_mroIn X (by rw[S.mroIn,rD])
end
section
variable{prog:Program}{w:World}{A:Around}{E:Value->Shared->Prop}{s:Shared}{K:Frag}{c:Str}{x C L:Addr}{cd:ClassData}{ox:Obj}{od:Option Obj}{name:Str}
theorem yr{tk:Tok}{Q:Fin->Shared->Prop}(S:C5 K c C L cd)(X:K.In s.heap)(I:InstAt s.heap x ox C od) (hf:findObj K C od "__class__"=some (.bind (.builtin "getset_descriptor.__get__") (.builtin "object.__class__"))) (hq:Q (.done (.ret (.ref C))) s) :
  wpAny (model prog w) A (Builtin.«object.__getattribute__» ⟨[.ref x,.str "__class__" tk],[]⟩) Q E s:=by
 obtain⟨hh,g,d,t,os⟩:=s;have L0:=I.type (M:=model prog w);have L1:=looks_find (M:=model prog w) X I hf;unfold Builtin.«object.__getattribute__»;refine kS (X3 (kS (X3 ?_)));refine kS (L0.at (kS (L1.at ?_)));show wpAny _ _ (holding [Value.builtin "object.__class__"] (call (.builtin "getset_descriptor.__get__") [.builtin "object.__class__",.ref x,.ref C]) >>= ret) _ _ _;refine kS (Zm (wpAny_call ?_));exact class_get (s:=⟨hh,g,d,t,os⟩) (ox:=ox) (od:=od) X I (S.has xp) (X3 hq)
theorem Ly{tk:Tok}{v:Value}{fill expr:Bool}{Q:Value->Shared->Prop}(S:C5 K c C L cd)(X:K.In s.heap)(I:InstAt s.heap x ox C od)
  (he:∀(A':Around)(Q':Fin->Shared->Prop),Q' (.done (.ret v)) s->wpAny (model prog w) A' (Builtin.«object.__getattribute__» ⟨[.ref x,.str name tk],[]⟩) Q' (λ_ _=>False) s) (hh:handedIn v=true) (hq:Q v s) :
  wpAny (model prog w) A (getAttrBy (.ref x) (.str name tk) fill expr) Q E s:=by
 have FB:=F.excAttr_ValueError;have L0:=I.type (M:=model prog w);have L1:=looks_findIn (M:=model prog w) X S.ga;have L2:=looks_findIn (M:=model prog w) X S.gx;unfold getAttrBy;refine Zm (kS (L0.here (kS (L1.here ?_))));have hx2:(Value.builtin "BaseException.__getattribute__" == Value.builtin "object.__getattribute__")=false:=by decide +kernel
 dsimp only;rw[hx2,Bool.and_false,if_neg (by decide)];unfold getAttrByItsOwn;refine kS ((looks_hook (mc:=.ref C) X (r:=none) S.gx).here ?_);refine kS (aax (Zm ?_));have hx0:(expr && onTheHeap (Value.builtin "BaseException.__getattribute__"))=false:=by cases expr <;> rfl
 unfold callGetattribute boundAndCalled;rw[hx0,if_neg (by decide),FB.ga.bind];refine kS (X3 (wpAny_call ?_));have hi:Looks (model prog w) s.heap (isInstance (.ref x) (.type "BaseException")) true:=L0.andThen (S.isT X _);have hkd:builtinKind "BaseException.__getattribute__"=some .slot:=by decide +kernel
 have hsp:splitId "BaseException.__getattribute__"=some ("BaseException","__getattribute__"):=by decide +kernel
 refine codeAny_call_builtin FB.ga.plain F.entry_bexc_ga (@check_slot (model prog w) _ _ s "BaseException.__getattribute__" "BaseException" "__getattribute__" (.ref x) [.str name tk] [] _ hkd hsp hi (F.args_bexc_ga (.ref x) (.str name tk)) ?_);refine aal (he _ _ ?_) (λ_ _ z=>z) λ_ _ z=>z.elim;show wpAny _ _ (handedOut v) _ _ _;rw[handedOut_of hh];exact X3 hq
end
theorem Lz(K:Frag):specialIn K (.builtin "object.__class__") "__get__"=some (some (.builtin "getset_descriptor.__get__")):=(by decide +kernel:specialIn [] (.builtin "object.__class__") "__get__"=some (some (.builtin "getset_descriptor.__get__")))
theorem Ez(K:Frag):takesIn K (.builtin "object.__class__")=some true:=(by decide +kernel:takesIn [] (.builtin "object.__class__")=some true)
section
variable{prog:Program}{w:World}{A:Around}{E:Value->Shared->Prop}{s:Shared}{K:Frag}{c:Str}{x C L:Addr}{cd:ClassData}{ox:Obj}{od:Option Obj}
theorem C5.fclass(S:C5 K c C L cd)(od:Option Obj):findObj K C od "__class__"=some (.bind (.builtin "getset_descriptor.__get__") (.builtin "object.__class__")):=by unfold findObj;rw[S.cls,Option.bind_some,S.gc,Option.bind_some];simp[Lz,Ez]
theorem Au{Q:Option Value->Shared->Prop}(S:C5 K c C L cd)(X:K.In s.heap)(I:InstAt s.heap x ox C od)(hq:Q (some (.ref C)) {s with toks:=s.toks+1}) :
  wpAny (model prog w) A (getAttr? (.ref x) "__class__") Q E s:=by
 obtain⟨hh,g,d,t,os⟩:=s;unfold getAttr? getAttrBy?;refine kS (wpAny_mkText (kS (aax ?_)));exact Ly (s:=⟨hh,g,d,t+1,os⟩) (ox:=ox) (od:=od) S X I (λA' Q' q=>yr (s:=⟨hh,g,d,t+1,os⟩) S X I (S.fclass od) q) rfl (X3 hq)
theorem BR(S:C5 K c C L cd):KitX K (.ref x) (.ref C) (λh=>∃ox od,InstAt h x ox C od) where
 ty:=λ_ _ _ ⟨_,_,I⟩=>I.type
 it:=λ_ _ X _=>by
  have hc:=S.cls;unfold clsIn at hc;split at hc
  . rename_i ho;intro A' Q' E' s' k q;unfold isType loadHead;exact kS (wpAny_loadPart (k _ _ (X _ _ ho)) (X3 q))
  . cases hc
 ne:=λh tp dd its n sl X htp=>by
  refine Bool.eq_false_iff.mpr λq=>?_;have e:C=tp:=Value.ref.inj (beq_iff_eq.mp q);subst e;have hc:=S.cls;unfold clsIn at hc;split at hc
  . rename_i ho;have z:=(X _ _ ho).symm.trans htp;cases z
  . cases hc
 ca:=λX ⟨_,_,I⟩ k=>Au S X I k
end
end L2
namespace L2
open PySem PySem.Spec PyProof.Rows
section
variable{X:Cx}{ab:List (Addr×Obj)}{σ:St}{H:Hp}{s:Shared}
theorem Tp.reword{a:Addr}{u w:HO}(I:Tp X ab σ H s)(h:H a=some u)(hu:¬Qz u)(hw:∀y,u≠.own y)(nw:fj X.prog X.w H s.heap a w)(hw2:∀C dx fs,w≠.ins C dx fs):Tp X ab σ (Te H a w) s:=by
 have ne:∀b,H b=none->b≠a:=λb n e=>by subst e;rw[h]at n;cases n
 have nt:∀b xs,H b=some (.tup xs)->b≠a:=λb xs n e=>by subst e;rw[h]at n;cases n;exact hu True.intro
 have nf:∀b o z,H b=some (.frz o z)->b≠a:=λb o z n e=>by subst e;rw[h]at n;cases n;exact hu True.intro
 have no:∀b z,H b=some (.own z)->b≠a:=λb z n e=>by subst e;rw[h]at n;cases n;exact hw _ rfl
 refine⟨I.ok,I.os,I.bare,⟨I.base.keep,I.base.slot,λb ob e n hx=>?_,I.base.there,λb xs e=>?_,λb ob z e=>?_,λb ps e=>?_⟩,I.loc,I.cell,?_,λx c e=>?_,λp hp=>?_,λb z e=>?_,I.len⟩
 . have q:=I.base.free b ob e n hx;rw[aT (ne b q)];exact q
 . have q:=I.base.tups b xs e;rw[aT (nt b xs q)];exact q
 . have q:=I.base.frzs b ob z e;rw[aT (nf b ob z q)];exact q
 . have q:=I.base.tbls b ps e;rw[aT (λz=>by subst z;rw[h]at q;cases q;exact hu True.intro)];exact q
 . rw[aT (ne _ I.free)];exact I.free
 .
  rcases I.freeC x c e with z|⟨hf,o,z⟩
  . exact .inl (by rw[aT (ne _ z)];exact z)
  . exact .inr ⟨hf,o,by rw[aT (nf _ _ _ z)];exact z⟩
 . obtain⟨e,n,r⟩:=I.pin p hp;exact⟨e,by rw[aT (ne _ n)];exact n,r⟩
 .
  by_cases hb:b=a
  . subst hb;rw[cb]at e;cases e;exact nw.stay (λc v _ q=>q) (λc q=>by rw[aT (no c _ q)];exact q) (λc xs q=>by rw[aT (nt c xs q)];exact q) λc ob _ _ q=>by rw[aT (nf c ob _ q)];exact q
  . rw[aT hb]at e;exact(I.hok b z e).stay (λc v _ q=>q) (λc q=>by rw[aT (no c _ q)];exact q) (λc xs q=>by rw[aT (nt c xs q)];exact q) λc ob _ _ q=>by rw[aT (nf c ob _ q)];exact q
theorem Tp.freezeL{a:Addr}{xs:List V}(I:Tp X ab σ H s)(h:H a=some (.lst xs)):∃o,Tp X ab σ (Te H a (.frz o (.lst xs))) s:=by obtain⟨z,its,n,r,e⟩:=id (I.hok a _ h);exact⟨_,I.reword h (λq=>q) (λ_ q=>nomatch q) ⟨e,z,its,n,r,e⟩ (λ_ _ _ q=>nomatch q)⟩
end
section
variable{K:W.Frag}{Pr H:Hp}{σ:St}{ρ:Ev}
theorem aG.new(E:aG K Pr H σ ρ){p:Addr}{o:HO}(h:H p=none):aG K Pr (Te H p o) σ ρ:=by
 have k:∀b u,H b=some u->Te H p o b=some u:=λb u e=>by rw[aT (bL e h)];exact e
 exact⟨λb u e=>k b u (E.sub b u e),E.nd,E.off,Paired.impMem E.sl λl hl s q=>q.pres (λb u _ e=>k b u e) l λa e=>by
  obtain⟨vs,e,_⟩:=E.at_own (ik.mpr ⟨l,hl,e⟩)
  rw[k _ _ e,e]⟩
theorem bV.new{vs:List V}{ds:List D}(r:bV K H vs ds){p:Addr}{o:HO}(h:H p=none):bV K (Te H p o) vs ds:=r.pres λb u _ e=>by rw[aT (bL e h)];exact e
theorem Us.new{v:V}{d:D}(r:Us K H v d){p:Addr}{o:HO}(h:H p=none):Us K (Te H p o) v d:=r.pres λb u _ e=>by rw[aT (bL e h)];exact e
theorem pZ:owns (.un::ρ)=owns ρ:=rfl
theorem aW{a:Addr}{xs:List D}:owns (.own a xs::ρ)=a::owns ρ:=rfl
theorem aG.cons_d(E:aG K Pr H σ ρ){v:V}{x:D}(r:Us K H v x):aG K Pr H (some v::σ) (.d x::ρ):=⟨E.sub,E.nd,E.off,.cons ⟨v,rfl,r⟩ E.sl⟩
theorem aG.cons_un(E:aG K Pr H σ ρ){v:Option V}:aG K Pr H (v::σ) (.un::ρ):=⟨E.sub,E.nd,E.off,.cons True.intro E.sl⟩
theorem aG.cons_own(E:aG K Pr H σ ρ){p:Addr}{vs:List V}{xs:List D}(h:H p=none)(r:bV K H vs xs):aG K Pr (Te H p (.lst vs)) (some (.ref p)::σ) (.own p xs::ρ):=by
 have E':=E.new (o:=.lst vs) h;refine⟨E'.sub,?_,λa ha=>?_,.cons ⟨rfl,vs,cb,r.new h⟩ E'.sl⟩
 . rw[aW];refine Yr.mpr ⟨λhm=>?_,E.nd⟩;obtain⟨us,e,_⟩:=E.at_own hm;rw[h]at e;cases e
 .
  rw[aW]at ha;rcases XW.mp ha with rfl|ha
  .
   cases q:Pr a with
   |none=>rfl
   |some u=>rw[E.sub a u q]at h;cases h
  . exact E.off a ha
theorem aG.cons_tup(E:aG K Pr H σ ρ){p:Addr}{vs:List V}{xs:List D}(h:H p=none)(r:bV K H vs xs):aG K Pr (Te H p (.tup vs)) (some (.ref p)::σ) (.d (.tup xs)::ρ) :=
 (E.new h).cons_d (.tup (TB.of cb) (r.new h))
theorem aG.freeze(E:aG K Pr H σ (.own a xs::ρ)){vs:List V}(h:H a=some (.lst vs))(o:Obj):aG K Pr (Te H a (.frz o (.lst vs))) σ (.d (.lst xs)::ρ):=by
 have pa:Pr a=none:=E.off a (by rw[aW];exact XU);have nd:=E.nd;rw[aW]at nd;obtain⟨hn,nd⟩:=Yr.mp nd;have p:yq H (Te H a (.frz o (.lst vs))):=λb u pu e=>by rw[aT];exact e;rintro rfl;rw[h]at e;cases e;exact pu
 refine⟨λb u e=>?_,nd,λb hb=>E.off b (by rw[aW];exact p3 _ hb),?_⟩
 . rw[aT];exact E.sub b u e;rintro rfl;rw[pa]at e;cases e
 .
  have sl:=E.sl
  cases sl with
  | cons q t =>
   obtain⟨e,us,e2,r⟩:=q;rw[h]at e2;cases e2;refine .cons ⟨.ref a,e,.lst (.inl ⟨o,cb⟩) (r.pres p)⟩ (Paired.impMem t λl hl s z=>z.pres p l λb hbm=>?_);rw[aT];rintro rfl;exact hn (ik.mpr ⟨l,hl,hbm⟩)
theorem aP(l:L)(ρ:Ev):owns (l::ρ)=bY l++owns ρ:=rfl
theorem kJ{k:L}:∀{ρ:Ev}{i:Nat}{l:L},ρ[i]?=some k->bY l=[]->(owns ρ).Perm (bY k++owns (ρ.set i l))
 |[],_,_,h,_=>by simp at h
 | _::ρ,0,l,h,hl=>by simp at h;subst h;show(owns (_::ρ)).Perm (_++owns (l::ρ));rw[aP,aP,hl];exact List.Perm.refl _
 | m::ρ,i+1,l,h,hl=>by have ih:=kJ (i:=i) (ρ:=ρ) (l:=l) (by simpa using h) hl;show(owns (m::ρ)).Perm (bY k++owns (m::ρ.set i l));rw[aP,aP];refine(List.Perm.append_left _ ih).trans ?_;rw[<- YU,<- YU];exact List.Perm.append_right _ Y8
theorem EC{a:Addr}{xs:List D}{ρ:Ev}{i:Nat}{l:L}(h:ρ[i]?=some (.own a xs))(hl:bY l=[]):(owns ρ).Perm (a::owns (ρ.set i l)):=kJ h hl
theorem BS{ρ:Ev}{i:Nat}(l:L)(h:ρ[i]?=some .un):(owns (ρ.set i l)).Perm (bY l++owns ρ):=by
 have hi:i<ρ.length:=(tu.mp h).1;have pm:=kJ (ρ:=ρ.set i l) (i:=i) (k:=l) (l:=.un) (by simp[hi]) rfl;rw[List.set_set]at pm;have e2:ρ.set i .un=ρ:=by have:=List.set_getElem_self (as:=ρ) (i:=i) hi;have e3:ρ[i]=.un:=(tu.mp h).2;rw[e3]at this;exact this
 rw[e2]at pm;exact pm
theorem aG.outL(E:aG K Pr H σ ρ){i:Nat}{k:L}{s:Option V}(h:ρ[i]?=some k)(hs:σ[i]?=some s):aG K Pr H (s::σ) (k::ρ.set i .un):=by have pm:=kJ (l:=.un) h rfl;obtain⟨s',hs',q⟩:=Paired.get2 E.sl h;rw[hs]at hs';cases hs';refine⟨E.sub,?_,λb hb=>E.off b (pm.mem_iff.mpr (by rw[aP]at hb;exact hb)),.cons q (Paired.set_r i E.sl λ_ _=>by simp only[bZ])⟩;rw[aP];exact pm.nodup_iff.mp E.nd
theorem aG.out(E:aG K Pr H σ ρ){i:Nat}{a:Addr}{xs:List D}(h:ρ[i]?=some (.own a xs)):aG K Pr H (some (.ref a)::σ) (.own a xs::ρ.set i .un):=by
 have pm:=EC (l:=.un) h rfl;obtain⟨s,hs,q⟩:=Paired.get2 E.sl h;refine⟨E.sub,?_,λb hb=>E.off b (pm.mem_iff.mpr (by rw[aW]at hb;exact hb)),.cons ?_ (Paired.set_r i E.sl λ_ _=>by simp only[bZ])⟩
 . rw[aW];exact pm.nodup_iff.mp E.nd
 . obtain⟨_,r⟩:=q;exact⟨rfl,r⟩
theorem aG.back{v:Option V}{l:L}(E:aG K Pr H (v::σ) (l::ρ)){i:Nat}(h:ρ[i]?=some .un)(hs:σ[i]?=some v):aG K Pr H σ (ρ.set i l):=by
 have sl:=E.sl
 cases sl with
 | cons q t =>
  have e1:ρ.set i l=(ρ.set i l):=rfl;refine⟨E.sub,?_,λb hb=>?_,Paired.set_r i t λa e=>by rw[hs]at e;cases e;exact q⟩
  . exact(BS l h).nodup_iff.mpr E.nd
  . exact E.off b ((BS l h).mem_iff.mp hb)
theorem aG.write(E:aG K Pr H σ (.own a xs::ρ)){vs:List V}{ys:List D}(r:bV K H vs ys):aG K Pr (Te H a (.lst vs)) σ (.own a ys::ρ):=by
 have pa:Pr a=none:=E.off a (by rw[aW];exact XU);have nd:=E.nd;rw[aW]at nd;obtain⟨hn,nd'⟩:=Yr.mp nd;obtain⟨us,ha,mu⟩:=E.at_own (a:=a) (by rw[aW];exact XU);have p:yq H (Te H a (.lst vs)):=λb u pu e=>by rw[aT];exact e;rintro rfl;rw[ha]at e;cases e;exact mu.no pu
 refine⟨λb u e=>?_,nd,λb hb=>E.off b hb,?_⟩
 . rw[aT];exact E.sub b u e;rintro rfl;rw[pa]at e;cases e
 .
  have sl:=E.sl
  cases sl with
  | cons q t =>
   obtain⟨e,_⟩:=q;refine .cons ⟨e,vs,cb,r.pres p⟩ (Paired.impMem t λl hl s z=>z.pres p l λb hbm=>?_);rw[aT];rintro rfl;exact hn (ik.mpr ⟨l,hl,hbm⟩)
end
noncomputable abbrev W(α:Type):=Ev->(α->Ev->Prop)->Prop
inductive Fl where
 |nx|bk|ct|rt (r:L)
inductive EL (X:Cx) (ab:List (Addr×Obj)) (σ:St) (Pr:Hp) (kz:L->Ev->Prop) (u:Value) (s':Shared):Prop
 |mk (v:V) (H':Hp) (r:L) (ρ':Ev) (i:Tp X ab σ H' s') (q:cQ v u) (e:aG X.K Pr H' (some v::σ) (r::ρ')) (p:kz r ρ')
theorem EL.on{G:Prop}{X:Cx}{ab:List (Addr×Obj)}{σ:St}{Pr:Hp}{kz:L->Ev->Prop}{u:Value}{s':Shared}(h:EL X ab σ Pr kz u s')(k:∀v H' r ρ',Tp X ab σ H' s'->cQ v u->aG X.K Pr H' (some v::σ) (r::ρ')->kz r ρ'->G):G:=by cases h with|mk a b c d e f g h=>exact k a b c d e f g h
def PL(X:Cx)(e:Expr)(t:W L):Prop :=
 ∀(ab:List (Addr×Obj))(s:Shared)(σ:St)(H Pr:Hp)(ρ:Ev)(kz:L->Ev->Prop),Tp X ab σ H s->aG X.K Pr H σ ρ->t ρ kz->wpAny (model X.prog X.w) X.A (eval e X.env) (EL X ab σ Pr kz) X.xe s
inductive EB (X:Cx) (ab:List (Addr×Obj)) (σ:St) (Pr:Hp) (kz:Bool->Ev->Prop) (b:Bool) (s':Shared):Prop
 |mk (H':Hp) (ρ':Ev) (i:Tp X ab σ H' s') (e:aG X.K Pr H' σ ρ') (p:kz b ρ')
theorem EB.on{G:Prop}{X:Cx}{ab:List (Addr×Obj)}{σ:St}{Pr:Hp}{kz:Bool->Ev->Prop}{b:Bool}{s':Shared}(h:EB X ab σ Pr kz b s')(k:∀H' ρ',Tp X ab σ H' s'->aG X.K Pr H' σ ρ'->kz b ρ'->G):G:=by cases h with|mk a c d e f=>exact k a c d e f
def PB(X:Cx)(e:Expr)(t:W Bool):Prop :=
 ∀(ab:List (Addr×Obj))(s:Shared)(σ:St)(H Pr:Hp)(ρ:Ev)(kz:Bool->Ev->Prop),Tp X ab σ H s->aG X.K Pr H σ ρ->t ρ kz->wpAny (model X.prog X.w) X.A (isTrue e X.env (eval e X.env)) (EB X ab σ Pr kz) X.xe s
inductive EA (X:Cx) (ab:List (Addr×Obj)) (σ:St) (Pr:Hp) (bs:List (Option Nat)) (kz:List L->Ev->Prop) (us:List Value) (s':Shared):Prop
 |mk (vs:List V) (H':Hp) (ls:List L) (ρ':Ev) (i:Tp X ab σ H' s') (q:cw vs us) (hl:vs.length=ls.length) (hb:vs.length=bs.length) (e:aG X.K Pr H' (vs.map some++σ) (ls++ρ')) (o:∀(k i:Nat),bs[k]?=some (some i)->ls[k]?=some L.un/\∃v,vs[k]?=some v/\σ[i]?=some (some v)) (p:kz ls ρ')
theorem EA.on{G:Prop}{X:Cx}{ab:List (Addr×Obj)}{σ:St}{Pr:Hp}{bs:List (Option Nat)}{kz:List L->Ev->Prop}{us:List Value}{s':Shared}(h:EA X ab σ Pr bs kz us s')(k:∀vs H' ls ρ',Tp X ab σ H' s'->cw vs us->vs.length=ls.length->vs.length=bs.length->aG X.K Pr H' (vs.map some++σ) (ls++ρ')->(∀(k i:Nat),bs[k]?=some (some i)->ls[k]?=some L.un/\∃v,vs[k]?=some v/\σ[i]?=some (some v))->kz ls ρ'->G):G:=by cases h with|mk a b c d e f g i j l m=>exact k a b c d e f g i j l m
def Uu(X:Cx)(es:List Expr)(bs:List (Option Nat))(t:W (List L)):Prop :=
 ∀(pos:Pos)(ab:List (Addr×Obj))(s:Shared)(σ:St)(H Pr:Hp)(ρ:Ev)(kz:List L->Ev->Prop),Tp X ab σ H s->aG X.K Pr H σ ρ->t ρ kz ->
  wpAny (model X.prog X.w) X.A (spliced (backTo pos (starEach es X.env))) (EA X ab σ Pr bs kz) X.xe s
inductive Uv (X:Cx) (ab:List (Addr×Obj)) (Pr:Hp) (kz:Ev->Prop) (s':Shared):Prop
 |mk (σ':St) (H':Hp) (ρ':Ev) (i:Tp X ab σ' H' s') (e:aG X.K Pr H' σ' ρ') (p:kz ρ')
inductive Uw (X:Cx) (ab:List (Addr×Obj)) (Pr:Hp) (kz:L->Ev->Prop) (u:Value) (s':Shared):Prop
 |mk (v:V) (σ':St) (H':Hp) (r:L) (ρ':Ev) (τ:St) (i:Tp X ab σ' H' s') (q:cQ v u) (e:aG X.K Pr H' (some v::τ) (r::ρ')) (p:kz r ρ')
def SM(X:Cx)(ab:List (Addr×Obj))(Pr:Hp)(kz:Fl->Ev->Prop)(f:Flow)(s':Shared):Prop :=
 match f with
 |.next=>Uv X ab Pr (kz .nx) s'
 |.brk=>Uv X ab Pr (kz .bk) s'
 |.cont=>Uv X ab Pr (kz .ct) s'
 |.ret u=>Uw X ab Pr (λr=>kz (.rt r)) u s'
def PM(X:Cx)(st:Stmt)(t:W Fl):Prop :=
 ∀(ab:List (Addr×Obj))(s:Shared)(σ:St)(H Pr:Hp)(ρ:Ev)(kz:Fl->Ev->Prop),Tp X ab σ H s->aG X.K Pr H σ ρ->t ρ kz->wpAny (model X.prog X.w) X.A (exec st X.env) (SM X ab Pr kz) X.xe s
def Ux(X:Cx)(st:List Stmt)(t:W Fl):Prop :=
 ∀(ab:List (Addr×Obj))(s:Shared)(σ:St)(H Pr:Hp)(ρ:Ev)(kz:Fl->Ev->Prop),Tp X ab σ H s->aG X.K Pr H σ ρ->t ρ kz->wpAny (model X.prog X.w) X.A (execs st X.env) (SM X ab Pr kz) X.xe s
section
variable{X:Cx}{e a b:Expr}{pos:Pos}{ta tb:W L}
theorem PL.of{t:TE}{u:W L}(h:PE X e t)(q:∀σ H Pr ρ kz,aG X.K Pr H σ ρ->u ρ kz->t σ H λv H'=>∃r ρ',aG X.K Pr H' (some v::σ) (r::ρ')/\kz r ρ'):PL X e u :=
 λab s σ H Pr ρ kz I E hu=>Tu (h ab s σ H _ I (q σ H Pr ρ kz E hu)) λu s1 ⟨v,H1,I1,r1,r,ρ',E1,p⟩=>⟨v,H1,r,ρ',I1,r1,E1,p⟩
mutual
noncomputable def cR:L->Option D
 |.un=>none
 |.d x=>some x
 |.own _ xs=>some (.lst xs)
 |.bx none ls=>(cZ ls).map .tup
 |.bx (some _) ls=>(cZ ls).map .lst
 |.dic _ _=>none
noncomputable def cZ:List L->Option (List D)
 |[]=>some []
 | l::ls=>match cR l,cZ ls with
  |some x,some xs=>some (x::xs)
  |_,_=>none
end
def fm:Option D->(D->Prop)->Prop
 |some x,k=>k x
 |none,_=>False
theorem C6{o:Option D}{k:D->Prop}(h:fm o k):∃x,o=some x/\k x:=by
 cases o with
 |some x=>exact⟨x,rfl,h⟩
 |none=>exact h.elim
def D7(a:Option Addr)(ls:List L)(k:D->Prop):Prop:=fm (cR (.bx a ls)) k
def Uy:L->(D->Prop)->Prop
 |.un,_=>False
 |.d x,k=>k x
 |.own _ xs,k=>k (.lst xs)
 |.bx a ls,k=>D7 a ls k
 |.dic _ _,_=>False
theorem ED{a:Option Addr}{ls:List L}{k:D->Prop}(h:D7 a ls k):∃x,cR (.bx a ls)=some x/\k x:=C6 h
def Ib(ls:List L)(k:List D->Prop):Prop:=∃xs,cZ ls=some xs/\k xs
theorem OH(ls:List L)(k:D->Prop):D7 none ls k=Ib ls λxs=>k (.tup xs):=by
 unfold D7 Ib;simp only[cR]
 cases cZ ls with
 |none=>simp[fm]
 |some xs=>simp[fm]
theorem OI(a:Addr)(ls:List L)(k:D->Prop):D7 (some a) ls k=Ib ls λxs=>k (.lst xs):=by
 unfold D7 Ib;simp only[cR]
 cases cZ ls with
 |none=>simp[fm]
 |some xs=>simp[fm]
theorem Ic(k:List D->Prop):Ib [] k=k []:=by unfold Ib;simp[cZ]
theorem LA(l:L)(k:D->Prop):Uy l k=∃x,cR l=some x/\k x:=by
 cases l with
 |un=>simp[Uy,cR]
 |d x=>simp[Uy,cR]
 |own a xs=>simp[Uy,cR]
 | bx a ls =>
  show fm _ k=_
  cases cR (.bx a ls)with
  |none=>simp[fm]
  |some x=>simp[fm]
 |dic a kvs=>simp[Uy,cR]
theorem EE(l:L)(ls:List L)(k:List D->Prop):Ib (l::ls) k=Uy l λx=>Ib ls λxs=>k (x::xs):=by
 rw[LA];unfold Ib;simp only[cZ]
 cases cR l with
 |none=>simp
 | some x =>
  cases cZ ls with
  |none=>simp
  |some xs=>simp
theorem de{K:W.Frag}{H:Hp}:∀{vs:List V}{ls:List L},eW K H vs ls↔Paired (bZ K H) (vs.map some) ls
 |[],[]=>⟨λ_=>.nil,λ_=>by simp only[eW]⟩
 | v::vs,l::ls=>by
  simp only[eW,X7];constructor
  . rintro⟨w,us,e,h1,h2⟩;cases e;exact .cons h1 (de.mp h2)
  .
   intro h
   cases h with
   |cons q t=>exact⟨v,vs,rfl,q,de.mpr t⟩
 | [],l::ls=>by
  simp only[eW,Zv];constructor
  . rintro⟨w,us,e,_⟩;cases e
  . intro h;cases h
 | v::vs,[]=>by
  simp only[eW,X7];constructor
  . intro h;cases h
  . intro h;cases h
theorem Av{K:W.Frag}{H:Hp}:∀{vs:List V}{xs:List D},Paired (bZ K H) (vs.map some) (xs.map .d)->bV K H vs xs
 |[],[],_=>.nil
 | v::vs,x::xs,h=>by
  simp only[X7]at h
  cases h with
  | cons q t =>
   simp only[bZ]at q;obtain⟨w,e,r⟩:=q;cases e;exact .cons r (Av t)
 |[],_::_,h=>by simp only[X7,Zv]at h;cases h
 |_::_,[],h=>by simp only[X7,Zv]at h;cases h
theorem eW.len{K:W.Frag}{H:Hp}{vs:List V}{ls:List L}(h:eW K H vs ls):vs.length=ls.length:=by have:=Paired.length (de.mp h);simpa using this
theorem ip:∀{ls:List L}{xs:List D},cZ ls=some xs->xs.length=ls.length
 |[],_,h=>by simp[cZ]at h;subst h;rfl
 | l::ls,xs,h=>by
  simp only[cZ]at h;split at h
  . rename_i x ys h1 h2;cases h;simp[ip h2]
  . cases h
theorem aG.openT{K:W.Frag}{Pr H:Hp}{σ:St}{ρ:Ev}{v:Option V}{ls:List L}(E:aG K Pr H (v::σ) (.bx none ls::ρ)):∃a vs,v=some (.ref a)/\TB K H a vs/\vs.length=ls.length/\aG K Pr H (vs.map some++σ) (ls++ρ):=by
 have sl:=E.sl
 cases sl with
 | cons q t =>
  simp only[bZ]at q;obtain⟨a,vs,e,h,r⟩:=q;have ow:owns (.bx none ls::ρ)=owns (ls++ρ):=by rw[aP,aK];simp only[bY,Option.toList,Yk,et]
  exact⟨a,vs,e,h,r.len,E.sub,by rw[<- ow];exact E.nd,λb hb=>E.off b (by rw[ow];exact hb),Paired.app (de.mp r) t⟩
theorem aG.openO{K:W.Frag}{Pr H:Hp}{σ:St}{ρ:Ev}{v:Option V}{a:Addr}{ls:List L}(E:aG K Pr H (v::σ) (.bx (some a) ls::ρ)):∃vs,v=some (.ref a)/\H a=some (.lst vs)/\vs.length=ls.length/\a∉owns (ls++ρ)/\Pr a=none/\aG K Pr H (vs.map some++σ) (ls++ρ):=by
 have sl:=E.sl
 cases sl with
 | cons q t =>
  simp only[bZ]at q;obtain⟨e,vs,h,r⟩:=q;have ow:owns (.bx (some a) ls::ρ)=a::owns (ls++ρ):=by rw[aP,aK];simp only[bY,Option.toList,List.cons_append,Yk,et]
  have nd:=E.nd;rw[ow]at nd;obtain⟨n1,n2⟩:=Yr.mp nd;exact⟨vs,e,h,r.len,n1,E.off a (by rw[ow];exact XU),E.sub,n2,λb hb=>E.off b (by rw[ow];exact p3 _ hb),Paired.app (de.mp r) t⟩
def vc(H H':Hp)(S:List Addr):Prop:=yq H H'/\(∀b,b∉S->H' b=H b)/\∀a∈S,∀vs,H a=some (.lst vs)->∃o,H' a=some (.frz o (.lst vs))
theorem vc.refl(H:Hp):vc H H []:=⟨λ_ _ _ e=>e,λ_ _=>rfl,λ_ h=>by simp at h⟩
mutual
theorem QA:∀(l:L){ab:List (Addr×Obj)}{σ0:St}{s:Shared}{Pr H:Hp}{σ:St}{ρ:Ev}{v:Option V}{x:D},Tp X ab σ0 H s->aG X.K Pr H (v::σ) (l::ρ)->cR l=some x->∃H',Tp X ab σ0 H' s/\aG X.K Pr H' (v::σ) (.d x::ρ)/\vc H H' (bY l)
 |.un,_,_,_,_,_,_,_,_,_,_,_,h=>by simp[cR]at h
 |.dic _ _,_,_,_,_,_,_,_,_,_,_,_,h=>by simp[cR]at h
 | .d y,_,_,_,_,_,_,_,_,_,I,E,h=>by
  simp only[cR,Yo]at h
  subst h
  exact⟨_,I,E,vc.refl _⟩
 | .own a xs,_,_,_,_,H,σ,ρ,v,_,I,E,h=>by
  simp only[cR,Yo]at h
  subst h
  have sl:=E.sl
  cases sl with
  | cons q t =>
   simp only[bZ]at q
   obtain⟨e0,vs,ha,r⟩:=q
   obtain⟨o,I'⟩:=I.freezeL ha
   refine⟨_,I',E.freeze ha o,λb u pu eb=>?_,λb hb=>?_,λb hb vs' eb=>?_⟩
   .
    rw[aT];exact eb
    rintro rfl
    rw[ha]at eb;cases eb;exact pu
   .
    rw[aT]
    rintro rfl
    exact hb (by simp[bY])
   .
    have e:b=a:=by simpa[bY]using hb
    subst e
    rw[ha]at eb;cases eb
    exact⟨o,cb⟩
 | .bx none ls,_,_,_,Pr,H,σ,ρ,v,x,I,E,h=>by
  simp only[cR,YG]at h
  obtain⟨xs,h,rfl⟩:=h
  obtain⟨a,vs,rfl,ha,hl,E1⟩:=E.openT
  obtain⟨H',I',E',F⟩:=LC ls hl I E1 h
  have hxl:=ip h
  obtain⟨s1,s2⟩:=Paired.unapp (by simp[hl,hxl]) E'.sl
  refine⟨H',I',(E'.drop (by simp[hl,hxl])).cons_d (.tup (ha.pres F.1) (Av s1)),F.1,λb hb=>F.2.1 b ?_,λb hb=>F.2.2 b ?_⟩
  .
   simpa[bY,et]using hb
  .
   simpa[bY,et]using hb
 | .bx (some a) ls,_,_,_,Pr,H,σ,ρ,v,x,I,E,h=>by
  simp only[cR,YG]at h
  obtain⟨xs,h,rfl⟩:=h
  obtain⟨vs,rfl,ha,hl,hn,hp,E1⟩:=E.openO
  obtain⟨H',I',E',F⟩:=LC ls hl I E1 h
  have hxl:=ip h
  have hal:a∉owns ls:=λz=>hn (by rw[aK];exact Yz _ z)
  have haρ:a∉owns ρ:=λz=>hn (by rw[aK];exact Yj _ z)
  have ha':H' a=some (.lst vs):=(F.2.1 a hal).trans ha
  obtain⟨s1,s2⟩:=Paired.unapp (by simp[hl,hxl]) E'.sl
  have E2:=E'.drop (by simp[hl,hxl])
  have E3:aG X.K Pr H' (some (.ref a)::σ) (.own a xs::ρ):=by
   refine⟨E2.sub,?_,λb hb=>?_,.cons ?_ E2.sl⟩
   .
    rw[aW];exact Yr.mpr ⟨haρ,E2.nd⟩
   .
    rw[aW]at hb
    rcases XW.mp hb with z|z
    .
     rw[z];exact hp
    .
     exact E2.off b z
   .
    unfold bZ
    exact⟨rfl,vs,ha',Av s1⟩
  obtain⟨o,I2⟩:=I'.freezeL ha'
  refine⟨_,I2,E3.freeze ha' o,λb u pu e=>?_,λb hb=>?_,λb hb vs' eb=>?_⟩
  .
   rw[aT];exact F.1 b u pu e
   rintro rfl
   rw[ha]at e;cases e;exact pu
  .
   have hb':b≠a/\b∉owns ls:=by simpa[bY,et,not_or]using hb
   rw[aT hb'.1]
   exact F.2.1 b hb'.2
  .
   by_cases hba:b=a
   .
    subst hba
    rw[ha]at eb;cases eb
    exact⟨o,cb⟩
   .
    have hb':b∈owns ls:=by
     rcases(by simpa[bY,et]using hb:b=a∨b∈owns ls)with z|z
     .
      exact absurd z hba
     .
      exact z
    rw[aT hba]
    exact F.2.2 b hb' vs' eb
theorem LC:∀(ls:List L){ab:List (Addr×Obj)}{σ0:St}{s:Shared}{Pr H:Hp}{σ:St}{ρ:Ev}{vs:List V}{xs:List D},vs.length=ls.length->Tp X ab σ0 H s->aG X.K Pr H (vs.map some++σ) (ls++ρ)->cZ ls=some xs->∃H',Tp X ab σ0 H' s/\aG X.K Pr H' (vs.map some++σ) (xs.map .d++ρ)/\vc H H' (owns ls)
 | [],_,_,_,_,_,_,_,vs,xs,hl,I,E,h=>by
  simp only[cZ,Yo]at h
  subst h
  cases vs with
  |nil=>exact⟨_,I,E,vc.refl _⟩
  |cons _ _=>simp at hl
 | l::ls,_,_,_,Pr,H,σ,ρ,vs,xs,hl,I,E,h=>by
  simp only[cZ]at h
  split at h
  rotate_left
  .
   cases h
  rename_i x ys h1 h2
  cases h
  cases vs with
  |nil=>simp at hl
  | cons v vs =>
   have hl':vs.length=ls.length:=by simpa using hl
   obtain⟨H1,I1,E1,F1⟩:=QA l I E h1
   have E2:aG X.K (bM H1 (ls++ρ)) H1 (vs.map some++σ) (ls++ρ):=(E1.drop (τ:=[some v]) (lam:=[.d x]) rfl).wide
   obtain⟨H2,I2,E3,F2⟩:=LC ls hl' I1 E2 h2
   have hyl:=ip h2
   have E4:aG X.K Pr H2 (some v::(vs.map some++σ)) (.d x::(ys.map .d++ρ)):=by
    have z:=aG.step (τ:=[some v]) (lam:=[.d x]) (w:=[]) (μ:=[]) (σ':=vs.map some++σ) (ρ':=ys.map .d++ρ) E1 rfl E3 rfl
    exact z
   refine⟨H2,I2,E4,λb u pu e=>F2.1 b u pu (F1.1 b u pu e),λb hb=>?_,λb hb vs' eb=>?_⟩
   .
    rw[aP]at hb
    rw[F2.2.1 b (λz=>hb (Yj _ z)),F1.2.1 b (λz=>hb (Yz _ z))]
   .
    rw[aP]at hb
    rcases Ys.mp hb with z|z
    .
     obtain⟨o,eo⟩:=F1.2.2 b z vs' eb
     exact⟨o,F2.1 b _ True.intro eo⟩
    .
     have hn:b∉bY l:=λz'=>by
      have nd:=E.nd
      rw[List.cons_append,aP,aK]at nd
      exact(Y5.mp nd).2.2 b z' b (Yz _ z) rfl
     exact F2.2.2 b z vs' ((F1.2.1 b hn).trans eb)
end
theorem EL.frz{ab:List (Addr×Obj)}{σ:St}{Pr:Hp}{kz:D->Ev->Prop}{u:Value}{s':Shared}(h:EL X ab σ Pr (λr ρ=>Uy r λx=>kz x ρ) u s') :
  ∃v H' x ρ',Tp X ab σ H' s'/\cQ v u/\aG X.K Pr H' (some v::σ) (.d x::ρ')/\kz x ρ':=by
 obtain⟨v,H',r,ρ',I,rv,E,p⟩:=h
 cases r with
 |un=>exact p.elim
 |d x=>exact⟨v,H',x,ρ',I,rv,E,p⟩
 | own a xs =>
  obtain⟨H2,I2,E2,_⟩:=QA (.own a xs) I E rfl;exact⟨v,H2,.lst xs,ρ',I2,rv,E2,p⟩
 | bx a ls =>
  obtain⟨x,ex,p⟩:=ED p;obtain⟨H2,I2,E2,_⟩:=QA (.bx a ls) I E ex;exact⟨v,H2,x,ρ',I2,rv,E2,p⟩
 |dic a kvs=>exact p.elim
def bp(t:W L):W L:=λρ kz=>t ρ λr ρ1=>Uy r λx=>kz (.d x) ρ1
theorem aA{t:W L}(h:PL X e t):PL X e (bp t):=λab s σ H Pr ρ kz I E ht =>
 Tu (h ab s σ H Pr ρ _ I E ht) λu s1 q=>by obtain⟨v,H',x,ρ',I',rv,E',p⟩:=EL.frz (kz:=λx ρ=>kz (.d x) ρ) q;exact⟨v,H',.d x,ρ',I',rv,E',p⟩
theorem aG.head_d{K:W.Frag}{Pr H:Hp}{v:Option V}{σ:St}{x:D}{ρ:Ev}(E:aG K Pr H (v::σ) (.d x::ρ)):∃w,v=some w/\Us K H w x:=by
 have sl:=E.sl
 cases sl with
 |cons q t=>exact q
theorem aG.tail{K:W.Frag}{Pr H:Hp}{v:Option V}{σ:St}{l:L}{ρ:Ev}(E:aG K Pr H (v::σ) (l::ρ)):aG K Pr H σ ρ:=aG.drop (τ:=[v]) (lam:=[l]) E rfl
theorem two{ab:List (Addr×Obj)}{s:Shared}{σ:St}{H Pr:Hp}{ρ:Ev}{R:D->D->Ev->Prop}(ha:PL X a ta)(hb:PL X b tb)(I:Tp X ab σ H s)(E:aG X.K Pr H σ ρ)
  (h:ta ρ λx ρ1=>Uy x λdx=>tb ρ1 λy ρ2=>Uy y λdy=>R dx dy ρ2) {α:Type} {Q:α->Shared->Prop} {f:Value->Value->Sem α}
  (hf:∀v u s2 x y H2 dx dy ρ2,Tp X ab σ H2 s2->cQ x v->cQ y u->aG X.K Pr H2 (some y::some x::σ) (.d dy::.d dx::ρ2)->Us X.K H2 x dx->Us X.K H2 y dy->R dx dy ρ2->wpAny (model X.prog X.w) X.A (f v u) Q X.xe s2) :
  wpAny (model X.prog X.w) X.A (eval a X.env) (λv s₁=>wpAny (model X.prog X.w) X.A (eval b X.env) (λu s₂=>wpAny (model X.prog X.w) X.A (f v u) Q X.xe s₂) X.xe s₁) X.xe s:=by
 refine Tu (ha ab s σ H Pr ρ _ I E h) λv s1 q=>?_;obtain⟨x,H1,dx,ρ1,I1,r1,E1,q1⟩:=EL.frz (kz:=λdx ρ1=>tb ρ1 λy ρ2=>Uy y λdy=>R dx dy ρ2) q;refine Tu (hb ab s1 σ H1 _ ρ1 _ I1 E1.tail.wide q1) λu s2 q=>?_;obtain⟨y,H2,dy,ρ2,I2,r2,E2,q2⟩:=EL.frz (kz:=λdy ρ2=>R dx dy ρ2) q;have E3:aG X.K Pr H2 (some y::some x::σ) (.d dy::.d dx::ρ2):=aG.step (τ:=[some x]) (lam:=[.d dx]) (w:=[some y]) (μ:=[.d dy]) E1 rfl E2 rfl;obtain⟨_,e1,p1⟩:=E3.head_d;obtain⟨_,e2,p2⟩:=E3.tail.head_d;cases e1;cases e2;exact hf v u s2 x y H2 dx dy ρ2 I2 r1 r2 E3 p2 p1 q2
abbrev Uz:=D->D->(L->Prop)->Prop
def UA(X:Cx)(f:Value->Value->Sem Value)(op:Uz):Prop :=
 ∀(ab:List (Addr×Obj))(s:Shared)(σ:St)(H Pr:Hp)(ρ:Ev)(x y:V)(v u:Value)(dx dy:D)(kz:L->Prop),Tp X ab σ H s->cQ x v->cQ y u->aG X.K Pr H σ ρ->Us X.K H x dx->Us X.K H y dy->op dx dy kz ->
  wpAny (model X.prog X.w) X.A (f v u) (λw s'=>∃z H' r,Tp X ab σ H' s'/\cQ z w/\aG X.K Pr H' (some z::σ) (r::ρ)/\kz r) X.xe s
theorem UA.of{f:Value->Value->Sem Value}{r:R2}{op:Uz}(h:TM X f r)(q:∀σ H Pr ρ x y dx dy kz,aG X.K Pr H σ ρ->Us X.K H x dx->Us X.K H y dy->op dx dy kz->r x y H λz H'=>∃r,aG X.K Pr H' (some z::σ) (r::ρ)/\kz r):UA X f op :=
 λab s σ H Pr ρ x y v u dx dy kz I rx ry E px py ho=>Tu (h ab s σ H x y v u _ I rx ry (q σ H Pr ρ x y dx dy kz E px py ho)) λw s' ⟨z,H',I',rz,r,E',p⟩=>⟨z,H',r,I',rz,E',p⟩
theorem UA.imp{f:Value->Value->Sem Value}{o1 o2:Uz}(h1:UA X f o1)(h:∀x y p,o2 x y p->o1 x y p):UA X f o2 :=
 λab s σ H Pr ρ x y v u dx dy kz I rx ry E px py ho=>h1 ab s σ H Pr ρ x y v u dx dy kz I rx ry E px py (h _ _ _ ho)
def ay(op:Uz)(ta tb:W L):W L:=λρ kz=>ta ρ λx ρ1=>Uy x λdx=>tb ρ1 λy ρ2=>Uy y λdy=>op dx dy λr=>kz r ρ2
theorem az{op:Operator}{o:Uz}(ho:UA X (binaryOp op) o)(ha:PL X a ta)(hb:PL X b tb):PL X (.BinOp a op b pos) (ay o ta tb):=λab s σ H Pr ρ kz I E h =>
 wpAny_BinOp (two (R:=λdx dy ρ2=>o dx dy λr=>kz r ρ2) ha hb I E h λv u s2 x y H2 dx dy ρ2 I2 r1 r2 E2 p1 p2 q =>
  Tu (ho ab s2 σ H2 Pr ρ2 x y v u dx dy _ I2 r1 r2 E2.tail.tail p1 p2 q) λw s3 ⟨z,H3,r,I3,rz,E3,p⟩=>⟨z,H3,r,ρ2,I3,rz,E3,p⟩)
theorem dJ{op:CmpOp}{o:Uz}(ho:UA X (compareOp op) o)(ha:PL X a ta)(hb:PL X b tb)(hm:behindInMarks op b=false):PL X (.Compare a [op] [b] pos) (ay o ta tb):=λab s σ H Pr ρ kz I E h =>
 wpAny_Compare1 (two (R:=λdx dy ρ2=>o dx dy λr=>kz r ρ2) ha hb I E h λv u s2 x y H2 dx dy ρ2 I2 r1 r2 E2 p1 p2 q =>
  Tu (ho ab s2 σ H2 Pr ρ2 x y v u dx dy _ I2 r1 r2 E2.tail.tail p1 p2 q) λw s3 ⟨z,H3,r,I3,rz,E3,p⟩=>⟨z,H3,r,ρ2,I3,rz,E3,p⟩) hm
def wC(x:D):W L:=λρ kz=>kz (.d x) ρ
theorem ah {i j pos}:PL X (.Constant (.int i) j pos) (wC (.int i)):=PL.of Oi λσ H Pr ρ kz E h=>⟨_,_,E.cons_d (.int i),h⟩
theorem vT {b j pos}:PL X (.Constant (.bool b) j pos) (wC (.bl b)):=PL.of QO λσ H Pr ρ kz E h=>⟨_,_,E.cons_d (.bl b),h⟩
theorem p5 {j pos}:PL X (.Constant .none j pos) (wC .non):=PL.of Oj λσ H Pr ρ kz E h=>⟨_,_,E.cons_d .non,h⟩
theorem vd {x j pos}:PL X (.Constant (.str x) j pos) (wC (.str x)):=PL.of Kv λσ H Pr ρ kz E h=>⟨_,_,E.cons_d (.str x),h⟩
def OJ(o:Option L)(i:Nat)(ρ:Ev)(kz:L->Ev->Prop):Prop:=match o with
 |some (.d x)=>kz (.d x) ρ
 |some (.own _ xs)=>kz (.d (.lst xs)) (ρ.set i (.d (.lst xs)))
 |some (.bx a ls)=>D7 a ls λx=>kz (.d x) (ρ.set i (.d x))
 |_=>False
def ak(i:Nat):W L:=λρ kz=>OJ ρ[i]? i ρ kz
theorem OK(x:D)(i:Nat)(ρ:Ev)(kz:L->Ev->Prop):OJ (some (.d x)) i ρ kz=kz (.d x) ρ:=rfl
theorem Ie(a:Addr)(xs:List D)(i:Nat)(ρ:Ev)(kz:L->Ev->Prop):OJ (some (.own a xs)) i ρ kz=kz (.d (.lst xs)) (ρ.set i (.d (.lst xs))):=rfl
theorem LD(a:Option Addr)(ls:List L)(i:Nat)(ρ:Ev)(kz:L->Ev->Prop):OJ (some (.bx a ls)) i ρ kz=D7 a ls λx=>kz (.d x) (ρ.set i (.d x)):=rfl
theorem aG.slot{K:W.Frag}{Pr H:Hp}{σ:St}{ρ:Ev}{i:Nat}{l:L}(E:aG K Pr H σ ρ)(h:ρ[i]?=some l):∃s,σ[i]?=some s/\bZ K H s l:=Paired.get2 E.sl h
theorem ae(i:Nat){x:Str}{pos:Pos}(hN:autoParam (X.N[i]?=some x) acE)(hv:autoParam (Tn X.env.scope x) acI) (hd:autoParam ((x == ("__debug__" : Str))=false) acG)
  (hcd:autoParam ((x == ("__classdict__" : Str))=false) acG):PL X (.Name x pos) (ak i):=by
 intro ab s σ H Pr ρ kz I E h;unfold ak OJ at h
 cases q:ρ[i]? with
 |none=>rw[q]at h;exact h.elim
 | some l =>
  rw[q]at h;obtain⟨sv,hs,sl⟩:=E.slot q
  cases l with
  |un=>exact h.elim
  |dic a kvs=>exact h.elim
  | d y =>
   obtain⟨v,rfl,r⟩:=sl;exact Tu (jg hN hv hd hcd ab s σ H (λw H'=>w=v/\H'=H) I ⟨v,hs,rfl,rfl⟩) λu s1 jqz=>by obtain⟨w,H1,I1,r1,e1,e2⟩:=jqz;subst e1 e2;exact⟨w,H1,_,ρ,I1,r1,E.cons_d r,h⟩
  | own a xs =>
   obtain⟨rfl,vs,ha,r⟩:=sl;refine Tu (jg hN hv hd hcd ab s σ H (λw H'=>w=.ref a/\H'=H) I ⟨.ref a,hs,rfl,rfl⟩) λu s1 jqz=>?_;obtain⟨w,H1,I1,r1,e1,e2⟩:=jqz;subst e1 e2;obtain⟨o,I2⟩:=I1.freezeL ha;have E2:=(E.out q).freeze ha o;have hi:i<ρ.length:=(tu.mp q).1;have E3:=E2.back (i:=i) (by simp[hi]) hs;rw[List.set_set]at E3;obtain⟨_,e,p⟩:=E2.head_d;cases e;exact⟨_,_,_,_,I2,r1,E3.cons_d p,h⟩
  | bx a ls =>
   obtain⟨y,ey,h⟩:=ED h
   have hv':∃b,sv=some (.ref b):=by
    cases a with
    |none=>simp only[bZ]at sl;obtain⟨b,_,e,_⟩:=sl;exact⟨b,e⟩
    |some b=>simp only[bZ]at sl;exact⟨b,sl.1⟩
   obtain⟨b,rfl⟩:=hv';refine Tu (jg hN hv hd hcd ab s σ H (λw H'=>w=.ref b/\H'=H) I ⟨.ref b,hs,rfl,rfl⟩) λu s1 jqz=>?_;obtain⟨w,H1,I1,r1,e1,e2⟩:=jqz;subst e1 e2;obtain⟨H2,I2,E2,_⟩:=QA (.bx a ls) I1 (E.outL q hs) ey;have hi:i<ρ.length:=(tu.mp q).1;have E3:=E2.back (i:=i) (by simp[hi]) hs;rw[List.set_set]at E3;obtain⟨_,e,p⟩:=E2.head_d;cases e;exact⟨_,_,_,_,I2,r1,E3.cons_d p,h⟩
def OL(o:Option L)(i:Nat)(ρ:Ev)(kz:L->Ev->Prop):Prop:=match o with
 |some (.d x)=>kz (.d x) ρ
 |some (.own a xs)=>kz (.own a xs) (ρ.set i .un)
 |some (.bx a ls)=>kz (.bx a ls) (ρ.set i .un)
 |_=>False
def jt(i:Nat):W L:=λρ kz=>OL ρ[i]? i ρ kz
theorem OM(x:D)(i:Nat)(ρ:Ev)(kz:L->Ev->Prop):OL (some (.d x)) i ρ kz=kz (.d x) ρ:=rfl
theorem Ig(a:Addr)(xs:List D)(i:Nat)(ρ:Ev)(kz:L->Ev->Prop):OL (some (.own a xs)) i ρ kz=kz (.own a xs) (ρ.set i .un):=rfl
theorem LF(a:Option Addr)(ls:List L)(i:Nat)(ρ:Ev)(kz:L->Ev->Prop):OL (some (.bx a ls)) i ρ kz=kz (.bx a ls) (ρ.set i .un):=rfl
theorem c6(i:Nat){x:Str}{pos:Pos}(hN:autoParam (X.N[i]?=some x) acE)(hv:autoParam (Tn X.env.scope x) acI) (hd:autoParam ((x == ("__debug__" : Str))=false) acG)
  (hcd:autoParam ((x == ("__classdict__" : Str))=false) acG):PL X (.Name x pos) (jt i):=by
 intro ab s σ H Pr ρ kz I E h;unfold jt OL at h
 cases q:ρ[i]? with
 |none=>rw[q]at h;exact h.elim
 | some l =>
  rw[q]at h;obtain⟨sv,hs,sl⟩:=E.slot q
  cases l with
  |un=>exact h.elim
  |dic a kvs=>exact h.elim
  | d y =>
   obtain⟨v,rfl,r⟩:=sl;exact Tu (jg hN hv hd hcd ab s σ H (λw H'=>w=v/\H'=H) I ⟨v,hs,rfl,rfl⟩) λu s1 jqz=>by obtain⟨w,H1,I1,r1,e1,e2⟩:=jqz;subst e1 e2;exact⟨w,H1,_,ρ,I1,r1,E.cons_d r,h⟩
  | own a xs =>
   obtain⟨rfl,vs,ha,r⟩:=sl;refine Tu (jg hN hv hd hcd ab s σ H (λw H'=>w=.ref a/\H'=H) I ⟨.ref a,hs,rfl,rfl⟩) λu s1 jqz=>?_;obtain⟨w,H1,I1,r1,e1,e2⟩:=jqz;subst e1 e2;exact⟨_,_,_,_,I1,r1,E.out q,h⟩
  | bx a ls =>
   have hv':∃b,sv=some (.ref b):=by
    cases a with
    |none=>simp only[bZ]at sl;obtain⟨b,_,e,_⟩:=sl;exact⟨b,e⟩
    |some b=>simp only[bZ]at sl;exact⟨b,sl.1⟩
   obtain⟨b,rfl⟩:=hv';refine Tu (jg hN hv hd hcd ab s σ H (λw H'=>w=.ref b/\H'=H) I ⟨.ref b,hs,rfl,rfl⟩) λu s1 jqz=>?_;obtain⟨w,H1,I1,r1,e1,e2⟩:=jqz;subst e1 e2;exact⟨_,_,_,_,I1,r1,E.outL q hs,h⟩
theorem LG{x:Str}{v:V}{u:Value}{y:D}{pos:Pos}(hg:Gl X x)(hm:X.mg x=some u)(r:cQ v u)(hy:∀ H,Us X.K H v y) (hd:autoParam ((x == ("__debug__" : Str))=false) acG):PL X (.Name x pos) (wC y) :=
 PL.of (Lj hg hm r hd) λσ H Pr ρ kz E h=>⟨_,_,E.cons_d (hy H),h⟩
def KD:L->(Bool->Prop)->Prop
 |.d (.bl b),k=>k b
 |_,_=>False
def ba(t:W L):W Bool:=λρ kz=>t ρ λr ρ1=>KD r λb=>kz b ρ1
theorem Aw{r:L}{k:Bool->Prop}(h:KD r k):∃b,r=.d (.bl b)/\k b:=by
 cases r with
 | d x=>cases x with
  |bl b=>exact⟨b,rfl,h⟩
  |_=>exact h.elim
 |_=>exact h.elim
theorem cD{t:W L}(h:PL X e t)(he:∀whole,isTrue e X.env whole=(do let v <- whole;standAt e.pos;holding [v] (truthy v)):=by intro _;rfl):PB X e (ba t):=by intro ab s σ H Pr ρ kz I E ht;rw[he];refine kS (Tu (h ab s σ H Pr ρ _ I E ht) λu s1 jqz=>?_);obtain⟨v,H1,r,ρ1,I1,rv,E1,p⟩:=jqz;refine kS (wpAny_standAt (Zm ?_));obtain⟨b,rfl,p⟩:=Aw p;obtain⟨_,e1,p1⟩:=E1.head_d;cases e1;obtain rfl:=Us.inv_bl p1;cases rv;exact ZW ⟨H1,ρ1,I1,E1.tail,p⟩
end
section
variable{X:Cx}{e a b c:Expr}{di:List Expr}{pos:Pos}{ta tb:W L}{tA tB:W Bool}
def UB(X:Cx)(e:Expr)(t:W Bool):Prop :=
 ∀(whole:Sem Value)(ab:List (Addr×Obj))(s:Shared)(σ:St)(H Pr:Hp)(ρ:Ev)(kz:Bool->Ev->Prop),Tp X ab σ H s->aG X.K Pr H σ ρ->t ρ kz->wpAny (model X.prog X.w) X.A (isTrue e X.env whole) (EB X ab σ Pr kz) X.xe s
theorem UB.pb{t:W Bool}(h:UB X e t):PB X e t:=h _
def QB(t u:W Bool):W Bool:=λρ kz=>t ρ λc ρ1=>if c=true then u ρ1 kz else kz false ρ1
def UC(t u:W Bool):W Bool:=λρ kz=>t ρ λc ρ1=>if c=true then kz true ρ1 else u ρ1 kz
def LH(t:W Bool):W Bool:=λρ kz=>t ρ λc ρ1=>kz (!c) ρ1
theorem BU(ha:PB X a tA):UB X (.BoolOp .And [a] pos) tA:=by
 intro wh ab s σ H Pr ρ kz I E h;refine isTrue_and (Tu (ha ab s σ H Pr ρ kz I E h) λc s1 e=>?_)
 cases c with
 |true=>exact isTrue_and_nil e
 |false=>exact e
theorem vU(ha:PB X a tA):UB X (.BoolOp .Or [a] pos) tA:=by
 intro wh ab s σ H Pr ρ kz I E h;refine isTrue_or (Tu (ha ab s σ H Pr ρ kz I E h) λc s1 e=>?_)
 cases c with
 |false=>exact isTrue_or_nil e
 |true=>exact e
theorem EF(ha:PB X a tA)(hb:UB X (.BoolOp .And (b::di) pos) tB):UB X (.BoolOp .And (a::b::di) pos) (QB tA tB):=by
 intro wh ab s σ H Pr ρ kz I E h;refine isTrue_and (Tu (ha ab s σ H Pr ρ _ I E h) λc s1 h_=>h_.on λH1 ρ1 I1 E1 q1=>?_)
 cases c with
 |true=>exact hb wh ab s1 σ H1 Pr ρ1 kz I1 E1 q1
 |false=>exact⟨H1,ρ1,I1,E1,q1⟩
theorem yt(ha:PB X a tA)(hb:UB X (.BoolOp .Or (b::di) pos) tB):UB X (.BoolOp .Or (a::b::di) pos) (UC tA tB):=by
 intro wh ab s σ H Pr ρ kz I E h;refine isTrue_or (Tu (ha ab s σ H Pr ρ _ I E h) λc s1 h_=>h_.on λH1 ρ1 I1 E1 q1=>?_)
 cases c with
 |true=>exact⟨H1,ρ1,I1,E1,q1⟩
 |false=>exact hb wh ab s1 σ H1 Pr ρ1 kz I1 E1 q1
theorem yu(ha:PB X a tA):PB X (.UnaryOp .Not a pos) (LH tA):=by intro ab s σ H Pr ρ kz I E h;exact isTrue_not (Tu (ha ab s σ H Pr ρ (λc ρ1=>kz (!c) ρ1) I E h) λ_ _ h_=>h_.on λH1 ρ1 I1 E1 q=>⟨H1,ρ1,I1,E1,q⟩)
theorem UD{op:CmpOp}{o:Uz}(ho:UA X (compareOp op) o)(ha:PL X a ta)(hb:PL X b tb)(hm:behindInMarks op b=false):PB X (.Compare a [op] [b] pos) (ba (ay o ta tb)):=by intro ab s σ H Pr ρ kz I E h;refine wpAny_isTrue_Compare1 (two (R:=λdx dy ρ2=>o dx dy λr=>KD r λb=>kz b ρ2) ha hb I E h λv u s2 x y H2 dx dy ρ2 I2 r1 r2 E2 p1 p2 q=>?_) hm;refine Tu (ho ab s2 σ H2 Pr ρ2 x y v u dx dy _ I2 r1 r2 E2.tail.tail p1 p2 q) λw s3 jqz=>?_;obtain⟨z,H3,r,I3,rz,E3,p⟩:=jqz;obtain⟨b,rfl,p⟩:=Aw p;obtain⟨_,e1,p1⟩:=E3.head_d;cases e1;obtain rfl:=Us.inv_bl p1;cases rz;exact ZW ⟨H3,ρ2,I3,E3.tail,p⟩
def vV(ta tb:W L):W L:=λρ kz=>ta ρ λr ρ1=>KD r λc=>if c=true then tb ρ1 kz else kz (.d (.bl false)) ρ1
def Q4(ta tb:W L):W L:=λρ kz=>ta ρ λr ρ1=>KD r λc=>if c=true then kz (.d (.bl true)) ρ1 else tb ρ1 kz
def EG(t:W Bool):W L:=λρ kz=>t ρ λc ρ1=>kz (.d (.bl (!c))) ρ1
theorem rE {op} {t:W L} (h:PL X a t):PL X (.BoolOp op [a] pos) t:=λab s σ H Pr ρ kz I E hw=>BoolOp_one (h ab s σ H Pr ρ kz I E hw)
theorem EL.bl{ab:List (Addr×Obj)}{σ:St}{Pr:Hp}{kz:Bool->Ev->Prop}{u:Value}{s':Shared}(h:EL X ab σ Pr (λr ρ=>KD r λb=>kz b ρ) u s') :
  ∃H' b ρ',u=.bool b/\Tp X ab σ H' s'/\aG X.K Pr H' σ ρ'/\kz b ρ':=by
 obtain⟨v,H',r,ρ',I,rv,E,p⟩:=h;obtain⟨b,rfl,p⟩:=Aw p;obtain⟨_,e1,p1⟩:=E.head_d;cases e1;obtain rfl:=Us.inv_bl p1;cases rv;exact⟨H',b,ρ',rfl,I,E.tail,p⟩
theorem rF(ha:PL X a ta)(hb:PL X (.BoolOp .And (b::di) pos) tb):PL X (.BoolOp .And (a::b::di) pos) (vV ta tb):=by
 intro ab s σ H Pr ρ kz I E h;refine BoolOp_and (Tu (ha ab s σ H Pr ρ _ I E h) λv s1 q=>?_)
 obtain⟨H1,c,ρ1,rfl,I1,E1,q1⟩:=EL.bl (kz:=λc ρ1=>if c=true then tb ρ1 kz else kz (.d (.bl false)) ρ1) q
 refine ZW ?_
 cases c with
 |true=>exact hb ab s1 σ H1 Pr ρ1 kz I1 E1 q1
 |false=>exact⟨.bl false,H1,_,ρ1,I1,rfl,E1.cons_d (.bl false),q1⟩
theorem Q5(ha:PL X a ta)(hb:PL X (.BoolOp .Or (b::di) pos) tb):PL X (.BoolOp .Or (a::b::di) pos) (Q4 ta tb):=by
 intro ab s σ H Pr ρ kz I E h;refine BoolOp_or (Tu (ha ab s σ H Pr ρ _ I E h) λv s1 q=>?_)
 obtain⟨H1,c,ρ1,rfl,I1,E1,q1⟩:=EL.bl (kz:=λc ρ1=>if c=true then kz (.d (.bl true)) ρ1 else tb ρ1 kz) q
 refine ZW ?_
 cases c with
 |false=>exact hb ab s1 σ H1 Pr ρ1 kz I1 E1 q1
 |true=>exact⟨.bl true,H1,_,ρ1,I1,rfl,E1.cons_d (.bl true),q1⟩
theorem EH(ha:PL X a ta):PL X (.UnaryOp .Not a pos) (EG (ba ta)):=by intro ab s σ H Pr ρ kz I E h;refine UnaryOp_ (Tu (ha ab s σ H Pr ρ _ I E h) λv s1 q=>?_);obtain⟨H1,c,ρ1,rfl,I1,E1,q1⟩:=EL.bl (kz:=λc ρ1=>kz (.d (.bl (!c))) ρ1) q;exact not_of (ZW ⟨.bl (!c),H1,_,ρ1,I1,rfl,E1.cons_d (.bl _),q1⟩)
def EJ(t:W Bool)(ta tb:W L):W L:=λρ kz=>t ρ λc ρ1=>if c=true then ta ρ1 kz else tb ρ1 kz
theorem m8(hc:PB X c tA)(ha:PL X a ta)(hb:PL X b tb):PL X (.IfExp c a b pos) (EJ tA ta tb):=by
 intro ab s σ H Pr ρ kz I E h;refine wpAny_IfExp (Tu (hc ab s σ H Pr ρ _ I E h) λd s1 h_=>h_.on λH1 ρ1 I1 E1 q1=>?_)
 cases d with
 |true=>exact ha ab s1 σ H1 Pr ρ1 kz I1 E1 q1
 |false=>exact hb ab s1 σ H1 Pr ρ1 kz I1 E1 q1
def UE(op:D->(L->Prop)->Prop)(t:W L):W L:=λρ kz=>t ρ λx ρ1=>Uy x λdx=>op dx λr=>kz r ρ1
def vW:D->(L->Prop)->Prop
 |.int i,k=>k (.d (.int (-i)))
 |_,_=>False
theorem ve(ha:PL X a ta):PL X (.UnaryOp .USub a pos) (UE vW ta):=by
 intro ab s σ H Pr ρ kz I E h;refine UnaryOp_ (Tu (ha ab s σ H Pr ρ _ I E h) λv s1 q=>?_);obtain⟨x,H1,dx,ρ1,I1,r1,E1,q1⟩:=EL.frz (kz:=λdx ρ1=>vW dx λr=>kz r ρ1) q;obtain⟨_,e1,p1⟩:=E1.head_d;cases e1
 cases p1 with
 | int i =>
  exact Tu (Ou ab s1 σ H1 _ v (λw H'=>w=.int (-i)/\H'=H1) I1 r1 ⟨i,rfl,rfl,rfl⟩) λu s2 jqz=>by obtain⟨w,H2,I2,r2,e1,e2⟩:=jqz;subst e1 e2;exact⟨_,_,_,ρ1,I2,r2,E1.tail.cons_d (.int _),q1⟩
 |_=>exact q1.elim
variable{st:Stmt}{sts:List Stmt}{t u:W Fl}
def ck:W Fl:=λρ kz=>kz .nx ρ
def aZ(t u:W Fl):W Fl:=λρ kz=>t ρ λf ρ1=>match f with
 |.nx=>u ρ1 kz
 |f=>kz f ρ1
theorem a6:Ux X [] ck:=λ_ _ σ H Pr ρ kz I E h=>wpAny_execs_nil ⟨σ,H,ρ,I,E,h⟩
theorem ai(h1:PM X st t)(h2:Ux X sts u):Ux X (st::sts) (aZ t u):=by
 intro ab s σ H Pr ρ kz I E h;refine wpAny_execs_cons (Tu (h1 ab s σ H Pr ρ _ I E h) λf s1 q=>?_)
 cases f with
 | next =>
  obtain⟨σ',H',ρ',I',E',q⟩:=q;exact h2 ab s1 σ' H' Pr ρ' kz I' E' q
 |ret v=>exact q
 |brk=>exact q
 |cont=>exact q
theorem aq(h1:PM X st t):Ux X [st] t:=by
 intro ab s σ H Pr ρ kz I E h;refine wpAny_execs_cons (Tu (h1 ab s σ H Pr ρ _ I E h) λf s1 q=>?_)
 cases f with
 |next=>exact wpAny_execs_nil q
 |ret v=>exact q
 |brk=>exact q
 |cont=>exact q
def rG(t:W L):W Fl:=λρ kz=>t ρ λ_ ρ1=>kz .nx ρ1
theorem iq{te:W L}(he:PL X e te)(hs:autoParam (swapsWith e none pos.line X.env=pure false) acE):PM X (.Expr e pos) (rG te):=by intro ab s σ H Pr ρ kz I E h;exact wpAny_Expr_any (Tu (he ab s σ H Pr ρ _ I E h) λv s1 h_=>h_.on λx H1 r ρ1 I1 r1 E1 q1=>⟨σ,H1,ρ1,I1,E1.tail,q1⟩) I.quiet hs
def bF(t:W L):W Fl:=λρ kz=>t ρ λr ρ1=>kz (.rt r) ρ1
theorem aE{te:W L}(he:PL X e te):PM X (.Return (some e) pos) (bF te):=by intro ab s σ H Pr ρ kz I E h;exact wpAny_Return_some (Tu (he ab s σ H Pr ρ _ I E h) λv s1 h_=>h_.on λx H1 r ρ1 I1 r1 E1 q1=>⟨x,σ,H1,r,ρ1,σ,I1,r1,E1,q1⟩)
def UF(c:W Bool)(t u:W Fl):W Fl:=λρ kz=>c ρ λb ρ1=>if b=true then t ρ1 kz else u ρ1 kz
theorem cC{sa sb:List Stmt}(hc:PB X c tA)(ha:Ux X sa t)(hb:Ux X sb u):PM X (.If c sa sb pos) (UF tA t u):=by
 intro ab s σ H Pr ρ kz I E h;refine wpAny_If (Tu (hc ab s σ H Pr ρ _ I E h) λd s1 h_=>h_.on λH1 ρ1 I1 E1 q1=>?_)
 cases d with
 |true=>exact ha ab s1 σ H1 Pr ρ1 kz I1 E1 q1
 |false=>exact hb ab s1 σ H1 Pr ρ1 kz I1 E1 q1
def vf:W Fl:=λ_ _=>False
theorem m9:PM X st vf:=λ_ _ _ _ _ _ _ _ _ h=>h.elim
theorem aG.forget{K:W.Frag}{Pr H:Hp}{σ:St}{ρ:Ev}(E:aG K Pr H σ ρ)(i:Nat)(v:Option V):aG K Pr H (σ.set i v) (ρ.set i .un):=by
 have hsub:(owns (ρ.set i .un)).Sublist (owns ρ):=by
  have:∀(ρ:Ev)(i:Nat),(owns (ρ.set i .un)).Sublist (owns ρ):=by
   intro ρ
   induction ρ with
   |nil=>intro i;exact aag _
   | cons l ρ ih =>
    intro i
    cases i with
    | zero =>
     show(owns ρ).Sublist (owns (l::ρ));rw[aP];exact Zx _ _
    | succ i =>
     show(owns (l::ρ.set i .un)).Sublist (owns (l::ρ));rw[aP,aP];exact(aag _).append (ih i)
  exact this ρ i
 exact⟨E.sub,E.nd.sublist hsub,λa h=>E.off a (hsub.subset h),Paired.set2 True.intro i E.sl⟩
theorem aG.store{K:W.Frag}{Pr H:Hp}{σ:St}{ρ:Ev}{v:Option V}{l:L}(E:aG K Pr H (v::σ) (l::ρ)){i:Nat}(hi:i<σ.length):aG K Pr H (σ.set i v) (ρ.set i l):=by have E1:=E.forget (i+1) v;have E2:aG K Pr H (v::σ.set i v) (l::ρ.set i .un):=E1;have hl:=E.tail.len;have E3:=E2.back (i:=i) (by rw[Zw xL]) (by rw[Zw hi]);rw[List.set_set]at E3;exact E3
def bA(i:Nat)(t:W L):W Fl:=λρ kz=>t ρ λr ρ1=>kz .nx (ρ1.set i r)
theorem aF{i:Nat}{x:Str}{te:W L}{pos':Pos}(hN:X.N.Nodup)(hi:X.N[i]?=some x)(hx:To X.env.scope x)(he:PL X e te)(hs:autoParam (swapsWith e (some (.Name x pos')) pos.line X.env=pure false) acE)(hf:autoParam (X.fn x=true∨X.env.scope.names.lookup x=some .local) acK) :
  PM X (.Assign [.Name x pos'] e pos) (bA i te):=by
 intro ab s σ H Pr ρ kz I E h;refine wpAny_Assign_Name (Tu (he ab s σ H Pr ρ _ I E h) λv s1 h_=>h_.on λy H1 r ρ1 I1 r1 E1 q1=>?_) hs;exact qV I1 hN hi hx r1 (λs2 I2=>⟨_,H1,_,I2,E1.store (by rw[I1.len];exact(tu.mp hi).1),q1⟩) hf
end
theorem nc{a b:Ev}(h:a.Perm b):(owns a).Perm (owns b):=by
 induction h with
 |nil=>exact .refl _
 |cons x _ ih=>rw[aP,aP];exact ih.append_left _
 | swap x y l =>
  rw[aP,aP,aP,aP,<- YU,<- YU];exact List.Perm.append_right _ Y8
 |trans _ _ h1 h2=>exact h1.trans h2
theorem Ih{a b:Ev}(h:a.Sublist b):(owns a).Sublist (owns b):=by
 induction h with
 |slnil=>exact .refl _
 |cons x _ ih=>rw[aP];exact ih.trans (Zx _ _)
 |cons_cons x _ ih=>rw[aP,aP];exact(aag _).append ih
def tL(K:W.Frag)(t:W L):TE:=λσ H Q=>∃Pr ρ kz,aG K Pr H σ ρ/\t ρ kz/\∀v H' r ρ',aG K Pr H' (some v::σ) (r::ρ')->kz r ρ'->Q v H'
def tW(K:W.Frag)(t:W Fl):TS:=λD σ H=>∃Pr ρ kz,aG K Pr H σ ρ/\t ρ kz/\(∀σ' H' ρ',aG K Pr H' σ' ρ'->kz .nx ρ'->D.nx σ' H')/\(∀σ' H' ρ',aG K Pr H' σ' ρ'->kz .bk ρ'->D.bk σ' H')/\(∀σ' H' ρ',aG K Pr H' σ' ρ'->kz .ct ρ'->D.ct σ' H') /\
 ∀v τ H' r ρ',aG K Pr H' (some v::τ) (r::ρ')->kz (.rt r) ρ'->D.rt v H'
noncomputable def UG(K:W.Frag)(t:W Bool):TT:=λσ H Q=>∃Pr ρ kz,aG K Pr H σ ρ/\t ρ kz/\∀b H' ρ',aG K Pr H' σ ρ'->kz b ρ'->Q b H'
section
variable{X:Cx}{e a b:Expr}{es:List Expr}{pos:Pos}{st:Stmt}{sts:List Stmt}{t u:W Fl}
theorem PL.pe{t:W L}(h:PL X e t):PE X e (tL X.K t):=λab s σ H Q I ⟨Pr,ρ,kz,E,ht,q⟩ =>
 Tu (h ab s σ H Pr ρ kz I E ht) λu s1 h_=>h_.on λv H1 r ρ1 I1 rv E1 p=>⟨v,H1,I1,rv,q v H1 r ρ1 E1 p⟩
theorem PB.pt{t:W Bool}(h:PB X e t):PT X e (UG X.K t):=λab s σ H Q I ⟨Pr,ρ,kz,E,ht,q⟩ =>
 Tu (h ab s σ H Pr ρ kz I E ht) λb s1 h_=>h_.on λH1 ρ1 I1 E1 p=>⟨H1,I1,q b H1 ρ1 E1 p⟩
theorem Ux.pss(h:Ux X sts t):Tt X sts (tW X.K t):=λab s σ H D I ⟨Pr,ρ,kz,E,ht,q1,q2,q3,q4⟩ =>
 Tu (h ab s σ H Pr ρ kz I E ht) λf s1 q=>by
  cases f with
  |next=>obtain⟨σ',H',ρ',I',E',p⟩:=q;exact⟨σ',H',I',q1 σ' H' ρ' E' p⟩
  |brk=>obtain⟨σ',H',ρ',I',E',p⟩:=q;exact⟨σ',H',I',q2 σ' H' ρ' E' p⟩
  |cont=>obtain⟨σ',H',ρ',I',E',p⟩:=q;exact⟨σ',H',I',q3 σ' H' ρ' E' p⟩
  |ret u=>obtain⟨v,σ',H',r,ρ',τ,I',rv,E',p⟩:=q;exact⟨v,σ',H',I',rv,q4 v τ H' r ρ' E' p⟩
noncomputable def OO(K:W.Frag)(Pr:Hp)(kz:Fl->Ev->Prop):N4 where
 nx:=λσ' H'=>∃ρ',aG K Pr H' σ' ρ'/\kz .nx ρ'
 rt:=λv H'=>∃τ r ρ',aG K Pr H' (some v::τ) (r::ρ')/\kz (.rt r) ρ'
 bk:=λσ' H'=>∃ρ',aG K Pr H' σ' ρ'/\kz .bk ρ'
 ct:=λσ' H'=>∃ρ',aG K Pr H' σ' ρ'/\kz .ct ρ'
theorem PM.of{ts:TS}(h:PS X st ts)(q:∀σ H Pr ρ kz,σ.length=X.N.length->aG X.K Pr H σ ρ->t ρ kz->ts (OO X.K Pr kz) σ H):PM X st t:=λab s σ H Pr ρ kz I E ht =>
 Tu (h ab s σ H _ I (q σ H Pr ρ kz I.len E ht)) λf s1 q=>by
  cases f with
  |next=>obtain⟨σ',H',I',ρ',E',p⟩:=q;exact⟨σ',H',ρ',I',E',p⟩
  |brk=>obtain⟨σ',H',I',ρ',E',p⟩:=q;exact⟨σ',H',ρ',I',E',p⟩
  |cont=>obtain⟨σ',H',I',ρ',E',p⟩:=q;exact⟨σ',H',ρ',I',E',p⟩
  |ret u=>obtain⟨v,σ',H',I',rv,τ,r,ρ',E',p⟩:=q;exact⟨v,σ',H',r,ρ',τ,I',rv,E',p⟩
theorem aG.narrow{K:W.Frag}{Pr H1 H:Hp}{σ1 σ:St}{ρ1 ρ:Ev}(E1:aG K Pr H1 σ1 ρ1)(E:aG K (bM H1 ρ1) H σ ρ):aG K Pr H σ ρ:=by
 refine⟨λb o e=>E.sub b o ?_,E.nd,λa ha=>?_,E.sl⟩
 . unfold bM;rw[if_neg,E1.sub b o e];intro hm;have z:=E1.off b hm;rw[e]at z;cases z
 .
  have z:=E.off a ha;unfold bM at z;by_cases hm:a∈owns ρ1
  . exact E1.off a hm
  .
   rw[if_neg hm]at z
   cases q:Pr a with
   |none=>rfl
   |some o=>rw[E1.sub a o q]at z;cases z
def aH:W (List L):=λρ kz=>kz [] ρ
def ar(t:W L)(r:W (List L)):W (List L):=λρ kz=>t ρ λx ρ1=>r ρ1 λxs ρ2=>kz (x::xs) ρ2
def l8(i:Nat)(r:W (List L)):W (List L):=λρ kz=>match ρ[i]? with
 |some (.own _ _)=>r ρ λxs ρ2=>kz (.un::xs) ρ2
 |_=>False
theorem ag:Uu X [] [] aH:=λ_ ab s σ H Pr ρ kz I E h=>aah ⟨[],H,[],ρ,I,.nil,rfl,rfl,E,λk i e=>by simp at e,h⟩
theorem af{bs:List (Option Nat)}{r:W (List L)}{t:W L}(ha:PL X e t)(hr:Uu X es bs r)(hs:autoParam (starEach (e::es) X.env=(false,eval e X.env)::starEach es X.env) acE):Uu X (e::es) (none::bs) (ar t r):=by
 intro pos ab s σ H Pr ρ kz I E h;rw[hs];show wpAny _ _ (spliced ((false,eval e X.env)::backTo pos (starEach es X.env))) _ _ s;refine ZP (Tu (ha ab s σ H Pr ρ _ I E h) λu s1 h_=>h_.on λx H1 l ρ1 I1 r1 E1 q1=>?_);refine Tu (hr pos ab s1 σ H1 _ ρ1 _ I1 E1.tail.wide q1) λus s2 h_=>h_.on λvs H2 ls ρ2 I2 r2 hl hb E2 hv q2=>?_;have E3:aG X.K Pr H2 (vs.map some++(some x::σ)) (ls++(l::ρ2)):=aG.step (τ:=[some x]) (lam:=[l]) E1 rfl E2 (by simp[hl])
 have E4:aG X.K Pr H2 (some x::(vs.map some++σ)) (l::(ls++ρ2)):=by
  have pm:(owns (ls++(l::ρ2))).Perm (owns (l::(ls++ρ2))):=nc List.perm_middle;have s1:=Paired.unapp (by simp[hl]) E3.sl;obtain⟨s1,s2⟩:=s1
  cases s2 with
  |cons q t=>exact⟨E3.sub,pm.nodup_iff.mp E3.nd,λa h=>E3.off a (pm.mem_iff.mpr h),.cons q (Paired.app s1 t)⟩
 refine⟨x::vs,H2,l::ls,ρ2,I2,.cons r1 r2,by simp[hl],by simp[hb],E4,λk i e=>?_,q2⟩
 cases k with
 |zero=>simp at e
 |succ k=>simpa using hv k i (by simpa using e)
theorem br(i:Nat){x:Str}{p:Pos}{bs:List (Option Nat)}{r:W (List L)}(hr:Uu X es bs r)(hN:autoParam (X.N[i]?=some x) acE)(hv:autoParam (Tn X.env.scope x) acI) (hd:autoParam ((x == ("__debug__" : Str))=false) acG)
  (hcd:autoParam ((x == ("__classdict__" : Str))=false) acG) (hs:autoParam (starEach (.Name x p::es) X.env=(false,eval (.Name x p) X.env)::starEach es X.env) acE):Uu X (.Name x p::es) (some i::bs) (l8 i r):=by
 intro pos ab s σ H Pr ρ kz I E h;unfold l8 at h
 cases q:ρ[i]? with
 |none=>rw[q]at h;exact h.elim
 | some l =>
  rw[q]at h
  cases l with
  |un=>exact h.elim
  |d y=>exact h.elim
  |bx _ _=>exact h.elim
  |dic _ _=>exact h.elim
  | own a xs =>
   obtain⟨sv,hsl,sl⟩:=E.slot q;obtain⟨rfl,_⟩:=sl;rw[hs];show wpAny _ _ (spliced ((false,eval (.Name x p) X.env)::backTo pos (starEach es X.env))) _ _ s;refine ZP (Tu (jg hN hv hd hcd ab s σ H (λw H'=>w=.ref a/\H'=H) I ⟨.ref a,hsl,rfl,rfl⟩) λu s1 jqz=>?_);obtain⟨w,H1,I1,r1,e1,e2⟩:=jqz;subst e1 e2;refine Tu (hr pos ab s1 σ H1 Pr ρ _ I1 E h) λus s2 jqz=>?_;obtain⟨vs,H2,ls,ρ2,I2,r2,hl,hb,E2,hv,q2⟩:=jqz;refine⟨.ref a::vs,H2,.un::ls,ρ2,I2,.cons r1 r2,by simp[hl],by simp[hb],E2.cons_un,λk j e=>?_,q2⟩
   cases k with
   |zero=>simp at e;subst e;exact⟨rfl,.ref a,rfl,hsl⟩
   |succ k=>simpa using hv k j (by simpa using e)
def N6:List L->(List D->Prop)->Prop
 |[],k=>k []
 |.d x::r,k=>N6 r λxs=>k (x::xs)
 |_::_,_=>False
theorem rH:∀{ls:List L}{k:List D->Prop},N6 ls k->∃xs,ls=xs.map .d/\k xs
 |[],_,h=>⟨[],rfl,h⟩
 | .d x::r,k,h=>by obtain⟨xs,e,q⟩:=rH (ls:=r) h;exact⟨x::xs,by rw[e];rfl,q⟩
 |.un::_,_,h=>h.elim
 |.own _ _::_,_,h=>h.elim
theorem rJ{K:W.Frag}{Pr H:Hp}{σ:St}{ρ:Ev}:∀{vs:List V}{xs:List D},vs.length=xs.length->aG K Pr H (vs.map some++σ) (xs.map .d++ρ)->bV K H vs xs
 |[],[],_,_=>.nil
 | v::vs,x::xs,hl,E=>by obtain⟨w,e,r⟩:=aG.head_d (v:=some v) (x:=x) E;cases e;exact .cons r (rJ (by simpa using hl) (aG.tail (v:=some v) (l:=.d x) E))
 |[],_::_,hl,_=>by simp at hl
 |_::_,[],hl,_=>by simp at hl
def lg(t:W (List L)):W L:=λρ kz=>t ρ λls ρ1=>N6 ls λxs=>xs.length<=sizeLine/\kz (.d (.tup xs)) ρ1
def vg(t:W (List L)):W L:=λρ kz=>t ρ λls ρ1=>N6 ls λxs=>xs.length<=sizeLine/\∀a,kz (.own a xs) ρ1
theorem bH {x1} {bs:List (Option Nat)} {t:W (List L)} (h:Uu X es bs t):PL X (.Tuple es x1 pos) (lg t):=by
 intro ab s σ H Pr ρ kz I E hq;refine wpAny_Tuple_spliced (Tu (h pos ab s σ H Pr ρ _ I E hq) λus s1 h_=>h_.on λvs H1 ls ρ1 I1 r hl hb E1 hv q=>?_);obtain⟨xs,rfl,z,q⟩:=rH q;have fI:vs.length=xs.length:=by simpa using hl
 refine⟨by rw[<- r.length,fI];exact z,?_⟩;have hf:H1 s1.heap.objs.size=none:=I1.hok.fresh (XZ _);refine⟨.ref s1.heap.objs.size,Te H1 s1.heap.objs.size (.tup vs),_,ρ1,I1.laid (t':=s1.toks) (λb u e=>p4 _ e) (XZ _) ?_,rfl,(E1.drop (by simp[fI])).cons_tup hf (rJ fI E1),q⟩;exact⟨by rw[fI];exact z,us,r,⟨_,X5 _ rfl,rfl,_,rfl⟩⟩
theorem dM{bs:List (Option Nat)}{t:W (List L)}(h:Uu X es bs t):PL X (.List es pos) (vg t):=by
 intro ab s σ H Pr ρ kz I E hq;refine wpAny_List_spliced (Tu (h pos ab s σ H Pr ρ _ I E hq) λus s1 h_=>h_.on λvs H1 ls ρ1 I1 r hl hb E1 hv q=>?_);obtain⟨xs,rfl,z,q⟩:=rH q;have fI:vs.length=xs.length:=by simpa using hl
 refine⟨by rw[<- r.length,fI];exact z,?_⟩;have hf:H1 s1.heap.objs.size=none:=I1.hok.fresh (XZ _);refine⟨.ref s1.heap.objs.size,Te H1 s1.heap.objs.size (.lst vs),_,ρ1,I1.laid (t':=s1.toks) (λb u e=>p4 _ e) (XZ _) ?_,rfl,(E1.drop (by simp[fI])).cons_own hf (rJ fI E1),q _⟩;exact⟨by rw[fI];exact z,us,0,r,X5 _ rfl⟩
abbrev FS:=List L->(L->List L->Prop)->Prop
noncomputable def spF(K:W.Frag)(n:Nat)(fs:FS):Sp:=λvs H Q _=>vs.length=n/\∃Pr ls kz,aG K Pr H (vs.map some) ls/\fs ls kz/\∀v H' r ls',aG K Pr H' (some v::vs.map some) (r::ls')->kz r ls'->Q v H'
theorem aG.swap{K:W.Frag}{Pr H:Hp}{σ τ:St}{ρ lam:Ev}(hl:τ.length=lam.length)(E:aG K Pr H (τ++σ) (lam++ρ)):aG K Pr H (σ++τ) (ρ++lam):=by have pm:(owns (lam++ρ)).Perm (owns (ρ++lam)):=nc Y8;obtain⟨s1,s2⟩:=Paired.unapp hl E.sl;exact⟨E.sub,pm.nodup_iff.mp E.nd,λa h=>E.off a (pm.mem_iff.mpr h),Paired.app s2 s1⟩
theorem KF{K:W.Frag}{Pr H H':Hp}{σ τ:St}{ρ ls ls':Ev}{v:Option V}{r:L}(hl:τ.length=ls.length)(E:aG K Pr H (τ++σ) (ls++ρ))(E':aG K (bM H ls) H' (v::τ) (r::ls')):aG K Pr H' (v::(τ++σ)) (r::(ls'++ρ)):=by
 have hρ:σ.length=ρ.length:=(E.drop hl).len;have z:=aG.step (τ:=σ) (σ:=τ) (lam:=ρ) (ρ:=ls) (w:=[v]) (μ:=[r]) (E.swap hl) hρ E' rfl;have hl':τ.length=ls'.length:=by have:=E'.len;simpa using this
 obtain⟨s1,s2⟩:=Paired.unapp (a:=[v]) (b:=[r]) rfl z.sl;obtain⟨s2,s3⟩:=Paired.unapp hρ s2;have pm:(owns ([r]++(ρ++ls'))).Perm (owns (r::(ls'++ρ))):=nc (List.Perm.cons r (Y8 (l₁:=ρ) (l₂:=ls')));exact⟨z.sub,pm.nodup_iff.mp z.nd,λa h=>z.off a (pm.mem_iff.mpr h),Paired.app s1 (Paired.app s3 s2)⟩
def aJ(fs:FS)(t:W (List L)):W L:=λρ kz=>t ρ λls ρ1=>fs ls λr _=>kz r ρ1
def bI(fs:FS)(k i:Nat)(t:W (List L)):W L:=λρ kz=>t ρ λls ρ1=>match ρ1[i]? with
 |some (.own a xs)=>fs (ls.set k (.own a xs)) λr ls'=>∃ys,ls'[k]?=some (.own a ys)/\kz r (ρ1.set i (.own a ys))
 |_=>False
section
variable{CX:TY}{k n:Nat}{f:Addr}{fd:FuncData}{ps:List Str}{fs:FS}{E:XK}{x:Str}{p:Pos}{bs:List (Option Nat)}{t:W (List L)}
theorem aG.drop1{K:W.Frag}{Pr H:Hp}{σ τ:St}{ρ lam:Ev}{v:Option V}{r:L}(hl:τ.length=lam.length)(E:aG K Pr H (v::(τ++σ)) (r::(lam++ρ))):aG K Pr H (v::σ) (r::ρ):=by obtain⟨s1,s2⟩:=Paired.unapp (a:=[v]) (b:=[r]) rfl E.sl;obtain⟨s2,s3⟩:=Paired.unapp hl s2;have sb:(owns (r::ρ)).Sublist (owns (r::(lam++ρ))):=Ih (List.Sublist.cons_cons r (Zx _ _));exact⟨E.sub,E.nd.sublist sb,λa h=>E.off a (sb.subset h),Paired.app s1 s3⟩
theorem LI(F:FnOk X.prog X.w X.K X.mg X.base CX k f fd ps (spF X.K n fs))(hr:uB k X.A)(hg:Gl X x)(hm:X.mg x=some (.ref f))(hk:W.keepIn X.K (.ref f)=true)(hb:Am X.K fd ps [])(hx:BP CX X E)
  (ha:Uu X (e::es) bs t) (hn:bs.length=n) (hdb:autoParam ((x == ("__debug__" : Str))=false) acG) (he:autoParam (starEach (e::es) X.env=(false,eval e X.env)::starEach es X.env) acE) (hpl:autoParam ((backTo pos (starEach es X.env)).any (·.1)=false) acE) :
  PL X (.Call (.Name x p) (e::es) [] pos) (aJ fs t):=by
 intro ab s σ H Pr ρ kz I E0 h;refine ZQ (Ak I hg hm ?_ hdb);refine W.callWith_K (h₀:=X.base) I.ok.mod.kin hk (Tu (ha pos ab s σ H Pr ρ _ I E0 h) λus s1 h_=>h_.on λvs H1 ls ρ1 I1 r hl hbl E1 hv q=>⟨I1.kIn,?_⟩) he hpl;have hl':(vs.map some).length=ls.length:=by simp[hl]
 refine Tu (Kz (Q:=λv H'=>∃r ρ',aG X.K Pr H' (some v::σ) (r::ρ')/\kz r ρ') F hr hb .nil hx I1 r ?_) λu s2 ⟨v,H2,I2,rv,r,ρ',E2,p⟩=>⟨v,H2,r,ρ',I2,rv,E2,p⟩;rw[ZX];refine⟨hbl.trans hn,bM H1 ls,ls,_,(E1.left hl').wide,q,λv H' r ls' E2 p=>⟨r,ρ1,?_,p⟩⟩;have z:=KF hl' E1 E2;have hl2:(vs.map some).length=ls'.length:=by have:=E2.len;simpa using this
 exact z.drop1 hl2
theorem Ii(F:FnOk X.prog X.w X.K X.mg X.base CX k f fd ps (spF X.K n fs))(hr:uB k X.A)(hg:Gl X x)(hm:X.mg x=some (.ref f))(hk:W.keepIn X.K (.ref f)=true)(hb:Am X.K fd ps [])(hx:BP CX X E)
  (j i:Nat) (ha:Uu X (e::es) bs t) (hj:bs[j]?=some (some i)) (hn:bs.length=n) (hdb:autoParam ((x == ("__debug__" : Str))=false) acG) (he:autoParam (starEach (e::es) X.env=(false,eval e X.env)::starEach es X.env) acE) (hpl:autoParam ((backTo pos (starEach es X.env)).any (·.1)=false) acE) :
  PL X (.Call (.Name x p) (e::es) [] pos) (bI fs j i t):=by
 intro ab s σ H Pr ρ kz I E0 h;refine ZQ (Ak I hg hm ?_ hdb);refine W.callWith_K (h₀:=X.base) I.ok.mod.kin hk (Tu (ha pos ab s σ H Pr ρ _ I E0 h) λus s1 h_=>h_.on λvs H1 ls ρ1 I1 r hl hbl E1 hv q=>⟨I1.kIn,?_⟩) he hpl;have hl':(vs.map some).length=ls.length:=by simp[hl]
 refine Tu (Kz (Q:=λv H'=>∃r ρ',aG X.K Pr H' (some v::σ) (r::ρ')/\kz r ρ') F hr hb .nil hx I1 r ?_) λu s2 ⟨v,H2,I2,rv,r,ρ',E2,p⟩=>⟨v,H2,r,ρ',I2,rv,E2,p⟩;rw[ZX]
 try dsimp only at q
 cases qi:ρ1[i]? with
 |none=>rw[qi]at q;exact q.elim
 | some l =>
  rw[qi]at q
  cases l with
  |un=>exact q.elim
  |d y=>exact q.elim
  |bx _ _=>exact q.elim
  |dic _ _=>exact q.elim
  | own a xs =>
   obtain⟨hun,w,hw,hσ⟩:=hv j i hj;obtain⟨sv,hs2,rfl,_⟩:=(E1.drop hl').slot qi;rw[hσ]at hs2;cases hs2;have hjl:j<ls.length:=(tu.mp hun).1;have hjv:j<vs.length:=by omega
   have hil:i<ρ1.length:=(tu.mp qi).1;have E2:=E1.out (i:=ls.length+i) (a:=a) (xs:=xs) (by rw[Yg xL];simpa using qi);rw[Z8 _ _ xL,YY]at E2;have E3:=E2.back (i:=j) (by rw[Ym hjl];exact hun) (by rw[Ym (by simp;omega)];simp[hw]);rw[List.set_append_left _ _ hjl]at E3;have hl3:(vs.map some).length=(ls.set j (.own a xs)).length:=by simp[hl]
   refine⟨hbl.trans hn,bM H1 (ls.set j (.own a xs)),_,_,(E3.left hl3).wide,q,λv H' r ls' E4 p=>?_⟩;obtain⟨ys,hys,p⟩:=p;refine⟨r,ρ1.set i (.own a ys),?_,p⟩;have z:=KF hl3 E3 E4;have hl4:(vs.map some).length=ls'.length:=by have:=E4.len;simpa using this
   have hjl':j<ls'.length:=by simp at hl4;omega
   have z1:=z.out (i:=1+j) (a:=a) (xs:=ys) (by rw[Nat.add_comm];simp only[ZF];rw[Ym hjl'];exact hys);rw[Nat.add_comm 1 j,List.set_cons_succ,List.set_append_left _ _ hjl']at z1
   have z2:=z1.back (i:=(1+ls'.length)+i) (by
    rw[Nat.add_comm 1,Nat.add_right_comm,ZF,Yg x_]
    simp[hil]) (by
    rw[Nat.add_comm 1,Nat.add_right_comm,ZF,Yg (by simp at hl4 ⊢;omega)];simp at hl4 ⊢;rw[<- hl4,YY]
    exact hσ)
   rw[Nat.add_comm 1,Nat.add_right_comm,List.set_cons_succ,Z8 _ _ x_]at z2;simp only[List.length_set,YY,List.set_set]at z2;exact z2.drop1 (by simp at hl4 ⊢;exact hl4)
end
end
def BV(ρ:Ev):List L->List L->Prop:=Paired λl l'=>match l with
 |.own a _=>(∃ys,l'=.own a ys/\L.own a ys∈ρ)∨l'=.un
 |.bx _ _=>l'=.un
 |.dic _ _=>l'=.un
 |l=>l'=l
def aU(ls:List L)(kz:L->List L->Prop):Fl->Ev->Prop:=λf ρ=>match f with
 |.rt r=>∃ls',BV ρ ls ls'/\kz r ls'
 |.nx=>∃ls',BV ρ ls ls'/\kz (.d .non) ls'
 |_=>False
theorem BV.owns{ρ:Ev}:∀{ls ls':List L},BV ρ ls ls'->(owns ls').Sublist (owns ls)
 |_,_,.nil=>.refl _
 | l::ls,l'::ls',.cons h t=>by
  have ih:=BV.owns t;rw[aP,aP]
  cases l with
  | own a xs =>
   rcases h with⟨ys,rfl,_⟩|rfl
   . exact(aag _).append ih
   . exact ih.trans (Zx _ _)
  |un=>have e:l'=.un:=h;subst e;exact(aag _).append ih
  |d x=>have e:l'=.d x:=h;subst e;exact(aag _).append ih
  |bx k ms=>have e:l'=.un:=h;subst e;exact ih.trans (Zx _ _)
  |dic k ms=>have e:l'=.un:=h;subst e;exact ih.trans (Zx _ _)
theorem BV.sub{ρ:Ev}:∀{ls ls':List L},BV ρ ls ls'->∀a∈L2.owns ls',a∈L2.owns ρ
 |_,_,.nil=>λa ha=>by simp[L2.owns]at ha
 | l::ls,l'::ls',.cons h t=>λa ha=>by
  have ih:=BV.sub t;rw[aP]at ha;rcases Ys.mp ha with z|z
  .
   cases l with
   | own b xs =>
    rcases h with⟨ys,rfl,hm⟩|rfl
    .
     have e:a=b:=by simpa[bY]using z
     subst e;exact Lx hm
    . simp[bY]at z
   |un=>have e:l'=.un:=h;subst e;simp[bY]at z
   |d x=>have e:l'=.d x:=h;subst e;simp[bY]at z
   |bx k ms=>have e:l'=.un:=h;subst e;simp[bY]at z
   |dic k ms=>have e:l'=.un:=h;subst e;simp[bY]at z
  . exact ih a z
theorem BW{K:W.Frag}{Pr H H':Hp}{σ τ:St}{ls ls' ρ:Ev}{v:Option V}{r:L}(E:aG K Pr H σ ls)(E':aG K (bM H ls) H' (v::τ) (r::ρ))(B:BV ρ ls ls'):aG K Pr H' (v::σ) (r::ls'):=by
 have E1:=E.narrow E';have p:yq H H':=As E E'.sub;have sub:=B.sub;have nd1:(owns ls').Nodup:=E.nd.sublist B.owns;refine⟨E1.sub,?_,λa ha=>?_,?_⟩
 . have nd:=E'.nd;rw[aP]at nd ⊢;obtain⟨n1,n2,n3⟩:=Y5.mp nd;exact Y5.mpr ⟨n1,nd1,λa ha b hb=>n3 a ha b (sub b hb)⟩
 .
  rw[aP]at ha;refine E1.off a ?_;rw[aP];rcases Ys.mp ha with z|z
  . exact Yz _ z
  . exact Yj _ (sub a z)
 .
  have s1:=E'.sl
  cases s1 with
  | cons q t =>
   refine .cons q ?_;have sl:=E.sl;clear E E' E1 nd1 sub
   induction B generalizing σ with
   |nil=>cases sl;exact .nil
   | cons h u ih =>
    rename_i l l' _ _
    cases sl with
    | cons s0 s2 =>
     refine .cons ?_ (ih s2)
     cases l with
     | own a xs =>
      rcases h with⟨ys,rfl,hm⟩|rfl
      . obtain⟨e,_⟩:=s0;obtain⟨_,_,_,z⟩:=Paired.mem2 t hm;exact⟨e,z⟩
      . unfold bZ;exact True.intro
     |un=>have e:l'=.un:=h;subst e;unfold bZ;exact True.intro
     |bx k ms=>have e:l'=.un:=h;subst e;unfold bZ;exact True.intro
     |dic k ms=>have e:l'=.un:=h;subst e;unfold bZ;exact True.intro
     | d x =>
      have e:l'=.d x:=h;subst e;obtain⟨w,e,r⟩:=s0;exact⟨w,e,r.pres p⟩
section
variable{P:Program}{w:World}{K:W.Frag}{mg:Str->Option Value}{base:Heap}
theorem aG.uns{K:W.Frag}{Pr H:Hp}{σ:St}{ρ:Ev}(E:aG K Pr H σ ρ):∀n,aG K Pr H (σ++List.replicate n none) (ρ++List.replicate n .un):=λn=>by
 have e:owns (ρ++List.replicate n .un)=owns ρ:=by
  rw[aK]
  have:owns (List.replicate n L.un)=[]:=by
   induction n with
   |zero=>rfl
   |succ n ih=>rw[aao,pZ];exact ih
  rw[this,ZX]
 refine⟨E.sub,by rw[e];exact E.nd,λa h=>E.off a (by rw[e]at h;exact h),Paired.app E.sl ?_⟩
 induction n with
 |zero=>exact .nil
 | succ n ih =>
  rw[aao,aao];refine .cons True.intro (ih ?_)
  have:owns (List.replicate n L.un)=[]:=by
   clear ih e
   induction n with
   |zero=>rfl
   |succ n ih=>rw[aao,pZ];exact ih
  rw[aK,this,ZX]
theorem a7{x qual:Str}{st:Stmt}{f:Addr}{fd:FuncData}{N ps:List Str}{k:Nat}{fs:FS}(F:Uq K x qual st f fd)(S:aC N ps (aj st))(t:W Fl)
  (hbody:∀(cdv:Value)(A:Around)(outer:List Env)(s:Shared)(H:Hp)(E:XK),uB k (A.deeper (envOfC qual (aj st) s.heap.objs.size f cdv))->Ux (Lm CX0 P w K mg base N qual (aj st) f cdv A outer s H E).nox (jx st) t)
  (h:∀ls kz,ls.length=ps.length->fs ls kz->t (ls++List.replicate (N.length-ps.length) .un) (aU ls kz)):FnOk P w K mg base CX0 (k+1) f fd ps (spF K ps.length fs):=by
 refine F.ok S (λvs H Q E q=>q.1) (λcdv A outer s H vs Q E hr q=>?_);obtain⟨hl,Pr,ls,kz,E0,hf,q⟩:=q;refine⟨_,(hbody cdv A outer s H E hr).pss,bM H ls,ls++List.replicate (N.length-ps.length) .un,aU ls kz,?_,h ls kz (by rw[<- hl];have:=E0.len;simpa using this.symm) hf,λσ' H' ρ' E' p=>?_,λ_ _ _ _ p=>p.elim,λ_ _ _ _ p=>p.elim,λv τ H' r ρ' E' p=>?_⟩
 . unfold vM;rw[hl];exact E0.wide.uns _
 . obtain⟨ls',B,p⟩:=p;exact q .non H' (.d .non) ls' (BW E0 (E'.cons_d .non) B) p
 . obtain⟨ls',B,p⟩:=p;exact q v H' r ls' (BW E0 E' B) p
end
theorem aQ{ρ:Ev}:BV ρ [] []:=.nil
theorem ao{ρ:Ev}{x:D}{a b:List L}(t:BV ρ a b):BV ρ (.d x::a) (.d x::b):=.cons rfl t
theorem fX{ρ:Ev}{p:Addr}{xs ys:List D}{a b:List L}(h:L.own p ys∈ρ)(t:BV ρ a b):BV ρ (.own p xs::a) (.own p ys::b):=.cons (.inl ⟨ys,rfl,h⟩) t
section
variable{X:Cx}{e a b c tg:Expr}{es:List Expr}{pos:Pos}{tA:W Bool}{t u:W Fl}
def yv(c:W Bool)(b:W Fl):W Fl:=λρ kz=>∃J:Nat->Ev->Prop,(∃n,J n ρ)/\∀n ρ,J n ρ->c ρ λt ρ1=>if t=true then b ρ1 λf ρ2=>(match f with
 |.nx=>∃m,m<n/\J m ρ2
 |.ct=>∃m,m<n/\J m ρ2
 |.bk=>kz .nx ρ2
 |.rt r=>kz (.rt r) ρ2)else kz .nx ρ1
theorem qW{body:List Stmt}(hp:PassesOwn (model X.prog X.w) X.A X.env X.xe)(hc:PB X c tA)(hb:Ux X body t):PM X (.While c body [] pos) (yv tA t):=by
 refine PM.of (HQ hp hc.pt hb.pss) λσ H Pr ρ kz fI E h=>?_;obtain⟨J,⟨n0,j0⟩,turn⟩:=h;refine⟨λn σ H=>∃ρ,aG X.K Pr H σ ρ/\J n ρ,⟨n0,ρ,E,j0⟩,λn σ1 H1 ⟨ρ1,E1,j1⟩=>⟨Pr,ρ1,_,E1,turn n ρ1 j1,λb H2 ρ2 E2 q=>?_⟩⟩
 cases b with
 |false=>exact⟨ρ2,E2,q⟩
 | true =>
  refine⟨λσ' H'=>∃ρ' m,aG X.K Pr H' σ' ρ'/\m<n/\J m ρ',λσ' H' ⟨ρ',m,E',hm,j⟩=>⟨m,hm,ρ',E',j⟩,Pr,ρ2,_,E2,q,λσ' H' ρ' E' ⟨m,hm,j⟩=>⟨ρ',m,E',hm,j⟩,λσ' H' ρ' E' p=>⟨ρ',E',p⟩,λσ' H' ρ' E' ⟨m,hm,j⟩=>⟨ρ',m,E',hm,j⟩,λv τ H' r ρ' E' p=>⟨τ,r,ρ',E',p⟩⟩
abbrev Tg:=D->Ev->(Ev->Prop)->Prop
def UH(X:Cx)(tg:Expr)(g:Tg):Prop:=∃gg:TG,PG X tg gg/\∀v σ H Pr ρ x k,σ.length=X.N.length->aG X.K Pr H σ ρ->Us X.K H v x->g x ρ k->gg v σ H λσ' H'=>H'=H/\σ'.length=X.N.length/\∃ρ',aG X.K Pr H σ' ρ'/\k ρ'
def aR(i:Nat):Tg:=λx ρ k=>k (ρ.set i (.d x))
theorem fo{i:Nat}{x:Str}(hN:X.N.Nodup)(hi:X.N[i]?=some x)(hx:To X.env.scope x)(hf:autoParam (X.fn x=true∨X.env.scope.names.lookup x=some .local) acK):UH X (.Name x pos) (aR i) :=
 ⟨_,vL hN hi hx hf,λv σ H Pr ρ x k hl E r h=>⟨rfl,by simpa using hl,_,(E.cons_d r).store (by rw[hl];exact(tu.mp hi).1),h⟩⟩
def ir:List Nat->List D->Ev->(Ev->Prop)->Prop
 |[],[],ρ,k=>k ρ
 |i::is,x::xs,ρ,k=>ir is xs (ρ.set i (.d x)) k
 |_,_,_,_=>False
def UI(X:Cx)(es:List Expr)(is:List Nat):Prop:=∃gg:TC,TF X es gg/\es.length=is.length/\∀vs σ H Pr ρ xs k,σ.length=X.N.length->aG X.K Pr H σ ρ->bV X.K H vs xs->ir is xs ρ k->gg vs σ H λσ' H'=>H'=H/\σ'.length=X.N.length/\∃ρ',aG X.K Pr H σ' ρ'/\k ρ'
theorem rK:UI X [] []:=⟨_,Ed,rfl,λvs σ H Pr ρ xs k hl E r h=>by
 cases r with
 |nil=>exact⟨rfl,rfl,hl,ρ,E,h⟩
 |cons _ _=>exact h.elim⟩
theorem d4{i:Nat}{is:List Nat}{x:Str}(hN:X.N.Nodup)(hi:X.N[i]?=some x)(hx:To X.env.scope x)(hr:UI X es is)(hf:autoParam (X.fn x=true∨X.env.scope.names.lookup x=some .local) acK)
  (hs:autoParam ((assignEach (.Name x pos::es) X.env).map (·.2)=assign (.Name x pos) X.env::(assignEach es X.env).map (·.2)) acE):UI X (.Name x pos::es) (i::is):=by
 obtain⟨gg,hg,fI,q⟩:=hr;refine⟨_,BM (vL hN hi hx hf) hg hs,by simp[fI],λvs σ H Pr ρ xs k hl E r h=>?_⟩
 cases r with
 |nil=>exact h.elim
 | cons r0 t =>
  refine⟨_,_,rfl,?_⟩;exact q _ _ H Pr _ _ k (by simpa using hl) ((E.cons_d r0).store (by rw[hl];exact(tu.mp hi).1)) t h
def dO(is:List Nat):Tg:=λx ρ k=>match x with
 |.tup xs=>ir is xs ρ k
 |_=>False
theorem l9:∀{is:List Nat}{xs:List D}{ρ:Ev}{k:Ev->Prop},ir is xs ρ k->xs.length=is.length
 |[],[],_,_,_=>rfl
 |_::is,_::xs,_,_,h=>by simp[l9 (is:=is) (xs:=xs) h]
 |[],_::_,_,_,h=>h.elim
 |_::_,[],_,_,h=>h.elim
theorem yw{is:List Nat}{k:Nat}(hc:X.calm=true)(h:UI X es is)(hn:autoParam ((assignEach es X.env).length=is.length) acE)(hst:autoParam ((assignEach es X.env).findIdx? (·.1)=none) acE):UH X (.Tuple es k pos) (dO is):=by
 obtain⟨gg,hg,fI,q⟩:=h;refine⟨_,Kw hc hg hn hst,λv σ H Pr ρ x k hl E r h=>?_⟩
 cases r with
 |tup hs rs=>exact⟨_,_,rfl,hs,by rw[rs.length];exact l9 h,q _ σ H Pr ρ _ k hl E rs h⟩
 |_=>exact h.elim
def eX(g:Tg)(b:W Fl):List D->W Fl
 |[]=>λρ kz=>kz .nx ρ
 | x::xs=>λρ kz=>g x ρ λρ1=>b ρ1 λf ρ2=>match f with
  |.nx=>eX g b xs ρ2 kz
  |.ct=>eX g b xs ρ2 kz
  |.bk=>kz .nx ρ2
  |.rt r=>kz (.rt r) ρ2
def jy:D->(List D->Prop)->Prop
 |.lst xs,k=>k xs
 |.tup xs,k=>k xs
 |_,_=>False
def OP(H H':Hp):Prop:=H'=H∨∃p o,H p=none/\H'=Te H p o
theorem aG.grown{K:W.Frag}{Pr H H':Hp}{σ:St}{ρ:Ev}(E:aG K Pr H σ ρ)(g:OP H H'):aG K Pr H' σ ρ:=by
 rcases g with rfl|⟨p,o,h,rfl⟩
 . exact E
 . exact E.new h
def vX(K:W.Frag)(H:Hp)(J:It)(xs:List D):Prop:=∀H',yq H H' ->
 (∀i x,xs[i]?=some x->J.go i H'/\∀v H2,J.yld i H' v H2->OP H' H2/\Us K H2 v x)/\J.stop xs.length H'
inductive EI (X:Cx) (ab:List (Addr×Obj)) (σ:St) (tg:Expr) (Pr:Hp) (kz:List D->Ev->Prop) (itv:Value) (s2:Shared):Prop
 |mk (it:Addr) (fp:List Addr) (tn:Nat->Heap->Prop) (J:It) (H':Hp) (xs:List D) (ρ':Ev) (hv:itv=.ref it) (i:Tp X ab σ H' s2) (t:HG X.prog X.w X.K tg J fp it tn) (h0:tn 0 s2.heap) (hf:∀b∈fp,BN X ab H' b) (e:aG X.K Pr H' σ ρ') (g:vX X.K H' J xs) (p:kz xs ρ')
def UJ(X:Cx)(tg iter:Expr)(w:W (List D)):Prop :=
 ∀(ab:List (Addr×Obj))(s:Shared)(σ:St)(H Pr:Hp)(ρ:Ev)(kz:List D->Ev->Prop),Tp X ab σ H s->aG X.K Pr H σ ρ->w ρ kz ->
  wpAny (model X.prog X.w) X.A (eval iter X.env) (λv s1=>wpAny (model X.prog X.w) X.A (pyIter v) (EI X ab σ tg Pr kz) X.xe s1) X.xe s
def oU(t:W L):W (List D):=λρ kz=>t ρ λr ρ1=>Uy r λx=>jy x λxs=>kz xs ρ1
theorem C7{K:W.Frag}{H:Hp}{a:Addr}{vs:List V}{xs:List D}(h:Ur K H a vs)(r:bV K H vs xs):vX K H (TJ K a) xs:=λH' p=>by have h':=(h.pres p).l;refine⟨λi x e=>?_,⟨vs,h',by rw[r.length];exact XZ _⟩⟩;obtain⟨v,ev,rv⟩:=r.get e;refine⟨⟨vs,v,h',ev⟩,λw H2 jqz=>?_⟩;obtain⟨e1,e2⟩:=jqz;have e3:=e2 vs h';rw[ev]at e3;cases e3;subst e1;exact⟨.inl rfl,rv.pres p⟩
theorem EK{K:W.Frag}{H:Hp}{a:Addr}{vs:List V}{xs:List D}(h:TB K H a vs)(r:bV K H vs xs):vX K H (TK K a) xs:=λH' p=>by have h':=h.pres p;refine⟨λi x e=>?_,⟨vs,h',by rw[r.length];exact XZ _⟩⟩;obtain⟨v,ev,rv⟩:=r.get e;refine⟨⟨vs,v,h',ev⟩,λw H2 jqz=>?_⟩;obtain⟨e1,e2⟩:=jqz;have e3:=e2 vs h';rw[ev]at e3;cases e3;subst e1;exact⟨.inl rfl,rv.pres p⟩
theorem bB{t:W L}(h:PL X e t):UJ X tg e (oU t):=by
 intro ab s σ H Pr ρ kz I E ht;refine Tu (h ab s σ H Pr ρ _ I E ht) λu s1 q=>?_;obtain⟨v,H1,x,ρ1,I1,r1,E1,q2⟩:=EL.frz (kz:=λx ρ1=>jy x λxs=>kz xs ρ1) q;obtain⟨_,e1,p⟩:=E1.head_d;cases e1
 cases p with
 | lst hz rs =>
  cases r1;obtain⟨its,rv,pl,hz'⟩:=I1.list hz.l;refine wpAny_pyIter_list pl.isList ?_;refine⟨s1.heap.objs.size,[s1.heap.objs.size],_,_,H1,_,ρ1,rfl,I1.kept (t':=s1.toks) λb o e=>p4 _ e,Ef _ _,⟨_,X5 _ rfl,rfl,rfl⟩,λb hb=>?_,E1.tail,C7 hz rs,q2⟩;have e:b=s1.heap.objs.size:=by simpa using hb
  subst e;exact I1.fpOk (XZ _) (I1.hok.fresh (XZ _))
 | tup hz rs =>
  cases r1;obtain⟨its,rv,pl,hz'⟩:=I1.tuple hz;refine wpAny_pyIter_tuple (show s1.heap.IsTuple _ its.toArray from pl) ?_;refine⟨s1.heap.objs.size,[s1.heap.objs.size],_,_,H1,_,ρ1,rfl,I1.kept (t':=s1.toks) λb o e=>p4 _ e,CW _ _,⟨_,X5 _ rfl,rfl,rfl⟩,λb hb=>?_,E1.tail,EK hz rs,q2⟩;have e:b=s1.heap.objs.size:=by simpa using hb
  subst e;exact I1.fpOk (XZ _) (I1.hok.fresh (XZ _))
 |_=>exact q2.elim
noncomputable def vh(lo:Int)(n:Nat):List D:=(List.range n).map λ(i:Nat)=>.int (lo+(i:Int))
theorem yx{K:W.Frag}{H:Hp}(lo:Int)(n:Nat):vX K H (TL lo n) (vh lo n):=λH' p=>by
 refine⟨λi x e=>?_,?_⟩
 .
  have hi:i<n:=by have:=(tu.mp e).1;simpa[vh]using this
  refine⟨hi,λv H2 jqz=>?_⟩;obtain⟨e1,e2⟩:=jqz;subst e1 e2;have:x=.int (lo+(i:Int)):=by unfold vh at e;rw[X1,Yn hi]at e;simpa using e.symm
  subst this;exact⟨.inl rfl,.int _⟩
 . show n<=(vh lo n).length;simp[vh]
def ma:L->(Int->Prop)->Prop
 |.d (.int i),k=>k i
 |_,_=>False
theorem cX{r:L}{k:Int->Prop}(h:ma r k):∃i,r=.d (.int i)/\k i:=by
 cases r with
 | d x=>cases x with
  |int i=>exact⟨i,rfl,h⟩
  |_=>exact h.elim
 |_=>exact h.elim
def EM(j:Int):Prop:=-(2^62)<=j/\j<2^62
def iu(t:W L):W (List D):=λρ kz=>t ρ λr ρ1=>ma r λj=>EM j/\kz (vh 0 j.toNat) ρ1
def Ij(t u:W L):W (List D):=λρ kz=>t ρ λr ρ1=>ma r λi=>u ρ1 λr ρ2=>ma r λj=>EM i/\EM j/\kz (vh i (j-i).toNat) ρ2
theorem bN{t:W L}{p pos:Pos} (hg:Gl X "range") (hm:X.mg "range"=none) (ha:PL X a t) (hs:autoParam (starEach [a] X.env=[(false,eval a X.env)]) acE):UJ X tg (.Call (.Name "range" p) [a] [] pos) (iu t):=by
 intro ab s σ H Pr ρ kz I E h;refine Tu (Eg (tg:=tg) hg hm (cx ha.pe jv hs) hs ab s σ H (λJ H1=>∃ρ1 n,J=TL 0 n/\aG X.K Pr H1 σ ρ1/\kz (vh 0 n) ρ1) I ?_) λv s1 q=>Tu q λitv s2 ⟨it,fp,tn,J,H',e,I',T,t0,hf,ρ1,n,eJ,E1,q⟩=>?_
 . refine⟨Pr,ρ,_,E,h,λv H' r ρ' E' p=>?_⟩;obtain⟨j,rfl,hj,p⟩:=cX p;obtain⟨_,e1,p1⟩:=E'.head_d;cases e1;obtain rfl:=Us.inv_int p1;exact⟨j,rfl,hj.1,hj.2,ρ',_,rfl,E'.tail,p⟩
 . subst eJ;exact⟨it,fp,tn,_,H',_,ρ1,e,I',T,t0,hf,E1,yx 0 n,q⟩
theorem BX{t u:W L}{p pos:Pos} (hg:Gl X "range") (hm:X.mg "range"=none) (ha:PL X a t) (hb:PL X b u) (hs:autoParam (starEach [a,b] X.env=[(false,eval a X.env),(false,eval b X.env)]) acE) (hs2:autoParam (starEach [b] X.env=[(false,eval b X.env)]) acE):UJ X tg (.Call (.Name "range" p) [a,b] [] pos) (Ij t u):=by
 intro ab s σ H Pr ρ kz I E h;refine Tu (Eh (tg:=tg) hg hm (cx ha.pe (cx hb.pe jv hs2) (hs.trans (by rw[hs2]))) hs hs2 ab s σ H (λJ H1=>∃ρ1 lo n,J=TL lo n/\aG X.K Pr H1 σ ρ1/\kz (vh lo n) ρ1) I ?_) λv s1 q=>Tu q λitv s2 ⟨it,fp,tn,J,H',e,I',T,t0,hf,ρ1,lo,n,eJ,E1,q⟩=>?_
 . refine⟨Pr,ρ,_,E,h,λv H' r ρ' E' p=>?_⟩;obtain⟨i,rfl,p⟩:=cX p;obtain⟨_,e1,p1⟩:=E'.head_d;cases e1;obtain rfl:=Us.inv_int p1;refine⟨Pr,ρ',_,E'.tail,p,λv H2 r ρ2 E2 p=>?_⟩;obtain⟨j,rfl,hi,hj,p⟩:=cX p;obtain⟨_,e1,p1⟩:=E2.head_d;cases e1;obtain rfl:=Us.inv_int p1;exact⟨i,j,rfl,⟨hi.1,hi.2,hj.1,hj.2⟩,ρ2,_,_,rfl,E2.tail,p⟩
 . subst eJ;exact⟨it,fp,tn,_,H',_,ρ1,e,I',T,t0,hf,E1,yx lo n,q⟩
def yy(s:W (List D))(g:Tg)(b:W Fl):W Fl:=λρ kz=>s ρ λxs ρ1=>eX g b xs ρ1 kz
theorem ft{iter:Expr}{body:List Stmt}{w:W (List D)}{g:Tg}(hp:PassesOwn (model X.prog X.w) X.A X.env X.xe)(hc:X.calm=true)(hi:UJ X tg iter w)(hg:UH X tg g)(hb:Ux X body t)
  (hs:∀x,foldedSetIterable iter X.env x=pure x:=by intro _;rfl):PM X (.For tg iter body [] pos) (yy w g t):=by
 intro ab s σ H Pr ρ kz I E h;obtain⟨gg,hg,hgg⟩:=hg;refine wpAny_For (Tu (hi ab s σ H Pr ρ _ I E h) λv s1 h1=>Tu h1 λitv s2 h2=>?_) hs;obtain⟨it,fp,tn,J,H2,xs,ρ2,e,I2,T,st2,f2,E2,G,w0⟩:=h2;subst e;have stat:∀{H':Hp},(∀b∈fp,H' b=none)->∀b∈fp,BN X ab H' b:=λhn b hb=>⟨hn b hb,(f2 b hb).2⟩;refine codeAny_forLoop_any (λn s'=>∃i σ' H' ρ',n+i=xs.length/\Tp X ab σ' H' s'/\tn i s'.heap/\(∀b∈fp,H' b=none)/\aG X.K (bM H2 ρ2) H' σ' ρ'/\eX g t (xs.drop i) ρ' kz) ?_ xs.length ⟨0,σ,H2,ρ2,xL,I2,st2,λb hb=>(f2 b hb).1,E2.wide,by simpa using w0⟩;rintro n s3 ⟨i,σ3,H3,ρ3,hn,I3,st3,fr3,E3,w3⟩;obtain⟨go,stop⟩:=G H3 (As E2 E3.sub);by_cases hlt:i<xs.length
 .
  obtain⟨hgo,hy⟩:=go i xs[i] (gV hlt);rw[List.drop_eq_getElem_cons hlt]at w3;refine aac hp (Tu (T.item X rfl rfl rfl hc i ab s3 σ3 H3 X.xe I3 (stat fr3) st3 hgo) λr s4 jqz=>?_);obtain⟨u,hr,h4⟩:=jqz;subst hr;refine aac hp (Tu h4 λ_ s5 jqz=>?_);obtain⟨x,H5,I5,r5,y5,st5,fr5⟩:=jqz;obtain⟨gr,rx⟩:=hy x H5 y5;have I5':=I5.pinned (stat fr5) (T.obj _ _ st5);have E5:=E3.grown gr;refine aac hp (Tu (hg _ s5 σ3 H5 x u _ I5' r5 (hgg x σ3 H5 _ ρ3 xs[i] _ I5.len E5 rx w3)) λ_ s6 jqz=>?_);obtain⟨σ6,H6,I6,e6,hl6,ρ6,E6,q6⟩:=jqz;subst e6;refine aac hp (Tu (hb _ s6 σ6 _ _ ρ6 _ I6 E6 q6) λf s7 q7=>?_)
  have again:∀{σ7:St}{H7:Hp}{ρ7:Ev},Tp X (ab++ye fp s5.heap) σ7 H7 s7->aG X.K (bM H2 ρ2) H7 σ7 ρ7->eX g t (xs.drop (i+1)) ρ7 kz ->
    ∃m,m<n/\∃i σ' H' ρ',m+i=xs.length/\Tp X ab σ' H' s7/\tn i s7.heap/\(∀b∈fp,H' b=none)/\aG X.K (bM H2 ρ2) H' σ' ρ'/\eX g t (xs.drop i) ρ' kz:=λ{σ7 H7 ρ7} I7 E7 n7=>by
   refine⟨n-1,xL,i+1,σ7,H7,ρ7,xL,I7.unpinned,T.keep _ _ _ st5 λb hb o e=>(I7.pin (b,o) (Yj _ (Yj _ (kH hb e)))).1,λb hb=>?_,E7,n7⟩;obtain⟨o,e,d⟩:=T.obj _ _ st5 b hb;exact(I7.pin (b,o) (Yj _ (Yj _ (kH hb e)))).2.1
  cases f with
  |next=>obtain⟨σ7,H7,ρ7,I7,E7,n7⟩:=q7;exact again I7 E7 n7
  |cont=>obtain⟨σ7,H7,ρ7,I7,E7,n7⟩:=q7;exact again I7 E7 n7
  |brk=>obtain⟨σ7,H7,ρ7,I7,E7,q7⟩:=q7;exact⟨σ7,H7,ρ7,I7.unpinned,E2.narrow E7,q7⟩
  |ret v=>obtain⟨x7,σ7,H7,r,ρ7,τ,I7,r7,E7,q7⟩:=q7;exact⟨x7,σ7,H7,r,ρ7,τ,I7.unpinned,r7,E2.narrow E7,q7⟩
 .
  have e:i=xs.length:=by omega
  subst e;refine aac hp (Tu (T.done X rfl rfl rfl hc xs.length ab s3 σ3 H3 X.xe I3 (stat fr3) st3 stop) λr s4 jqz=>?_);obtain⟨hr,I4⟩:=jqz;subst hr;rw[List.drop_length]at w3;exact wpAny_execs_nil ⟨σ3,H3,ρ3,I4,E2.narrow E3,w3⟩
end
section
variable{X:Cx}{e a b c:Expr}{pos:Pos}{ta tb:W L}
def cy(i:Int):Prop:=i.natAbs<2^1000000
def bO:Uz:=λx y k=>match x,y with
 |.int i,.int j=>k (.d (.int (i+j)))
 |.str i,.str j=>i.length+j.length<=sizeLine/\k (.d (.str (i++j)))
 |.lst xs,.lst ys=>xs.length+ys.length<=sizeLine/\∀a,k (.own a (xs++ys))
 |_,_=>False
def dF:Uz:=λx y k=>match x,y with
 |.int i,.int j=>k (.d (.int (i-j)))
 |_,_=>False
def oX:Uz:=λx y k=>match x,y with
 |.int i,.int j=>j≠0/\j.natAbs<2^9000/\k (.d (.int (i.fdiv j)))
 |_,_=>False
def eA:Uz:=λx y k=>match x,y with
 |.int i,.int j=>j≠0/\k (.d (.int (i.fmod j)))
 |_,_=>False
def C8:Uz:=λx y k=>match x,y with
 |.int i,.int j=>0<=j/\j<=1000000/\i.natAbs<2^64/\k (.d (.int (i^j.toNat)))
 |_,_=>False
def D8:Uz:=λx y k=>match x,y with
 |.int i,.int j=>k (.d (.bl (decide (i<j))))
 |_,_=>False
def LJ:Uz:=λx y k=>match x,y with
 |.int i,.int j=>k (.d (.bl (decide (i<=j))))
 |_,_=>False
def EN:Uz:=λx y k=>match x,y with
 |.int i,.int j=>k (.d (.bl (decide (j<i))))
 |_,_=>False
def OQ:Uz:=λx y k=>match x,y with
 |.int i,.int j=>k (.d (.bl (decide (j<=i))))
 |_,_=>False
theorem EO{i j:Int}(h1:cy i)(h2:cy j):IntMulOk i j:=IntMulOk.of_le (PySem.intBits_le_iff.mpr h1) (PySem.intBits_le_iff.mpr h2) xp
theorem LK:TM X (binaryOp .Mult) (rI (λi j=>cy i/\cy j) λi j=>.int (i*j)):=TU λ_ _ _ _ _ _ _ hc q=>mul_int q (EO hc.1 hc.2)
theorem LM:TM X (binaryOp .FloorDiv) (rI (λi j=>j≠0/\j.natAbs<2^9000) λi j=>.int (i.fdiv j)):=TU λi j _ _ _ _ _ hc q=>floordiv_int hc.1 q (.inl (PyProof.noPylong_of_log2 ((Nat.log2_lt (by have:=hc.1;omega)).mpr hc.2)))
theorem LN:TM X (binaryOp .Add) (λx y H Q=>∃l b xs zs,x=.ref l/\y=.ref b/\Tz X.K H l xs/\Tz X.K H b zs/\xs.length+zs.length<=sizeLine/\∀p,H p=none->Q (.ref p) (Te H p (.lst (xs++zs)))):=by
 intro ab s σ H x y v u Q I rx ry h;obtain⟨l,b,xs,zs,rfl,rfl,hH,hB,hz,q⟩:=h;cases rx;cases ry;obtain⟨its,r,⟨o,n,e,c,d,f⟩,z⟩:=I.list hH;obtain⟨its2,r2,⟨o2,n2,e2,c2,d2,f2⟩,z2⟩:=I.list hB;obtain⟨cl,dd,dt,sl⟩:=o;obtain⟨cl2,dd2,dt2,sl2⟩:=o2;simp only at c f c2 f2;subst c f c2 f2;have hl:=r.length;have hl2:=r2.length;refine concat_meets ⟨_,e,rfl⟩ ⟨_,e2,rfl⟩ noFill_list_add seq_list_add PySem.F.slot_list_add PySem.F.entry_list_add (PySem.F.args_list_add_2 _ _) (list_addW l b its.toArray its2.toArray n n2 dd dd2 sl sl2 (by rw[Ye,Ye];omega)) ⟨e,e2,?_⟩;have ea:its.toArray++its2.toArray=(its++its2).toArray:=by simp
 rw[ea];exact⟨.ref _,_,I.lnew (t':=s.toks) (r.append r2) (by rw[Yw];omega),rfl,q _ I.fresh⟩
theorem Ik{x y:D}{k:L->Prop}(h:bO x y k):(∃i j,x=.int i/\y=.int j/\k (.d (.int (i+j))))∨(∃i j,x=.str i/\y=.str j/\i.length+j.length<=sizeLine/\k (.d (.str (i++j))))∨∃xs ys,x=.lst xs/\y=.lst ys/\xs.length+ys.length<=sizeLine/\∀a,k (.own a (xs++ys)):=by
 unfold bO at h;split at h
 . exact .inl ⟨_,_,rfl,rfl,h⟩
 . exact .inr (.inl ⟨_,_,rfl,rfl,h⟩)
 . exact .inr (.inr ⟨_,_,rfl,rfl,h⟩)
 . exact h.elim
theorem LO:UA X (binaryOp .Add) (λx y k=>∃i j,x=.int i/\y=.int j/\k (.d (.int (i+j)))):=UA.of Oq λσ H Pr ρ x y dx dy kz E px py ⟨i,j,e1,e2,h⟩=>by subst e1 e2;obtain rfl:=Us.inv_int px;obtain rfl:=Us.inv_int py;exact⟨i,j,rfl,rfl,_,E.cons_d (.int _),h⟩
theorem LP:UA X (binaryOp .Add) (λx y k=>∃i j,x=.str i/\y=.str j/\i.length+j.length<=sizeLine/\k (.d (.str (i++j)))):=UA.of CZ λσ H Pr ρ x y dx dy kz E px py ⟨i,j,e1,e2,z,h⟩=>by subst e1 e2;obtain rfl:=Us.inv_str px;obtain rfl:=Us.inv_str py;exact⟨i,j,rfl,rfl,z,_,E.cons_d (.str _),h⟩
theorem LQ:UA X (binaryOp .Add) (λx y k=>∃xs ys,x=.lst xs/\y=.lst ys/\xs.length+ys.length<=sizeLine/\∀a,k (.own a (xs++ys))):=UA.of LN λσ H Pr ρ x y dx dy kz E px py ⟨xs,ys,e1,e2,z,h⟩=>by
 subst e1 e2;obtain⟨_,_,rfl,h1,r1⟩:=Us.inv_lst px
 cases py with
 |lst h2 r2=>exact⟨_,_,_,_,rfl,rfl,h1.l,h2.l,by rw[r1.length,r2.length];exact z,λp hp=>⟨_,E.cons_own hp (r1.append r2),h p⟩⟩
theorem bo:UA X (binaryOp .Add) bO:=by
 intro ab s σ H Pr ρ x y v u dx dy kz I rx ry E px py ho;rcases Ik ho with h|h|h
 . exact LO ab s σ H Pr ρ x y v u dx dy kz I rx ry E px py h
 . exact LP ab s σ H Pr ρ x y v u dx dy kz I rx ry E px py h
 . exact LQ ab s σ H Pr ρ x y v u dx dy kz I rx ry E px py h
theorem BY{f:Value->Value->Sem Value}{C:Int->Int->Prop}{g:Int->Int->V}{gd:Int->Int->D}(h:TM X f (rI C g))(hg:∀K H i j,Us K H (g i j) (gd i j)) :
  UA X f (λx y k=>∃i j,x=.int i/\y=.int j/\C i j/\k (.d (gd i j))) :=
 UA.of h λσ H Pr ρ x y dx dy kz E px py ⟨i,j,e1,e2,z,h⟩=>by subst e1 e2;obtain rfl:=Us.inv_int px;obtain rfl:=Us.inv_int py;exact⟨i,j,rfl,rfl,z,_,E.cons_d (hg _ _ _ _),h⟩
theorem rL{f:Value->Value->Sem Value}{g:Int->Int->V}{gd:Int->Int->D}(h:TM X f (TR g))(hg:∀K H i j,Us K H (g i j) (gd i j)) :
  UA X f (λx y k=>∃i j,x=.int i/\y=.int j/\k (.d (gd i j))) :=
 UA.of h λσ H Pr ρ x y dx dy kz E px py ⟨i,j,e1,e2,h⟩=>by subst e1 e2;obtain rfl:=Us.inv_int px;obtain rfl:=Us.inv_int py;exact⟨i,j,rfl,rfl,_,E.cons_d (hg _ _ _ _),h⟩
theorem cm:UA X (binaryOp .Sub) dF:=(rL Os (gd:=λi j=>.int (i-j)) λ_ _ _ _=>.int _).imp λx y k h=>by
 unfold dF at h;split at h
 . exact⟨_,_,rfl,rfl,h⟩
 . exact h.elim
theorem OR:UA X (binaryOp .Mult) (λx y k=>∃i j,x=.int i/\y=.int j/\(cy i/\cy j)/\k (.d (.int (i*j)))):=BY LK (gd:=λi j=>.int (i*j)) λ_ _ _ _=>.int _
def bD:Uz:=λx y k=>match x,y with
 |.int i,.int j=>cy i/\cy j/\k (.d (.int (i*j)))
 |_,_=>False
theorem bj:UA X (binaryOp .Mult) bD:=OR.imp λx y k h=>by
 unfold bD at h;split at h
 . exact⟨_,_,rfl,rfl,⟨h.1,h.2.1⟩,h.2.2⟩
 . exact h.elim
theorem lp:UA X (binaryOp .FloorDiv) oX:=(BY LM (gd:=λi j=>.int (i.fdiv j)) λ_ _ _ _=>.int _).imp λx y k h=>by
 unfold oX at h;split at h
 . exact⟨_,_,rfl,rfl,⟨h.1,h.2.1⟩,h.2.2⟩
 . exact h.elim
theorem cF:UA X (binaryOp .Mod) eA:=(BY Lk (gd:=λi j=>.int (i.fmod j)) λ_ _ _ _=>.int _).imp λx y k h=>by
 unfold eA at h;split at h
 . exact⟨_,_,rfl,rfl,h.1,h.2⟩
 . exact h.elim
theorem ER:UA X (binaryOp .Pow) C8:=(BY Ot (gd:=λi j=>.int (i^j.toNat)) λ_ _ _ _=>.int _).imp λx y k h=>by
 unfold C8 at h;split at h
 . exact⟨_,_,rfl,rfl,⟨h.1,h.2.1,h.2.2.1⟩,h.2.2.2⟩
 . exact h.elim
theorem Ax:UA X (compareOp .Lt) D8:=(rL Ov (gd:=λi j=>.bl (decide (i<j))) λ_ _ _ _=>.bl _).imp λx y k h=>by
 unfold D8 at h;split at h
 . exact⟨_,_,rfl,rfl,h⟩
 . exact h.elim
theorem OS:UA X (compareOp .LtE) LJ:=(rL Ow (gd:=λi j=>.bl (decide (i<=j))) λ_ _ _ _=>.bl _).imp λx y k h=>by
 unfold LJ at h;split at h
 . exact⟨_,_,rfl,rfl,h⟩
 . exact h.elim
theorem yz:UA X (compareOp .Gt) EN:=(rL QU (gd:=λi j=>.bl (decide (j<i))) λ_ _ _ _=>.bl _).imp λx y k h=>by
 unfold EN at h;split at h
 . exact⟨_,_,rfl,rfl,h⟩
 . exact h.elim
theorem OT:UA X (compareOp .GtE) OQ:=(rL QV (gd:=λi j=>.bl (decide (j<=i))) λ_ _ _ _=>.bl _).imp λx y k h=>by
 unfold OQ at h;split at h
 . exact⟨_,_,rfl,rfl,h⟩
 . exact h.elim
mutual
noncomputable def UK:D->PyData
 |.non=>.none
 |.bl b=>.bool b
 |.int i=>.int i
 |.str x=>.str x
 |.tup xs=>.tuple (fg xs)
 |.lst xs=>.list (fg xs)
 |.dct _=>.dict []
 |.exc _ _ _=>.dict []
 |.fn _ _=>.dict []
 |.dk _ _=>.dict []
 |.gf _=>.dict []
noncomputable def fg:List D->List PyData
 |[]=>[]
 |x::xs=>UK x::fg xs
end
noncomputable def UL(x y:D):Bool:=PyData.eqv (UK x) (UK y)
def dj(x:D):Prop:=SeqAt.shaped (UK x)=true
def p6:Uz:=λx y k=>dj x/\dj y/\k (.d (.bl (UL x y)))
def Il:Uz:=λx y k=>dj x/\dj y/\k (.d (.bl (!UL x y)))
mutual
theorem ng{ab:List (Addr×Obj)}{σ:St}{H:Hp}{s:Shared}(I:Tp X ab σ H s):∀(d:D)(x:V)(u:Value),cQ x u->Us X.K H x d->(UK d).canLay0=true->∃as,Reads s.heap u (UK d) as
 |.non,_,_,rv,r,_=>by obtain rfl:=Us.inv_non r;cases rv;exact⟨_,.none⟩
 |.bl b,_,_,rv,r,_=>by obtain rfl:=Us.inv_bl r;cases rv;exact⟨_,.bool b⟩
 |.int i,_,_,rv,r,_=>by obtain rfl:=Us.inv_int r;obtain⟨t,rfl⟩:=rv;exact⟨_,.int i t⟩
 |.str z,_,_,rv,r,_=>by obtain rfl:=Us.inv_str r;obtain⟨t,rfl⟩:=rv;exact⟨_,.str z t⟩
 | .tup xs,_,_,rv,r,hc=>by
  obtain⟨_,_,rfl,h,rs⟩:=Us.inv_tup r
  cases rv
  obtain⟨its,vs,⟨o,e,c,n,d⟩,_⟩:=I.tuple h
  obtain⟨as,ra⟩:=me I xs _ _ vs rs hc
  exact⟨_,.tuple (xs:=fg xs) e c d (by simpa using ra)⟩
 | .lst xs,_,_,rv,r,hc=>by
  obtain⟨_,_,rfl,h,rs⟩:=Us.inv_lst r
  cases rv
  obtain⟨its,vs,⟨o,n,e,c,_,d⟩,_⟩:=I.list h.l
  obtain⟨as,ra⟩:=me I xs _ _ vs rs hc
  exact⟨_,.list (xs:=fg xs) e c d (by simpa using ra)⟩
 |.dct _,_,_,_,_,hc=>nomatch hc
 |.exc _ _ _,_,_,_,_,hc=>nomatch hc
 |.fn _ _,_,_,_,_,hc=>nomatch hc
 |.dk _ _,_,_,_,_,hc=>nomatch hc
 |.gf _,_,_,_,_,hc=>nomatch hc
theorem me{ab:List (Addr×Obj)}{σ:St}{H:Hp}{s:Shared}(I:Tp X ab σ H s):∀(ds:List D)(vs:List V)(us:List Value),cw vs us->bV X.K H vs ds->PyData.canLayAll0 (fg ds)=true->∃as,ReadsAll s.heap us (fg ds) as
 |[],_,_,rv,r,_=>by cases r;cases rv;exact⟨_,.nil⟩
 | d::ds,_,_,rv,r,hc=>by
  have hc':(UK d).canLay0=true/\PyData.canLayAll0 (fg ds)=true:=by simpa[fg,PyData.canLayAll0]using hc
  cases r with
  | cons r0 rs =>
   cases rv with
   | cons v0 vs =>
    obtain⟨as,ra⟩:=ng I d _ _ v0 r0 hc'.1
    obtain⟨bs,rb⟩:=me I ds _ _ vs rs hc'.2
    exact⟨_,.cons ra rb⟩
end
theorem eY(hu:X.A.units+64<cLine):UA X (compareOp .Eq) p6:=by intro ab s σ H Pr ρ x y v u dx dy kz I rx ry E px py ⟨h1,h2,ho⟩;obtain⟨as,ra⟩:=ng I dx x v rx px (SeqAt.canLay_of_shaped h1);obtain⟨bs,rb⟩:=ng I dy y u ry py (SeqAt.canLay_of_shaped h2);exact eq_dataH ra rb h1 h2 hu ⟨.bl _,H,_,I,rfl,E.cons_d (.bl _),ho⟩
theorem Ay(hu:X.A.units+64<cLine):UA X (compareOp .NotEq) Il:=by intro ab s σ H Pr ρ x y v u dx dy kz I rx ry E px py ⟨h1,h2,ho⟩;obtain⟨as,ra⟩:=ng I dx x v rx px (SeqAt.canLay_of_shaped h1);obtain⟨bs,rb⟩:=ng I dy y u ry py (SeqAt.canLay_of_shaped h2);exact ne_dataH ra rb h1 h2 hu ⟨.bl _,H,_,I,rfl,E.cons_d (.bl _),ho⟩
theorem OU:UA X (compareOp .Is) (λx y k=>y=.non/\k (.d (.bl (match x with | .non=>true|_=>false)))):=UA.of Ox λσ H Pr ρ x y dx dy kz E px py ⟨e,h⟩=>by subst e;obtain rfl:=Us.inv_non py;refine⟨rfl,_,E.cons_d (.bl _),?_⟩;cases px<;>exact h
theorem LR:UA X (compareOp .IsNot) (λx y k=>y=.non/\k (.d (.bl (match x with | .non=>false|_=>true)))):=UA.of Ll λσ H Pr ρ x y dx dy kz E px py ⟨e,h⟩=>by subst e;obtain rfl:=Us.inv_non py;refine⟨rfl,_,E.cons_d (.bl _),?_⟩;cases px<;>exact h
def aI:Uz:=λx y k=>match x,y with
 |.lst xs,.int i=>∃v,Ud xs i=some v/\k (.d v)
 |.tup xs,.int i=>∃v,Ud xs i=some v/\k (.d v)
 |.str z,.int i=>z.length<=sizeLine/\∃c,Ud z.cps.toList i=some c/\k (.d (.str ⟨#[c]⟩))
 |_,_=>False
theorem Az{K:W.Frag}{H:Hp}{vs:List V}{xs:List D}(r:bV K H vs xs){i:Int}{x:D}(h:Ud xs i=some x):∃v,Ud vs i=some v/\Us K H v x:=by
 unfold Ud at h ⊢;rw[r.length]
 cases q:Uc xs.length i with
 |none=>rw[q]at h;cases h
 | some j =>
  rw[q]at h;exact r.get h
theorem LS{x y:D}{k:L->Prop}(h:aI x y k):∃i,y=.int i/\((∃xs,x=.lst xs/\∃v,Ud xs i=some v/\k (.d v))∨(∃xs,x=.tup xs/\∃v,Ud xs i=some v/\k (.d v))∨∃z,x=.str z/\z.length<=sizeLine/\∃c,Ud z.cps.toList i=some c/\k (.d (.str ⟨#[c]⟩))):=by
 unfold aI at h;split at h
 . exact⟨_,rfl,.inl ⟨_,rfl,h⟩⟩
 . exact⟨_,rfl,.inr (.inl ⟨_,rfl,h⟩)⟩
 . exact⟨_,rfl,.inr (.inr ⟨_,rfl,h⟩)⟩
 . exact h.elim
theorem ax(ha:PL X a ta)(hb:PL X b tb)(hs:Ao b):PL X (.Subscript a b pos) (ay aI ta tb):=by
 intro ab s σ H Pr ρ kz I E h;refine Subscript_ (two (R:=λdx dy ρ2=>aI dx dy λr=>kz r ρ2) ha hb I E h λv u s2 x y H2 dx dy ρ2 I2 r1 r2 E2 p1 p2 q=>?_);have Tw:∀(Q:VK),(∀z H',Q z H'->∃r,aG X.K Pr H' (some z::σ) (r::ρ2)/\kz r ρ2)->∀w s',EP X ab σ Q w s'->EL X ab σ Pr kz w s':=λQ hQ w s' h_=>h_.on λz H' I' rz q=>by obtain⟨r,E',p⟩:=hQ z H' q;exact⟨z,H',r,ρ2,I',rz,E',p⟩
 have Eσ:=E2.tail.tail;obtain⟨i,rfl,⟨xs,rfl,z,hz',q⟩|⟨xs,rfl,z,hz',q⟩|⟨z,rfl,hz,c,hc,q⟩⟩:=LS q
 . obtain rfl:=Us.inv_int p2;obtain⟨_,_,rfl,hz,rs⟩:=Us.inv_lst p1;obtain⟨w,hw,rw⟩:=Az rs hz';exact Tu (Er a b ab s2 σ H2 _ _ v u (λz H'=>z=w/\H'=H2) I2 r1 r2 ⟨_,_,i,w,rfl,rfl,hz.l,hw,rfl,rfl⟩ (hs _ _)) (Tw _ λz H' jqz=>by obtain⟨e1,e2⟩:=jqz;subst e1 e2;exact⟨_,Eσ.cons_d rw,q⟩)
 . obtain rfl:=Us.inv_int p2;obtain⟨_,_,rfl,hz,rs⟩:=Us.inv_tup p1;obtain⟨w,hw,rw⟩:=Az rs hz';exact Tu (OB a b ab s2 σ H2 _ _ v u (λz H'=>z=w/\H'=H2) I2 r1 r2 ⟨_,_,i,w,rfl,rfl,hz,hw,rfl,rfl⟩ (hs _ _)) (Tw _ λz H' jqz=>by obtain⟨e1,e2⟩:=jqz;subst e1 e2;exact⟨_,Eσ.cons_d rw,q⟩)
 . obtain rfl:=Us.inv_int p2;obtain rfl:=Us.inv_str p1;exact Tu (OC a b ab s2 σ H2 _ _ v u (λz H'=>z=.str ⟨#[c]⟩/\H'=H2) I2 r1 r2 ⟨z,i,c,rfl,rfl,hz,hc,rfl,rfl⟩ (hs _ _)) (Tw _ λz H' jqz=>by obtain⟨e1,e2⟩:=jqz;subst e1 e2;exact⟨_,Eσ.cons_d (.str _),q⟩)
end
section
variable{X:Cx}{e a b c:Expr}{es:List Expr}{pos p:Pos}{ta:W L}{x:Str}{bs:List (Option Nat)}{t:W (List L)}{id T:String}
abbrev UM:=List D->(L->Prop)->Prop
def eB(X:Cx)(f:Value)(op:UM):Prop :=
 ∀(ab:List (Addr×Obj))(s:Shared)(σ:St)(H Pr:Hp)(ρ:Ev)(vs:List V)(us:List Value)(ds:List D)(kz:L->Prop),Tp X ab σ H s->cw vs us->aG X.K Pr H σ ρ->bV X.K H vs ds->op ds kz ->
  wpAny (model X.prog X.w) X.A (call f us) (λw s'=>∃z H' r,Tp X ab σ H' s'/\cQ z w/\aG X.K Pr H' (some z::σ) (r::ρ)/\kz r) X.xe s
theorem eB.of{f:Value}{r:List V->Hp->VK->Prop}{op:UM}(h:g8 X f r)(q:∀σ H Pr ρ vs ds kz,aG X.K Pr H σ ρ->bV X.K H vs ds->op ds kz->r vs H λz H'=>∃r,aG X.K Pr H' (some z::σ) (r::ρ)/\kz r):eB X f op :=
 λab s σ H Pr ρ vs us ds kz I rv E ps ho=>Tu (h ab s σ H vs us _ I rv (q σ H Pr ρ vs ds kz E ps ho)) λw s' ⟨z,H',I',rz,r,E',p⟩=>⟨z,H',r,I',rz,E',p⟩
def a8(op:UM)(t:W (List L)):W L:=λρ kz=>t ρ λls ρ1=>N6 ls λds=>op ds λr=>kz r ρ1
theorem aN(hc:eB X (.builtin id) op)(hg:Gl X x)(hm:X.mg x=none)(hv:bootBuiltins x=some (.builtin id))(ha:Uu X (e::es) bs t) (hn:autoParam (x≠"__name__") acG) (hdb:autoParam ((x == ("__debug__" : Str))=false) acG)
  (he:autoParam (starEach (e::es) X.env=(false,eval e X.env)::starEach es X.env) acE) (hpl:autoParam ((backTo pos (starEach es X.env)).any (·.1)=false) acE):PL X (.Call (.Name x p) (e::es) [] pos) (a8 op t):=by
 intro ab s σ H Pr ρ kz I E h;refine ZQ (fk I hg hm hv ?_ hn hdb);refine PyProof.Rows.callWith_builtin1 (Tu (ha pos ab s σ H Pr ρ _ I E h) λus s1 h_=>h_.on λvs H1 ls ρ1 I1 r1 hl hb E1 _ q1=>?_) he hpl;obtain⟨ds,rfl,q2⟩:=rH q1;have fI:vs.length=ds.length:=by simpa using hl
 exact Tu (hc ab s1 σ H1 Pr ρ1 vs us ds _ I1 r1 (E1.drop (by simp[fI])) (rJ fI E1) q2) λw s2 ⟨z,H2,r,I2,rz,E2,q⟩=>⟨z,H2,r,ρ1,I2,rz,E2,q⟩
theorem nh(hc:eB X (.type T) op)(hg:Gl X x)(hm:X.mg x=none)(hv:bootBuiltins x=some (.type T))(ha:Uu X (e::es) bs t) (hn:autoParam (x≠"__name__") acG) (hdb:autoParam ((x == ("__debug__" : Str))=false) acG)
  (he:autoParam (starEach (e::es) X.env=(false,eval e X.env)::starEach es X.env) acE) (hpl:autoParam ((backTo pos (starEach es X.env)).any (·.1)=false) acE):PL X (.Call (.Name x p) (e::es) [] pos) (a8 op t):=by
 intro ab s σ H Pr ρ kz I E h;refine ZQ (fk I hg hm hv ?_ hn hdb);refine Yp (Tu (ha pos ab s σ H Pr ρ _ I E h) λus s1 h_=>h_.on λvs H1 ls ρ1 I1 r1 hl hb E1 _ q1=>?_) he hpl;obtain⟨ds,rfl,q2⟩:=rH q1;have fI:vs.length=ds.length:=by simpa using hl
 exact Tu (hc ab s1 σ H1 Pr ρ1 vs us ds _ I1 r1 (E1.drop (by simp[fI])) (rJ fI E1) q2) λw s2 ⟨z,H2,r,I2,rz,E2,q⟩=>⟨z,H2,r,ρ1,I2,rz,E2,q⟩
def cn:UM:=λds k=>match ds with
 |[.lst xs]=>k (.d (.int xs.length))
 |[.tup xs]=>k (.d (.int xs.length))
 |[.str x]=>x.length<=sizeLine/\k (.d (.int x.length))
 |_=>False
theorem oY{K:W.Frag}{H:Hp}{vs:List V}{d:D}(r:bV K H vs [d]):∃v,vs=[v]/\Us K H v d:=by
 cases r with
 |cons h t=>cases t;exact⟨_,rfl,h⟩
theorem OV{K:W.Frag}{H:Hp}{vs:List V}{d d':D}(r:bV K H vs [d,d']):∃v w,vs=[v,w]/\Us K H v d/\Us K H w d':=by
 cases r with
 | cons h t=>cases t with
  |cons h' t=>cases t;exact⟨_,_,rfl,h,h'⟩
theorem bS:eB X (.builtin "len") cn:=eB.of (pY.or yl) λσ H Pr ρ vs ds kz E ps h=>by
 unfold cn at h;split at h
 . obtain⟨v,rfl,r⟩:=oY ps;obtain⟨_,_,rfl,hz,rs⟩:=Us.inv_lst r;exact .inl ⟨_,_,rfl,.inl hz.l,_,E.cons_d (.int _),by rw[rs.length];exact h⟩
 . obtain⟨v,rfl,r⟩:=oY ps;obtain⟨_,_,rfl,hz,rs⟩:=Us.inv_tup r;exact .inl ⟨_,_,rfl,.inr hz,_,E.cons_d (.int _),by rw[rs.length];exact h⟩
 .
  obtain⟨v,rfl,r⟩:=oY ps
  cases r with
  |str z=>exact .inr ⟨_,rfl,h.1,_,E.cons_d (.int _),h.2⟩
 . exact h.elim
def C9:UM:=λds k=>match ds with
 |[.int i]=>k (.d (.int (if i<0 then -i else i)))
 |_=>False
theorem ES:eB X (.builtin "abs") C9:=eB.of HS λσ H Pr ρ vs ds kz E ps h=>by
 unfold C9 at h;split at h
 .
  obtain⟨v,rfl,r⟩:=oY ps
  cases r with
  |int i=>exact⟨_,rfl,_,E.cons_d (.int _),h⟩
 . exact h.elim
def Im:UM:=λds k=>match ds with
 |[.int i,.int j]=>k (.d (.int (if j > i then j else i)))
 |_=>False
def ET:UM:=λds k=>match ds with
 |[.int i,.int j]=>k (.d (.int (if j<i then j else i)))
 |_=>False
theorem OW(hc:X.calm=true):eB X (.builtin "max") Im:=eB.of (Ek hc) λσ H Pr ρ vs ds kz E ps h=>by
 unfold Im at h;split at h
 .
  obtain⟨v,w,rfl,r,r'⟩:=OV ps
  cases r with
  | int i=>cases r' with
   |int j=>exact⟨_,_,rfl,_,E.cons_d (.int _),h⟩
 . exact h.elim
theorem KG(hc:X.calm=true):eB X (.builtin "min") ET:=eB.of (El hc) λσ H Pr ρ vs ds kz E ps h=>by
 unfold ET at h;split at h
 .
  obtain⟨v,w,rfl,r,r'⟩:=OV ps
  cases r with
  | int i=>cases r' with
   |int j=>exact⟨_,_,rfl,_,E.cons_d (.int _),h⟩
 . exact h.elim
def EU:UM:=λds k=>match ds with
 |[.int i]=>k (.d (.int i))
 |[.bl b]=>k (.d (.int (if b then 1 else 0)))
 |_=>False
theorem KH:eB X (.type "int") EU:=eB.of Em λσ H Pr ρ vs ds kz E ps h=>by
 unfold EU at h;split at h
 .
  obtain⟨v,rfl,r⟩:=oY ps
  cases r with
  |int i=>exact .inl ⟨_,rfl,_,E.cons_d (.int _),h⟩
 .
  obtain⟨v,rfl,r⟩:=oY ps
  cases r with
  |bl i=>exact .inr ⟨_,rfl,_,E.cons_d (.int _),h⟩
 . exact h.elim
def yA:UM:=λds k=>match ds with
 |[.lst xs]=>∀a,k (.own a xs)
 |[.tup xs]=>∀a,k (.own a xs)
 |_=>False
theorem EV:eB X (.type "list") yA:=eB.of ym λσ H Pr ρ vs ds kz E ps h=>by
 unfold yA at h;split at h
 . obtain⟨v,rfl,r⟩:=oY ps;obtain⟨_,_,rfl,hz,rs⟩:=Us.inv_lst r;exact⟨_,_,rfl,.inl hz.l,λl hl=>⟨_,E.cons_own hl rs,h l⟩⟩
 . obtain⟨v,rfl,r⟩:=oY ps;obtain⟨_,_,rfl,hz,rs⟩:=Us.inv_tup r;exact⟨_,_,rfl,.inr hz,λl hl=>⟨_,E.cons_own hl rs,h l⟩⟩
 . exact h.elim
noncomputable def UN:D->Value
 |.non=>.type "NoneType"
 |.bl _=>.type "bool"
 |.int _=>.type "int"
 |.str _=>.type "str"
 |.tup _=>.type "tuple"
 |.lst _=>.type "list"
 |.dct _=>.type "dict"
 |.exc _ _ _=>.none
 |.fn _ _=>.type "function"
 |.dk _ _=>.type "dict"
 |.gf _=>.type "function"
def UO(K:W.Frag)(d:D)(t:Value):Prop:=match d with
 |.exc c _ _=>∃C,t=.ref C/\vb K c C=true
 |d=>t=UN d
theorem BZ{ab:List (Addr×Obj)}{σ:St}{H:Hp}{s:Shared}{a:Addr}{o:Obj}{u:HO}{C:Addr}{ns:List Str}{vs:List V}(I:Tp X ab σ H s)(h:H a=some (.frz o u))(hc:o.cls=.ref C)(hn:W.notCls o=true)(hf:XF H o.dict ns vs):∃od,W.InstAt s.heap a o C od/\∀d,o.dict=some d->∃q,od=some q/\s.heap.get? d=some q:=by
 have e:=(show s.heap.get? a=some o/\_ from I.hok a _ h).1;rcases hf with⟨_,_,z⟩|⟨d,od,z,h2,_⟩
 . exact⟨none,⟨e,hc,hn,by rw[z];trivial⟩,λd q=>by rw[z]at q;cases q⟩
 . have e2:=(show s.heap.get? d=some od/\_ from I.hok d _ h2).1;exact⟨some od,⟨e,hc,hn,by rw[z];exact e2⟩,λd' q=>by rw[z]at q;cases q;exact⟨od,rfl,e2⟩⟩
theorem Io{ab:List (Addr×Obj)}{σ:St}{H:Hp}{s:Shared}{x:V}{u c:Value}{d:D}{b:Bool}{Q:Value->Shared->Prop}{A:Around}{E:Value->Shared->Prop}(I:Tp X ab σ H s)(rx:cQ x u)(r:Us X.K H x d)(e:∀t,UO X.K d t->W.kitOne X.K t c=some b)(h:∀tk,Q (.bool b) {s with toks:=tk}) :
  wpAny (model X.prog X.w) A (call (.builtin "isinstance") [u,c]) Q E s:=by
 cases r with
 |non=>cases rx;exact Zr W.kitx_none I.kIn True.intro (e _ rfl) (λz=>nomatch z) h
 |bl y=>cases rx;exact Zr W.kitx_bool I.kIn True.intro (e _ rfl) (λz=>nomatch z) h
 |int i=>obtain⟨t,rfl⟩:=rx;exact Zr W.kitx_int I.kIn True.intro (e _ rfl) (λz=>nomatch z) h
 |str y=>obtain⟨t,rfl⟩:=rx;exact Zr W.kitx_str I.kIn True.intro (e _ rfl) (λz=>nomatch z) h
 | lst hz rs =>
  cases rx;obtain⟨its,_,⟨o,n,e1,c1,_,_⟩,_⟩:=I.list hz.l;exact Zr W.kitx_list I.kIn ⟨o,e1,c1⟩ (e _ rfl) (λz=>nomatch z) h
 | tup hz rs =>
  cases rx;obtain⟨its,_,⟨o,e1,c1,_⟩,_⟩:=I.tuple hz;exact Zr W.kitx_tuple I.kIn ⟨o,e1,c1⟩ (e _ rfl) (λz=>nomatch z) h
 | @dct a o kvs hz =>
  cases rx;obtain⟨_,_,_,vs,_,o',es,ep,h1,h2,_⟩:=(show fj X.prog X.w H s.heap a (.frz o (.dK kvs))from I.hok a _ hz);exact Zr W.kitx_dict I.kIn ⟨o',h1,h2.1⟩ (e _ rfl) (λz=>nomatch z) h
 | @exc a o u cc C ns vs ds h1 hv hc hn hs hq hf rs =>
  cases rx;obtain⟨od,Ia,_⟩:=BZ I h1 hc hn hf;obtain⟨LL,cd,S⟩:=rC hs;exact Zr (BR S) I.kIn ⟨_,_,Ia⟩ (e _ ⟨C,rfl,hs⟩) (λz=>nomatch z) h
 | fn hl hf hq hc hz hd hv hm r =>
  cases rx;exact Zr vR I.kIn ⟨_,(I.hok _ _ hf).1,rfl⟩ (e _ rfl) (λz=>nomatch z) h
 | @dk a' o kvs ds hz rs =>
  cases rx;obtain⟨_,_,_,vs,_,o',es,ep,h1,h2,_⟩:=(show fj X.prog X.w H s.heap a' (.frz o (.dK kvs))from I.hok a' _ hz);exact Zr W.kitx_dict I.kIn ⟨o',h1,h2.1⟩ (e _ rfl) (λz=>nomatch z) h
 | gf hx hl hk =>
  cases rx;exact Zr vR I.kIn ⟨_,I.kIn _ _ hl,rfl⟩ (e _ rfl) (λz=>nomatch z) h
noncomputable def lh(T:String):D->Bool
 |.non=>T == "NoneType"
 |.bl _=>T == "bool" ||T == "int"
 |.int _=>T == "int"
 |.str _=>T == "str"
 |.tup _=>T == "tuple"
 |.lst _=>T == "list"
 |.dct _=>T == "dict"
 |.exc _ _ _=>(["ValueError","Exception","BaseException","object"]:List String).contains T
 |.fn _ _=>T == "function"
 |.dk _ _=>T == "dict"
 |.gf _=>T == "function"
def mf(T:String):D->(L->Prop)->Prop:=λd k=>k (.d (.bl (lh T d)))
theorem ji{T:String}{y:Str}{py:Pos}(hT:∀ K d t,UO K d t->W.kitOne K t (.type T)=some (lh T d)) (hg:Gl X "isinstance") (hm:X.mg "isinstance"=none) (hy:Gl X y) (hmy:X.mg y=none) (hby:bootBuiltins y=some (.type T)) (ha:PL X a ta)
  (hny:autoParam (y≠"__name__") acG) (hdy:autoParam ((y == ("__debug__" : Str))=false) acG)
  (h1:autoParam (starEach [a,.Name y py] X.env=(false,eval a X.env)::starEach [.Name y py] X.env) acE) (h2:autoParam (starEach [.Name y py] X.env=[(false,eval (.Name y py) X.env)]) acE) (hpl:autoParam ((backTo pos (starEach [.Name y py] X.env)).any (·.1)=false) acE) :
  PL X (.Call (.Name "isinstance" p) [a,.Name y py] [] pos) (UE (mf T) ta):=by
 have cr:g8 X (.builtin "isinstance") (λxs H Q=>∃ x d,xs=[x,.ty T]/\Us X.K H x d/\Q (.bl (lh T d)) H):=by intro ab s σ H xs us Q I rv h;obtain⟨x,d,rfl,r,q⟩:=h;obtain⟨u,w,rfl,r1,r2⟩:=Ej rv;cases r2;exact Io I r1 r (hT _ d) λtk=>⟨.bl _,H,I.tok _,rfl,q⟩
 refine PL.of (vN cr hg hm y_ (cx (aA ha).pe (cx (Al hy hmy hby (v:=.ty T) rfl hny hdy) jv h2) h1) (he:=h1) (hpl:=hpl)) λσ H Pr ρ kz E h=>?_
 refine⟨Pr,ρ,λr ρ1=>match r with
  |.d x=>mf T x λr=>kz r ρ1
  |_=>False,E,h,λv H' r ρ' E' p=>?_⟩
 cases r with
 | d x =>
  obtain⟨_,e1,p1⟩:=E'.head_d;cases e1;exact⟨_,x,rfl,p1,_,ρ',E'.tail.cons_d (.bl _),p⟩
 |_=>exact p.elim
end
section
variable{X:Cx}{e a b:Expr}{pos p apos cpos:Pos}{tb te:W L}{x:Str}
theorem aG.updOwn{K:W.Frag}{Pr H:Hp}{σ:St}{ρ:Ev}{i:Nat}{l:Addr}{xs ys:List D}{vs:List V}(E:aG K Pr H σ ρ)(q:ρ[i]?=some (.own l xs))(r:bV K H vs ys):aG K Pr (Te H l (.lst vs)) σ (ρ.set i (.own l ys)):=by obtain⟨sv,hs,rfl,_⟩:=E.slot q;have hi:i<ρ.length:=(tu.mp q).1;have E1:=(E.out q).write r;have E2:=E1.back (i:=i) (by simp[hi]) hs;rw[List.set_set]at E2;exact E2
theorem aG.ownAt{K:W.Frag}{Pr H:Hp}{σ:St}{ρ:Ev}{i:Nat}{l:Addr}{xs:List D}(E:aG K Pr H σ ρ)(q:ρ[i]?=some (.own l xs)):σ[i]?=some (some (.ref l))/\∃vs,H l=some (.lst vs)/\bV K H vs xs:=by obtain⟨sv,hs,rfl,r⟩:=E.slot q;exact⟨hs,r⟩
def Af(i:Nat)(ρ:Ev)(k:Addr->List D->Prop):Prop:=match ρ[i]? with
 |some (.own a xs)=>k a xs
 |_=>False
theorem iw{i:Nat}{ρ:Ev}{k:Addr->List D->Prop}(h:Af i ρ k):∃a xs,ρ[i]?=some (.own a xs)/\k a xs:=by
 unfold Af at h
 cases q:ρ[i]? with
 |none=>rw[q]at h;exact h.elim
 | some l =>
  rw[q]at h
  cases l with
  |own a xs=>exact⟨a,xs,rfl,h⟩
  |un=>exact h.elim
  |d x=>exact h.elim
  |bx _ _=>exact h.elim
  |dic _ _=>exact h.elim
def HI(i:Nat)(te:W L):W L:=λρ kz=>Af i ρ λ_ _=>te ρ λr ρ1=>Uy r λy=>Af i ρ1 λa xs=>xs.length<sizeLine/\kz (.d .non) (ρ1.set i (.own a (xs++[y])))
theorem eD(i:Nat)(he:PL X e te)(hN:autoParam (X.N[i]?=some x) acE)(hv:autoParam (Tn X.env.scope x) acI) (hd:autoParam ((x == ("__debug__" : Str))=false) acG)
  (hcd:autoParam ((x == ("__classdict__" : Str))=false) acG) (hs1:autoParam (starEach [e] X.env=[(false,eval e X.env)]) acE) (hbase:autoParam (attributeBase (.Name x p) "append" X.env (eval (.Name x p) X.env)=eval (.Name x p) X.env) acE)
  (hfew:((backTo cpos (starEach [e] X.env)).all (λx=>!x.1) && (backToKw cpos (keywordEach [] X.env)).all (λx=>x.1.isSome)
   && decide (([e]).length+([]:List Keyword).length+(if([]:List Keyword).isEmpty then 0 else 1)<30))=true:=by rfl)
  (hline:autoParam ((apos.endLine == cpos.line)=true) acE) (hplain:autoParam ((backTo cpos (starEach ([]:List Expr) X.env)).any (·.1)=false) acE) :
  PL X (.Call (.Attribute (.Name x p) "append" apos) [e] [] cpos) (HI i te):=by
 refine PL.of (Lr PySem.F.plainAttrs_list PySem.F.slot_list_append PySem.F.type_list_append yn (jg hN hv hd hcd) (cx (aA he).pe jv hs1) (hbase:=hbase) (hfew:=hfew) (hline:=hline) (hs:=hs1) (hplain:=hplain)) λσ H Pr ρ kz E h=>?_;obtain⟨l,xs0,q0,h⟩:=iw h;obtain⟨hσ,vs0,hl0,_⟩:=E.ownAt q0
 refine⟨.ref l,hσ,.inl ⟨rfl,vs0,Tz.of hl0⟩,Pr,ρ,λr ρ1=>match r with
  |.d y=>Af i ρ1 λa xs=>xs.length<sizeLine/\kz (.d .non) (ρ1.set i (.own a (xs++[y])))
  |_=>False,E,h,λv H' r ρ' E' pp=>?_⟩
 cases r with
 | d y =>
  obtain⟨l',xs,q,fI,pp⟩:=iw pp;obtain⟨hσ',vs,hl,r⟩:=E'.tail.ownAt q;rw[hσ]at hσ';cases hσ';obtain⟨_,e1,p1⟩:=E'.head_d;cases e1;exact⟨l,vs,v,rfl,rfl,hl,by rw[r.length];exact fI,_,_,(E'.tail.updOwn q (r.append (.cons p1 .nil))).cons_d .non,pp⟩
 |_=>exact pp.elim
def D9(i:Nat)(tb:W L):W L:=λρ kz=>Af i ρ λ_ _=>tb ρ λr ρ1=>ma r λj=>Af i ρ1 λ_ xs=>∃y,Ud xs j=some y/\kz (.d y) ρ1
theorem lq(i:Nat)(hb:PL X b tb)(hs:Ao b)(hN:autoParam (X.N[i]?=some x) acE)(hv:autoParam (Tn X.env.scope x) acI) (hd:autoParam ((x == ("__debug__" : Str))=false) acG)
  (hcd:autoParam ((x == ("__classdict__" : Str))=false) acG):PL X (.Subscript (.Name x p) b pos) (D9 i tb):=by
 refine PL.of (QZ Er (jg hN hv hd hcd) hb.pe hs) λσ H Pr ρ kz E h=>?_;obtain⟨l,xs0,q0,h⟩:=iw h;obtain⟨hσ,vs0,hl0,_⟩:=E.ownAt q0;refine⟨.ref l,hσ,Pr,ρ,_,E,h,λv H' r ρ' E' pp=>?_⟩;obtain⟨j,rfl,pp⟩:=cX pp;obtain⟨l',xs,q,y,hy,pp⟩:=iw pp;obtain⟨hσ',vs,hl,r⟩:=E'.tail.ownAt q;rw[hσ]at hσ';cases hσ';obtain⟨_,e1,p1⟩:=E'.head_d;cases e1;obtain rfl:=Us.inv_int p1;obtain⟨w,hw,rw⟩:=Az r hy;exact⟨l,vs,j,w,rfl,rfl,Tz.of hl,hw,_,ρ',E'.tail.cons_d rw,pp⟩
def LU(i:Nat):W L:=λρ kz=>Af i ρ λ_ xs=>kz (.d (.int xs.length)) ρ
theorem LV(i:Nat) (hg:Gl X "len") (hm:X.mg "len"=none) (hN:autoParam (X.N[i]?=some x) acE) (hv:autoParam (Tn X.env.scope x) acI) (hd:autoParam ((x == ("__debug__" : Str))=false) acG)
  (hcd:autoParam ((x == ("__classdict__" : Str))=false) acG) (h1:autoParam (starEach [.Name x p] X.env=[(false,eval (.Name x p) X.env)]) acE) (hpl:autoParam ((backTo pos (starEach ([]:List Expr) X.env)).any (·.1)=false) acE) :
  PL X (.Call (.Name "len" apos) [.Name x p] [] pos) (LU i):=by
 refine PL.of (vN pY hg hm PySem.boot_len (cx (jg hN hv hd hcd) jv h1) (he:=h1) (hpl:=hpl)) λσ H Pr ρ kz E h=>?_;obtain⟨l,xs0,q0,h⟩:=iw h;obtain⟨hσ,vs0,hl0,r⟩:=E.ownAt q0;exact⟨.ref l,hσ,l,vs0,rfl,.inl (Tz.of hl0),_,ρ,E.cons_d (.int _),by rw[r.length];exact h⟩
def EW(i:Nat)(tb te:W L):W Fl:=λρ kz=>te ρ λr ρ1=>Uy r λy=>Af i ρ1 λ_ _=>tb ρ1 λr ρ2=>ma r λj=>Af i ρ2 λa xs=>∃k,Uc xs.length j=some k/\kz .nx (ρ2.set i (.own a (xs.set k y)))
theorem AA(i:Nat){b:Expr}{ps:Pos}(hb:PL X b tb)(he:PL X e te)(hN:autoParam (X.N[i]?=some x) acE)(hv:autoParam (Tn X.env.scope x) acI) (hd:autoParam ((x == ("__debug__" : Str))=false) acG)
  (hcd:autoParam ((x == ("__classdict__" : Str))=false) acG)
  (ha:∀v,assign (.Subscript (.Name x p) b ps) X.env v=(do
   let ov <- holding [v] (eval (.Name x p) X.env)
   let iv <- holding [v,ov] (eval b X.env)
   standAt ps
   holding [v,ov,iv] (setItem ov iv v)
   release [v,ov,iv] []):=by intro _;rfl)
  (hs:autoParam (swapsWithSole [.Subscript (.Name x p) b ps] e pos.line X.env=pure false) acE) (hw:autoParam (swappedStores [.Subscript (.Name x p) b ps] e X.env=pure none) acE)
  (h1:autoParam ((assignEach [.Subscript (.Name x p) b ps] X.env).map (·.2)=[assign (.Subscript (.Name x p) b ps) X.env]) acE):PM X (.Assign [.Subscript (.Name x p) b ps] e pos) (EW i tb te):=by
 refine PM.of (Om (aA he).pe (Ol (jg hN hv hd hcd) hb.pe HW ha) hs hw h1) λσ H Pr ρ kz fI E h=>?_
 refine⟨Pr,ρ,λr ρ1=>match r with
  |.d y=>Af i ρ1 λ_ _=>tb ρ1 λr ρ2=>ma r λj=>Af i ρ2 λa xs=>∃k,Uc xs.length j=some k/\kz .nx (ρ2.set i (.own a (xs.set k y)))
  |_=>False,E,h,λv H' r ρ' E' pp=>?_⟩
 cases r with
 | d y =>
  obtain⟨l,xs0,q0,pp⟩:=iw pp;obtain⟨hσ,vs0,hl0,_⟩:=E'.tail.ownAt q0;refine⟨.ref l,hσ,bM H' ρ',ρ',_,E'.tail.wide,pp,λw H2 r2 ρ2 E2 pp=>?_⟩;obtain⟨j,rfl,pp⟩:=cX pp;obtain⟨l',xs,q,k,hk,pp⟩:=iw pp;obtain⟨_,e1,p1⟩:=E2.head_d;cases e1;obtain rfl:=Us.inv_int p1;have E3:aG X.K Pr H2 (some (.int j)::some v::σ) (.d (.int j)::.d y::ρ2):=aG.step (τ:=[some v]) (lam:=[.d y]) (w:=[some (.int j)]) (μ:=[.d (.int j)]) E' rfl E2 rfl;obtain⟨_,e1,p1⟩:=E3.tail.head_d;cases e1;obtain⟨hσ',vs,hl,r⟩:=E3.tail.tail.ownAt q;rw[hσ]at hσ';cases hσ';refine⟨l,vs,j,k,rfl,rfl,hl,by rw[r.length];exact hk,_,E3.tail.tail.updOwn q (r.set p1 k),pp⟩
 |_=>exact pp.elim
def Da:Option (W L)->Ev->(Option Int->Ev->Prop)->Prop
 |none=>λρ k=>k none ρ
 |some t=>λρ k=>t ρ λr ρ1=>ma r λi=>k (some i) ρ1
noncomputable def rM{α:Type}(xs:List α)(lo hi:Option Int):List α:=(xs.drop (HT.sIx xs.length 0 lo)).take (HT.sIx xs.length xs.length hi-HT.sIx xs.length 0 lo)
end
noncomputable def bE:List Nat->Ev->Ev
 |[],ρ=>ρ
 |j::r,ρ=>(bE r ρ).set j .un
noncomputable def cS(fi:List Nat)(ρ:Ev):Ev:=fi.map λj=>(ρ[j]?).getD .un
noncomputable def cq(fi:List Nat)(σ:St):St:=fi.map λj=>(σ[j]?).getD none
noncomputable def fu:List Nat->Ev->Ev->Ev
 |j::r,c::cs,ρ=>fu r cs (ρ.set j c)
 |_,_,ρ=>ρ
theorem fv:∀(fi:List Nat)(ρ:Ev),(bE fi ρ).length=ρ.length
 |[],_=>rfl
 |j::r,ρ=>by unfold bE;rw[List.length_set,fv r ρ]
theorem yB:∀(fi:List Nat)(ρ:Ev)(j:Nat),j∉fi->(bE fi ρ)[j]?=ρ[j]?
 |[],_,_,_=>rfl
 | i::r,ρ,j,h=>by unfold bE;rw[aae (λe=>h (by simp[e])),yB r ρ j λe=>h (p3 _ e)]
theorem B0:∀(fi:List Nat)(ρ:Ev)(j:Nat),j∈fi->j<ρ.length->(bE fi ρ)[j]?=some .un
 | i::r,ρ,j,h,hl=>by
  unfold bE;by_cases e:i=j
  . subst e;rw[Zw (by rw[fv];exact hl)]
  . rw[aae e];exact B0 r ρ j ((XW.mp h).resolve_left λz=>e z.symm) hl
section
variable{K:W.Frag}{Pr H:Hp}{σ:St}{ρ:Ev}
theorem aG.takeAt(E:aG K Pr H σ ρ){i:Nat}{l:L}{s:Option V}(h:ρ[i]?=some l)(hs:σ[i]?=some s):aG K Pr H (s::σ) (l::ρ.set i .un):=E.outL h hs
theorem aG.takes(E:aG K Pr H σ ρ):∀(fi:List Nat),fi.Nodup->(∀j∈fi,j<ρ.length)->aG K Pr H (cq fi σ++σ) (cS fi ρ++bE fi ρ)
 |[],_,_=>E
 | j::r,nd,hl=>by
  have ih:=E.takes r (Yr.mp nd).2 λi hi=>hl i (p3 _ hi);have hj:j<ρ.length:=hl j XU;have hjs:j<σ.length:=by rw[E.len];exact hj
  have e1:(cS r ρ++bE r ρ)[r.length+j]?=some ρ[j]:=by rw[Yg (by simp[cS])];simp only[cS,tv,YY];rw[yB r ρ j (Yr.mp nd).1];exact gV hj
  have e2:(cq r σ++σ)[r.length+j]?=some σ[j]:=by rw[Yg (by simp[cq])];simp only[cq,tv,YY];exact gV hjs
  have z:=ih.takeAt e1 e2;rw[Z8 _ _ (by simp[cS])]at z;simp only[cS,tv,YY]at z;have c1:cq (j::r) σ=σ[j]::cq r σ:=by simp[cq,hjs]
  have c2:cS (j::r) ρ=ρ[j]::cS r ρ:=by simp[cS,hj]
  rw[c1,c2];exact z
theorem aG.backs:∀(fi:List Nat){cs ρ:Ev},fi.Nodup->cs.length=fi.length->(∀j∈fi,ρ[j]?=some .un)->(∀j∈fi,j<σ.length)->aG K Pr H (cq fi σ++σ) (cs++ρ)->aG K Pr H σ (fu fi cs ρ)
 |[],[],ρ,_,_,_,_,E=>E
 | j::r,c::cs,ρ,nd,hl,hu,hs,E=>by
  have hjs:j<σ.length:=hs j XU;have hj:=hu j XU;have c1:cq (j::r) σ=σ[j]::cq r σ:=by simp[cq,hjs]
  rw[c1]at E;have hlr:cs.length=r.length:=by simpa using hl
  have z:=aG.back (σ:=cq r σ++σ) (ρ:=cs++ρ) (l:=c) E (i:=r.length+j) (by
   rw[Yg xL,hlr,YY];exact hj) (by
   rw[Yg (by simp[cq])];simp only[cq,tv,YY]
   exact gV hjs)
  rw[Z8 _ _ xL,hlr,YY]at z
  exact aG.backs r (Yr.mp nd).2 hlr (λi hi=>by
   rw[aae (λe=>(Yr.mp nd).1 (by rw[e];exact hi))];exact hu i (p3 _ hi)) (λi hi=>hs i (p3 _ hi)) z
 |[],_::_,_,_,hl,_,_,_=>by simp at hl
 |_::_,[],_,_,hl,_,_,_=>by simp at hl
end
noncomputable def Dc(cells:List (Str×Addr)):List (Str×NameKind)->List (Str×Addr)->List (Str×Addr)
 |[],acc=>acc
 |(n,k)::r,acc=>Dc cells r (if k == .free then(match cells.lookup n with|some c=>(n,c)::acc|none=>acc)else acc)
theorem oZ{env:Env}:∀(names:List (Str×NameKind))(acc:List (Str×Addr)),(∀x∈names,x.2=.free->∃c,env.cells.lookup x.1=some c) ->
  (forIn names acc λ(x:Str×NameKind) (cs:List (Str×Addr))=>(if x.2 == .free then do let c <- cellOf env x.1;pure (ForInStep.yield ((x.1,c)::cs))else pure (ForInStep.yield cs):Sem (ForInStep (List (Str×Addr)))))=pure (Dc env.cells names acc)
 |[],acc,_=>rfl
 | (n,k)::r,acc,h=>by
  rw[List.forIn_cons];by_cases hk:(k == NameKind.free)=true
  .
   obtain⟨c,hc⟩:=h (n,k) XU (by simpa using hk);have e:cellOf env n=pure c:=by unfold cellOf;rw[show env.cells.lookup n=some c from hc]
   simp only[hk,Zh,e,pure_bind,Dc,hc];exact oZ r _ λx hx=>h x (p3 _ hx)
  . simp only[hk,Dc,ZH,pure_bind];exact oZ r _ λx hx=>h x (p3 _ hx)
theorem vY{scope:Scope}{env:Env}(h:∀x∈scope.names,x.2=.free->∃c,env.cells.lookup x.1=some c):closureFor scope env=pure (Dc env.cells scope.names []):=by have:=oZ (env:=env) scope.names [] h;unfold closureFor;simp only[bind_pure_comp]at this ⊢;rw[this];rfl
theorem B1{cells:List (Str×Addr)}:∀(names:List (Str×NameKind))(acc:List (Str×Addr)),(∀x c,acc.lookup x=some c->cells.lookup x=some c)->∀x c,(Dc cells names acc).lookup x=some c->cells.lookup x=some c
 |[],acc,h,x,c,e=>h x c e
 | (n,k)::r,acc,h,x,c,e=>by
  unfold Dc at e;refine B1 r _ (λy d ey=>?_) x c e;split at ey
  .
   split at ey
   .
    rename_i q;rw[YJ]at ey;split at ey
    .
     rename_i e2;have:y=n:=by simpa using e2
     cases ey;rw[this];exact q
    . exact h y d ey
   . exact h y d ey
  . exact h y d ey
theorem qF{n:Str}{c:Addr}{acc:List (Str×Addr)}{x:Str}(h:∃d,acc.lookup x=some d):∃d,((n,c)::acc).lookup x=some d:=by
 rw[YJ];split
 . exact⟨_,rfl⟩
 . exact h
theorem vZ{cells:List (Str×Addr)}:∀(names:List (Str×NameKind))(acc:List (Str×Addr))(x:Str),((∃d,acc.lookup x=some d)∨((x,NameKind.free)∈names/\∃c,cells.lookup x=some c))->∃d,(Dc cells names acc).lookup x=some d
 | [],acc,x,h=>by
  rcases h with h|⟨h,_⟩
  . exact h
  . simp at h
 | (n,k)::r,acc,x,h=>by
  unfold Dc;refine vZ r _ x ?_;rcases h with h|⟨hm,c,hc⟩
  .
   left;split
   .
    split
    . exact qF h
    . exact h
   . exact h
  .
   rcases XW.mp hm with e|hm
   . cases e;left;simp only[hc,beq_self_eq_true,Zh];exact⟨c,by simp[YJ]⟩
   . exact .inr ⟨hm,c,hc⟩
noncomputable def jj(X:Cx)(scope:Scope)(cl:List (Str×Addr))(Nb:List Str)(s₀:Shared)(H₀:Hp)(fp:List Addr):Cx :=
 {X with N:=Nb,s₀:=s₀,H₀:=H₀,env:=compEnvC scope cl s₀.heap.objs.size X.env,outer:=X.stack,stack:=X.stack,ex:=fp,fn:=λ_=>false,pn:=[],xe:=λ_ _=>False}
theorem kK{α β:Type}{F:α->β->Prop}:∀{a:List α}{b:List β},Paired F a b↔a.length=b.length/\∀p∈a.zip b,F p.1 p.2
 |[],[]=>⟨λ_=>⟨rfl,λ_ h=>by simp at h⟩,λ_=>.nil⟩
 |[],_::_=>⟨(λh=>nomatch h),λh=>by simp at h⟩
 |_::_,[]=>⟨(λh=>nomatch h),λh=>by simp at h⟩
 | x::a,y::b=>by
  constructor
  .
   intro h
   cases h with
   | cons r t =>
    obtain⟨h1,h2⟩:=kK.mp t
    exact⟨by simp[h1],λp hp=>by
     rw[YR]at hp;rcases XW.mp hp with rfl|hp
     . exact r
     .
      exact h2 p hp⟩
  . rintro⟨hl,h⟩;exact .cons (h (x,y) x_) (kK.mpr ⟨by simpa using hl,λp hp=>h p (by rw[YR];exact p3 _ hp)⟩)
theorem v3:∀{σ:St}{ρ:Ev},σ.length=ρ.length->(σ.zip ρ).map (·.2)=ρ
 |[],[],_=>rfl
 | _::σ,l::ρ,h=>by have ih:=v3 (σ:=σ) (ρ:=ρ) (by simpa using h);rw[YR,X7,ih]
 |[],_::_,h=>by simp at h
 |_::_,[],h=>by simp at h
theorem aG.rearr{K:W.Frag}{Pr H:Hp}{σ σ2:St}{ρ ρ2:Ev}(E:aG K Pr H σ ρ)(hl:σ2.length=ρ2.length)(extra:List (Option V×L))(h:(σ.zip ρ).Perm (σ2.zip ρ2++extra)):aG K Pr H σ2 ρ2:=by
 have pm:(owns ρ).Perm (owns ρ2++owns (extra.map (·.2))):=by have q:=nc (h.map (·.2));rw[Yq,v3 E.len,v3 hl,aK]at q;exact q
 refine⟨E.sub,(Y5.mp (pm.nodup_iff.mp E.nd)).1,λa ha=>E.off a (pm.mem_iff.mpr (Yz _ ha)),kK.mpr ⟨hl,λp hp=>?_⟩⟩;exact(kK.mp E.sl).2 p (h.mem_iff.mpr (Yz _ hp))
theorem yC{fi:List Nat}{σ τ:St}(h:∀j∈fi,j<σ.length):cq fi (σ++τ)=cq fi σ:=by unfold cq;refine Yu λj hj=>?_;rw[Ym (h j hj)]
theorem Dd{fi:List Nat}{σ τ:Ev}(h:∀j∈fi,j<σ.length):cS fi (σ++τ)=cS fi σ:=by unfold cS;refine Yu λj hj=>?_;rw[Ym (h j hj)]
theorem yD{τ:Ev}:∀{fi:List Nat}{ρ:Ev},(∀j∈fi,j<ρ.length)->bE fi (ρ++τ)=bE fi ρ++τ
 |[],_,_=>rfl
 | j::r,ρ,h=>by unfold bE;rw[yD λi hi=>h i (p3 _ hi),List.set_append_left _ _ (by rw[fv];exact h j XU)]
theorem vi{τ:Ev}:∀{fi:List Nat}{cs ρ:Ev},(∀j∈fi,j<ρ.length)->fu fi cs (ρ++τ)=fu fi cs ρ++τ
 |[],[],_,_=>rfl
 |[],_::_,_,_=>rfl
 |_::_,[],_,_=>rfl
 | j::r,c::cs,ρ,h=>by unfold fu;rw[List.set_append_left _ _ (h j XU)];exact vi λi hi=>by rw[List.length_set];exact h i (p3 _ hi)
theorem c7{env:Env}:∀{names:List (Str×NameKind)}{x:Str},names.lookup x=some .free ->
  (names.map λ(n,k)=>if(k == NameKind.free && env.scope.kind == .function && env.kindOf n == some .cell)then(n,NameKind.cell)else(n,k)).lookup x=some .cell ∨
  (names.map λ(n,k)=>if(k == NameKind.free && env.scope.kind == .function && env.kindOf n == some .cell)then(n,NameKind.cell)else(n,k)).lookup x=some .free
 |[],_,h=>by simp at h
 | (n,k)::r,x,h=>by
  have ih:=@c7 env r x;rw[X7]
  cases hx:x == n with
  | true =>
   simp only[YJ,hx]at h;cases h;dsimp only;by_cases hc:(NameKind.free == NameKind.free && env.scope.kind == .function && env.kindOf n == some .cell)=true
   . left;rw[if_pos hc];simp[YJ,hx]
   . right;rw[if_neg hc];simp[YJ,hx]
  | false =>
   simp only[YJ,hx]at h;dsimp only;by_cases hc:(k == NameKind.free && env.scope.kind == .function && env.kindOf n == some .cell)=true
   . rw[if_pos hc];simp only[YJ,hx];exact ih h
   . rw[if_neg hc];simp only[YJ,hx];exact ih h
theorem iy{env:Env}:∀{names:List (Str×NameKind)}{x:Str}{k:NameKind},(∀y∈names,y.2≠.cell)->(k=.cell∨k=.free) ->
  (names.map λ(n,k)=>if(k == NameKind.free && env.scope.kind == .function && env.kindOf n == some .cell)then(n,NameKind.cell)else(n,k)).lookup x=some k->(x,NameKind.free)∈names
 |[],_,_,_,_,h=>by simp at h
 | (n,k0)::r,x,k,hc,hk,h=>by
  rw[X7]at h
  (try dsimp only at h)
  by_cases q:(k0 == NameKind.free && env.scope.kind == .function && env.kindOf n == some .cell)=true
  .
   rw[if_pos q,YJ]at h;have e0:k0=.free:=by have:=(aak.mp (aak.mp q).1).1;simpa using this
   split at h
   .
    rename_i e;have:x=n:=by simpa using e
    subst this e0;exact XU
   . exact p3 _ (iy (λy hy=>hc y (p3 _ hy)) hk h)
  .
   rw[if_neg q,YJ]at h;split at h
   .
    rename_i e;have:x=n:=by simpa using e
    subst this;have e1:k0=k:=by simpa using h
    subst e1;rcases hk with z|z
    . exact absurd z (hc (x,k0) XU)
    . subst z;exact XU
   . exact p3 _ (iy (λy hy=>hc y (p3 _ hy)) hk h)
section
variable{prog:Program}{w:World}{A:Around}{R:Result->Shared->Prop}
theorem EX{elt target iter:Expr}{ifs:List Expr}{scope:Scope}{pos:Pos}{it acc:Value}{env:Env}(I:Nat->Shared->Prop)
  (turn:∀n s,I n s->wpAny (model prog w) A (pyNext it) (λr s₁=>match r with
   |none=>R (.ok .next) s₁
   | some v=>wpAny (model prog w) A (letOwnedTupleGo target it v) (λ_ s₀=>wpAny (model prog w) A (assign target env v) (λ_ s₂ =>
     wpAny (model prog w) A (forIn ifs true λc r=>if r=true then do let ok <- isTrue c env (eval c env);pure (ForInStep.yield ok)else pure (ForInStep.yield r)) (λok s₃ =>
      if ok=true then wpAny (model prog w) A (eval elt env) (λx s₄ =>
       wpAny (model prog w) A (call (.builtin "list.append") [acc,x]) (λ_ s₅=>∃ m,m < n/\I m s₅) (λ_ _=>False) s₄) (λ_ _=>False) s₃
      else ∃m,m<n/\I m s₃) (λ_ _=>False) s₂) (λ_ _=>False) s₀) (λ_ _=>False) s₁) (λ_ _=>False) s)
  (n:Nat) {s:Shared} (h:I n s) :
  codeAny (model prog w) A (.compLoop (.ListComp elt [⟨target,iter,ifs,0⟩] scope pos) 0 it acc env) R s:=by
 refine codeAny_loop rfl I (λn s hI=>?_) n h
 show wpAny _ A ((compTurn (.ListComp elt [⟨target,iter,ifs,0⟩] scope pos) 0 it acc env).onRaise (λx=>do noteFrame x env;theTreesLotGoes x)) _ _ s
 refine wpAny_noted ?_;rw[compTurn_list];have fe:∀{α:Type}{t:Sem α}{Q:α->Shared->Prop}{E:Value->Shared->Prop}{s:Shared},wpAny (model prog w) A t Q (λ_ _=>False) s->wpAny (model prog w) A t Q E s:=λh=>aal h (λ_ _ q=>q) λ_ _ z=>z.elim;refine kS (wpAny_standAt (kS (aal (turn n s hI) (λr s₁ h₁=>?_) λ_ _ h'=>h'.elim)))
 cases r with
 |none=>exact X3 h₁
 | some v =>
  refine kS (aal h₁ (λ_ s₀ h₀=>?_) λ_ _ z=>z.elim);refine kS (aal h₀ (λ_ s₂ h₂=>kS (aal h₂ (λok s₃ h₃=>?_) λ_ _ h'=>h'.elim)) λ_ _ h'=>h'.elim)
  cases ok with
  |false=>exact X3 ⟨rfl,h₃⟩
  | true =>
   exact kS (kS (aal h₃ (λx s₄ h₄=>kS (aal h₄ (λ_ s₅ h₅=>X3 (X3 ⟨rfl,h₅⟩)) λ_ _ h'=>h'.elim)) λ_ _ h'=>h'.elim))
end
def UP(X:Cx)(tg:Expr)(n:Nat)(g:Tg):Prop:=∃gg:TG,PG X tg gg/\∀v σ H Pr ρ x k,σ.length=X.N.length->aG X.K Pr H σ ρ->Us X.K H v x->g x ρ k->gg v σ H λσ' H'=>H'=H/\σ'.drop n=σ.drop n/\∃ρ',aG X.K Pr H σ' ρ'/\k ρ'
theorem bf{X:Cx}{i n:Nat}{x:Str}{pos:Pos}(hn:i<n)(hN:X.N.Nodup)(hi:X.N[i]?=some x)(hx:To X.env.scope x)(hf:autoParam (X.fn x=true∨X.env.scope.names.lookup x=some .local) acK):UP X (.Name x pos) n (aR i) :=
 ⟨_,vL hN hi hx hf,λv σ H Pr ρ x k hl E r h=>⟨rfl,by rw[List.drop_set_of_lt hn],_,(E.cons_d r).store (by rw[hl];exact(tu.mp hi).1),h⟩⟩
def UQ(X:Cx)(ifs:List Expr)(t:W Bool):Prop :=
 ∀(ab:List (Addr×Obj))(s:Shared)(σ:St)(H Pr:Hp)(ρ:Ev)(kz:Bool->Ev->Prop),Tp X ab σ H s->aG X.K Pr H σ ρ->t ρ kz ->
  wpAny (model X.prog X.w) X.A (forIn ifs true λc r=>if r=true then do let ok <- isTrue c X.env (eval c X.env);pure (ForInStep.yield ok)else pure (ForInStep.yield r)) (EB X ab σ Pr kz) X.xe s
def bW:W Bool:=λρ kz=>kz true ρ
theorem a9{X:Cx}:UQ X [] bW:=λab s σ H Pr ρ kz I E h=>wpAny_tests_nil ⟨H,ρ,I,E,h⟩
theorem mh{X:Cx}{c:Expr}{t:W Bool}(h:PB X c t):UQ X [c] t:=λab s σ H Pr ρ kz I E ht=>wpAny_tests_one (h ab s σ H Pr ρ kz I E ht)
def dG(g:Tg)(ti:W Bool)(te:W L):List D->Ev->List D->(List D->Ev->Prop)->Prop
 |[],ρ,acc,k=>k acc ρ
 |x::xs,ρ,acc,k=>g x ρ λρ1=>ti ρ1 λb ρ2=>if b=true then te ρ2 λr ρ3=>Uy r λy=>dG g ti te xs ρ3 (acc++[y]) k else dG g ti te xs ρ2 acc k
def bK(n:Nat)(fi:List Nat)(src:W (List D))(g:Tg)(ti:W Bool)(te:W L):W L:=λρ kz=>src ρ λxs ρ1=>xs.length<=sizeLine /\
 dG g ti te xs (List.replicate n .un++cS fi ρ1) [] λys ρb=>∀a,kz (.own a ys) (fu fi (ρb.drop n) (bE fi ρ1))
section
variable{X:Cx}
theorem yE{elt tg iter:Expr}{ifs:List Expr}{scope sc:Scope}{pos:Pos}{N Nt Nf:List Str}{fi:List Nat}{src:W (List D)}{g:Tg}{ti:W Bool}{te:W L}
  (hsc:X.env.scope=sc) (hXN:X.N=N) (hc:X.calm=true) (hi:UJ X tg iter src)
  (hkind:scope.kind=.function) (hnames:∀x∈scope.names,x.2=.local->scope.names.lookup x.1=some .local) (hcell:∀y∈scope.names,y.2≠.cell)
  (hfr:∀x∈scope.names,x.2=.free->sc.names.lookup x.1=some .cell∨sc.names.lookup x.1=some .free)
  (hnd:fi.Nodup) (hNf:Nf.map some=fi.map (λj=>N[j]?)) (hNk:∀x∈Nf,scope.names.lookup x=some .free) (hfl:∀j∈fi,j<N.length)
  (hg:∀cl s₀ H₀ fp,UP (jj X scope cl (Nt++Nf) s₀ H₀ fp) tg Nt.length g) (hti:∀cl s₀ H₀ fp,UQ (jj X scope cl (Nt++Nf) s₀ H₀ fp) ifs ti) (hte:∀cl s₀ H₀ fp,PL (jj X scope cl (Nt++Nf) s₀ H₀ fp) elt te)
  {ab:List (Addr×Obj)} {s:Shared} {σ:St} {H Pr:Hp} {ρ:Ev} {kz:L->Ev->Prop} {use:Option (Value->Sem Unit)} {Q:Value->Shared->Prop} (I:Tp X ab σ H s) (E:aG X.K Pr H σ ρ) (h:bK Nt.length fi src g ti te ρ kz)
  (hRR:∀D C s7 H6 acc ρ'' m,Tp X ab σ H6 s7->s7.heap.Ns C m->H6 C=none->C≠X.env.locals->X.s₀.heap.objs.size<=C->(∀x c,X.env.cells.lookup x=some c->c≠C)->(∀p∈X.pn++ab,p.1≠C)->aG X.K Pr H6 (some (.ref D)::σ) (.own D acc::ρ'')->kz (.own D acc) ρ'' ->
   compPost (model X.prog X.w) X.A X.xe use Q (.ref D) C (.ok .next) s7)
  (hs:∀x,foldedSetIterable iter X.env x=pure x):wpAny (model X.prog X.w) X.A (comprehension (.ListComp elt [⟨tg,iter,ifs,0⟩] scope pos) scope X.env (firstIterPos [⟨tg,iter,ifs,0⟩] pos) (newList []) false (eval iter X.env) use) Q X.xe s:=by
 have hcells:∀x∈scope.names,x.2=.free->∃c,X.env.cells.lookup x.1=some c:=λx hx hk=>I.ok.has x.1 (by
  show X.env.scope.names.lookup x.1=_∨X.env.scope.names.lookup x.1=_
  rw[hsc];exact hfr x hx hk)
 have hsub:=B1 (cells:=X.env.cells) scope.names [] (λx c e=>by simp at e);refine wpAny_comprehension_free (use:=use) rfl hs (vY hcells) hkind hnames (Tu (hi ab s σ H Pr ρ _ I E h) λv s1 h1=>Tu h1 λitv s2 h2=>?_);obtain⟨it,fp,tn,J,H2,xs,ρ2,e,I2,T,st2,f2,E2,G,fI,w0⟩:=h2;subst e;refine ZI (T:="list") ?_;generalize hD:s2.heap.objs.size=D;have fD:H2 D=none:=by rw[<- hD];exact I2.fresh
 have I3:Tp X ab σ (Te H2 D (.lst [])) {s2 with heap:=s2.heap.push {cls:=.type "list",dict:=none,data:=.seq ([]:List Value).toArray} }:=by have:=Tp.lnew (ys:=[]) (its:=[]) (t':=s2.toks) I2 .nil (YO _);rw[hD]at this;exact this
 have E3:=E2.cons_own (p:=D) (vs:=[]) (xs:=[]) fD .nil;have sz3:(s2.heap.push {cls:=.type "list",dict:=none,data:=.seq ([]:List Value).toArray}).objs.size=D+1:=by rw[Heap.size_push,hD]
 generalize hs3:({s2 with heap:=s2.heap.push {cls:=.type "list",dict:=none,data:=.seq ([]:List Value).toArray} }:Shared)=s3 at I3;have hs3h:s3.heap=s2.heap.push {cls:=.type "list",dict:=none,data:=.seq ([]:List Value).toArray}:=by rw[<- hs3]
 have fpD:∀b∈fp,b≠D:=λb hb=>by obtain⟨o,e,_⟩:=T.obj 0 _ st2 b hb;rw[<- hD];exact Yi (X2 e)
 have old3:∀b o,s2.heap.get? b=some o->s3.heap.get? b=some o:=λb o e=>by rw[hs3h];exact p4 _ e
 refine wpAny_newFunctionEnv (around:=some X.env) hcell (by intro y hy;simp at hy) (λh4 hns4 hsb4=>?_) hkind
 have hns4':h4.Ns s3.heap.objs.size (λ_=>none):=by
  have:(λx=>(([]:List (Str×Value)).reverse.lookup x))=λ_=>(none:Option Value):=by funext x;rfl
  rw[this]at hns4;exact hns4
 have old4:∀b o,s3.heap.get? b=some o->h4.get? b=some o:=λb o e=>by rw[hsb4.2 b (Yi (X2 e))];exact p4 _ e
 have hσl:σ.length=N.length:=by rw[<- hXN];exact I.len
 have hρ2:σ.length=ρ2.length:=E2.len;have hjσ:∀j∈fi,j<σ.length:=λj hj=>by rw[hσl];exact hfl j hj
 have hjρ:∀j∈fi,j<ρ2.length:=λj hj=>by rw[<- hρ2];exact hjσ j hj
 have hfpl:∀b∈fp,b<s3.heap.objs.size:=λb hb=>by obtain⟨o,e,_⟩:=T.obj 0 _ st2 b hb;exact X2 (old3 b o e)
 have hlNf:Nf.length=fi.length:=by have:=Zy List.length hNf;simpa using this
 have Bok:(jj X scope (Dc X.env.cells scope.names []) (Nt++Nf) s3 (Te H2 D (.lst [])) fp).Ok:=by
  refine⟨I3.ok.mod,hkind,I.ok.glob,I.ok.blt,XZ _,λx y c e1 e2=>I.ok.inj x y c (hsub x c e1) (hsub y c e2),λx hx=>?_,λx c hf _=>(YC hf).elim,I.ok.hd,I.ok.frames,.inl rfl,λb hb=>⟨Yi (hfpl b hb),λx c e=>(f2 b hb).2.2.2.2.1 x c (hsub x c e)⟩,I3.bs,X0 I.ok.bsz I3.sz,λb o e hb=>?_,λb hb hm=>?_,I3.stack,I3.stkFree,I3.tbs⟩
  .
   have hm:(x,NameKind.free)∈scope.names:=by
    rcases hx with hx|hx
    . exact iy (env:=X.env) hcell (.inl rfl) hx
    . exact iy (env:=X.env) hcell (.inr rfl) hx
   exact vZ scope.names [] x (.inr ⟨hm,hcells _ hm rfl⟩)
  .
   rcases(f2 b hb).2.2.2.1 with z|z
   . exact I.ok.noex b o e z
   . exact absurd (XX (X2 (I.ok.bs b o e).1) z) (Y1 _)
  .
   rcases XW.mp (I3.stkSub b hm)with z|z
   . exact(f2 b hb).2.1 z
   . exact(f2 b hb).2.2.1 z
 have I4:Tp (jj X scope (Dc X.env.cells scope.names []) (Nt++Nf) s3 (Te H2 D (.lst [])) fp) [] (List.replicate Nt.length none++cq fi σ) (Te H2 D (.lst [])) {s3 with heap:=h4,toks:=s3.toks+([]:List (Str×Value)).length}:=by
  refine⟨Bok,rfl,I3.bare,Un.kept old4,⟨_,hns4',λi x v e1 e2 e3=>?_⟩,λx c e=>?_,I3.fresh,λx c e=>(I3.freeC x c (hsub x c e)).imp id λz=>⟨rfl,z.2⟩,λp hp=>absurd (show p∈([]:List (Addr×Obj))from hp) x_,I3.hok.kept old4,?_⟩
  .
   have e1:(Nt++Nf)[i]?=some x:=e1
   have hi':Nt.length<=i:=by
    by_cases q:i<Nt.length
    . rw[Ym (by simpa using q),List.getElem?_replicate]at e2;split at e2<;>cases e2
    . omega
   rw[Yg hi']at e1;rw[Yg (by simpa using hi')]at e2;simp only[List.length_replicate]at e2;generalize i-Nt.length=k at e1 e2;have hk:k<fi.length:=by have:=(tu.mp e1).1;omega
   have e4:(Nf.map some)[k]?=(fi.map λj=>N[j]?)[k]?:=by rw[hNf]
   rw[X1,X1,e1,gV hk]at e4;have e5:N[fi[k]]?=some x:=by simpa using e4.symm
   have e6:σ[fi[k]]?=some (some v):=by unfold cq at e2;rw[X1,gV hk]at e2;have hjl:=hjσ fi[k] (X8 hk);rw[gV hjl];simpa[gV hjl]using e2
   have hxm:x∈Nf:=X4 e1;have hfree:=hNk x hxm;have hmem:(x,NameKind.free)∈scope.names:=ZZ hfree;have hkx:=hfr _ hmem rfl;obtain⟨m,_,hl⟩:=I3.loc;obtain⟨u,ru,lk⟩:=hl fi[k] x v (by rw[hXN];exact e5) e6 (by rw[hsc];exact .inr hkx);refine⟨u,ru,.inr ⟨c7 (env:=X.env) hfree,?_⟩⟩;rcases lk with⟨z,_⟩|⟨_,c,hc1,hc2⟩
   .
    have z:X.env.scope.names.lookup x=some .local:=z;rw[hsc]at z;rcases hkx with q|q
    . rw[z]at q;cases q
    . rw[z]at q;cases q
   .
    obtain⟨d,hd⟩:=vZ (cells:=X.env.cells) scope.names [] x (.inr ⟨hmem,c,hc1⟩);have:d=c:=by have:=hsub x d hd;rw[hc1]at this;exact(YN this).symm
    subst this;obtain⟨o,ho,hdd⟩:=hc2;exact⟨d,hd,o,old4 _ o ho,hdd⟩
  . obtain⟨v,o,ho,hd⟩:=I3.cell x c (hsub x c e);exact⟨v,o,old4 c o ho,hd⟩
  . show(List.replicate Nt.length none++cq fi σ).length=(Nt++Nf).length;simp[cq,hlNf]
 have E4:aG X.K Pr (Te H2 D (.lst [])) (some (.ref D)::(σ++(List.replicate Nt.length none++cq fi σ))) (.own D []::(bE fi ρ2++(List.replicate Nt.length .un++cS fi ρ2))):=by
  have a1:aG X.K Pr (Te H2 D (.lst [])) (σ++[some (.ref D)]) (ρ2++[.own D []]):=E3.rearr (by simp[hρ2]) [] (by
   rw[ZX,Zo hρ2]
   exact(Y8 (l₁:=[(some (V.ref D),L.own D [])]) (l₂:=σ.zip ρ2)))
  have a2:=a1.takes fi hnd λj hj=>by have:=hjρ j hj;simp;omega
  rw[yC hjσ,Dd hjρ,yD hjρ]at a2;have a3:=a2.uns Nt.length;have hcl:(cq fi σ).length=(cS fi ρ2).length:=by simp[cq,cS]
  have hul:σ.length=(bE fi ρ2).length:=by rw[fv];exact hρ2
  refine a3.rearr (by simp[hul,hcl]) [] ?_;have l1:(cq fi σ++(σ++[some (V.ref D)])++List.replicate Nt.length none).zip (cS fi ρ2++(bE fi ρ2++[L.own D []])++List.replicate Nt.length L.un)=((cq fi σ).zip (cS fi ρ2)++(σ.zip (bE fi ρ2)++[(some (V.ref D),L.own D [])]))++(List.replicate Nt.length none).zip (List.replicate Nt.length L.un):=by rw[Zo (by simp only[Yw,hcl,hul];rfl),Zo hcl,Zo hul];rfl
  have l2:(some (V.ref D)::(σ++(List.replicate Nt.length none++cq fi σ))).zip (L.own D []::(bE fi ρ2++(List.replicate Nt.length L.un++cS fi ρ2)))=(some (V.ref D),L.own D [])::(σ.zip (bE fi ρ2)++((List.replicate Nt.length none).zip (List.replicate Nt.length L.un)++(cq fi σ).zip (cS fi ρ2))):=by rw[YR,Zo hul,Zo x_]
  rw[ZX,l1,l2];generalize (cq fi σ).zip (cS fi ρ2)=z1;generalize σ.zip (bE fi ρ2)=z2;generalize (List.replicate Nt.length none).zip (List.replicate Nt.length L.un)=z3;show(z1++(z2++[(some (V.ref D),L.own D [])])++z3).Perm ((some (V.ref D),L.own D [])::(z2++(z3++z1)));have p1:(z1++(z2++[(some (V.ref D),L.own D [])])++z3).Perm ((z2++[(some (V.ref D),L.own D [])])++z3++z1):=by rw[YU];exact Y8
  refine p1.trans ?_;rw[YU,YU];exact List.perm_middle
 clear E3
 let B:Cx:=jj X scope (Dc X.env.cells scope.names []) (Nt++Nf) s3 (Te H2 D (.lst [])) fp
 have hul:σ.length=(bE fi ρ2).length:=by rw[fv];exact hρ2
 have stat:∀{H':Hp},(∀b∈fp,H' b=none)->∀b∈fp,BN B [] H' b:=λhn b hb=>by
  refine⟨hn b hb,Yi (hfpl b hb),λhm=>?_,.inl hb,λx c e=>(f2 b hb).2.2.2.2.1 x c (hsub x c e),λp hp=>absurd (show p∈([]:List (Addr×Obj))from hp) x_⟩;rcases XW.mp (I3.stkSub b hm)with z|z
  . exact(f2 b hb).2.1 z
  . exact(f2 b hb).2.2.1 z
 have loop:∀s5:Shared,s5={s3 with heap:=h4,toks:=s3.toks+([]:List (Str×Value)).length}->codeAny (model X.prog X.w) X.A (.compLoop (.ListComp elt [⟨tg,iter,ifs,0⟩] scope pos) 0 (.ref it) (.ref D) B.env)
   (compPost (model X.prog X.w) X.A X.xe use Q (.ref D) s3.heap.objs.size) s5:=by
  rintro s5 rfl
  refine EX (λn s'=>∃i σ' H' ρ' acc,n+i=xs.length/\Tp B [] σ' H' s'/\tn i s'.heap/\(∀b∈fp,H' b=none)/\σ'.drop Nt.length=cq fi σ/\aG X.K Pr H' (some (.ref D)::(σ++σ')) (.own D acc::(bE fi ρ2++ρ'))/\acc.length<=i /\
   dG g ti te (xs.drop i) ρ' acc λys ρb=>∀a,kz (.own a ys) (fu fi (ρb.drop Nt.length) (bE fi ρ2))) ?_ xs.length
   ⟨0,_,_,_,[],xL,I4,T.keep 0 _ _ st2 λb hb o e=>old4 b o (old3 b o e),λb hb=>by rw[aT (fpD b hb)];exact(f2 b hb).1,x_,E4,XZ _,by simpa using w0⟩
  rintro n s6 ⟨i,σ6,H6,ρ6,acc,hn,I6,st6,fr6,dr6,E6,hal,w6⟩
  have pr:yq H2 H6:=λb o p e=>by
   have ne:b≠D:=λz=>by rw[z,fD]at e;cases e
   have e':B.H₀ b=some o:=by show Te H2 D (.lst []) b=some o;rw[aT ne];exact e
   cases o with
   |tup ys=>exact I6.base.tups b ys e'
   |frz ob u=>exact I6.base.frzs b ob u e'
   |tbl t=>exact I6.base.tbls b t e'
   |_=>exact p.elim
  obtain⟨go,stop⟩:=G H6 pr;have hτ:(some (V.ref D)::σ).length=(L.own D acc::bE fi ρ2).length:=by simp[hul]
  by_cases hlt:i<xs.length
  .
   obtain⟨hgo,hy⟩:=go i xs[i] (gV hlt);rw[List.drop_eq_getElem_cons hlt]at w6;refine Tu (T.item B rfl rfl rfl hc i [] s6 σ6 H6 (λ_ _=>False) I6 (stat fr6) st6 hgo) λr s7 jqz=>?_;obtain⟨u,hr,h7⟩:=jqz;subst hr;refine Tu h7 λ_ s8 jqz=>?_;obtain⟨x,H8,I8,r8,y8,st8,fr8⟩:=jqz;obtain⟨gr,rx⟩:=hy x H8 y8;have I8':=I8.pinned (stat fr8) (T.obj _ _ st8);have E8:=E6.grown gr;have E8a:aG X.K (bM H8 ρ6) H8 σ6 ρ6:=(aG.drop (τ:=some (V.ref D)::σ) (lam:=L.own D acc::bE fi ρ2) E8 hτ).wide;obtain⟨gg,hgg,hgs⟩:=hg (Dc X.env.cells scope.names []) s3 (Te H2 D (.lst [])) fp;refine Tu (hgg _ s8 σ6 H8 x u _ I8' r8 (hgs x σ6 H8 _ ρ6 xs[i] _ I8.len E8a rx w6)) λ_ s9 jqz=>?_;obtain⟨σ9,H9,I9,e9,dr9,ρ9,E9,q9⟩:=jqz;subst e9;have F9:aG X.K Pr H9 (some (V.ref D)::(σ++σ9)) (L.own D acc::(bE fi ρ2++ρ9)):=aG.step (τ:=some (V.ref D)::σ) (lam:=L.own D acc::bE fi ρ2) (w:=[]) (μ:=[]) E8 hτ E9 rfl;have F9a:aG X.K (bM H9 ρ9) H9 σ9 ρ9:=(aG.drop (τ:=some (V.ref D)::σ) (lam:=L.own D acc::bE fi ρ2) F9 hτ).wide;refine Tu (hti _ _ _ _ _ s9 σ9 H9 _ ρ9 _ I9 F9a q9) λok sA jqz=>?_;obtain⟨HA,ρA,IA,EA,qA⟩:=jqz;have FA:aG X.K Pr HA (some (V.ref D)::(σ++σ9)) (L.own D acc::(bE fi ρ2++ρA)):=aG.step (τ:=some (V.ref D)::σ) (lam:=L.own D acc::bE fi ρ2) (w:=[]) (μ:=[]) F9 hτ EA rfl
   have again:∀{sZ:Shared}{HZ:Hp}{ρZ:Ev}{acc':List L2.D},Tp B ([]++ye fp s8.heap) σ9 HZ sZ->aG X.K Pr HZ (some (.ref D)::(σ++σ9)) (.own D acc'::(bE fi ρ2++ρZ))->acc'.length<=i+1 ->
     (dG g ti te (xs.drop (i+1)) ρZ acc' λys ρb=>∀a,kz (.own a ys) (fu fi (ρb.drop Nt.length) (bE fi ρ2)))->∃m,m<n/\∃i σ' H' ρ' acc,m+i=xs.length/\Tp B [] σ' H' sZ/\tn i sZ.heap/\(∀b∈fp,H' b=none)/\σ'.drop Nt.length=cq fi σ /\
     aG X.K Pr H' (some (.ref D)::(σ++σ')) (.own D acc::(bE fi ρ2++ρ'))/\acc.length<=i/\dG g ti te (xs.drop i) ρ' acc λys ρb=>∀a,kz (.own a ys) (fu fi (ρb.drop Nt.length) (bE fi ρ2)):=λ{sZ HZ ρZ acc'} IZ EZ hz qZ=>by
    refine⟨n-1,xL,i+1,σ9,HZ,ρZ,acc',xL,IZ.unpinned,T.keep _ _ _ st8 λb hb o e=>(IZ.pin (b,o) (Yj _ (Yj _ (kH hb e)))).1,λb hb=>?_,dr9.trans dr6,EZ,hz,qZ⟩;obtain⟨o,e,d⟩:=T.obj _ _ st8 b hb;exact(IZ.pin (b,o) (Yj _ (Yj _ (kH hb e)))).2.1
   cases ok with
   | false =>
    rw[if_neg YC]at qA ⊢;exact again IA FA xL qA
   | true =>
    rw[if_pos rfl]at qA ⊢;have FAa:aG X.K (bM HA ρA) HA σ9 ρA:=(aG.drop (τ:=some (V.ref D)::σ) (lam:=L.own D acc::bE fi ρ2) FA hτ).wide;refine Tu (hte _ _ _ _ _ sA σ9 HA _ ρA _ IA FAa qA) λux sB qB=>?_;obtain⟨vy,HB,y,ρB,IB,rB,EB,qB⟩:=EL.frz (X:=B) (kz:=λy ρ3=>dG g ti te (xs.drop (i+1)) ρ3 (acc++[y]) λys ρb=>∀a,kz (.own a ys) (fu fi (ρb.drop Nt.length) (bE fi ρ2))) qB;have FB:aG X.K Pr HB (some vy::(some (V.ref D)::(σ++σ9))) (.d y::(L.own D acc::(bE fi ρ2++ρB))):=aG.step (τ:=some (V.ref D)::σ) (lam:=L.own D acc::bE fi ρ2) (w:=[some vy]) (μ:=[.d y]) FA hτ EB rfl;obtain⟨_,e1,p1⟩:=FB.head_d;cases e1;have UR:=FB.tail.sl
    cases UR with
    | cons q0 _ =>
     obtain⟨_,vs,hDB,rvs⟩:=q0;refine Tu (yn (X:=B) _ sB σ9 HB (.ref D) [vy] (.ref D) [ux] (λz H'=>H'=Te HB D (.lst (vs++[vy]))) IB rfl (.cons rB .nil) ⟨D,vs,vy,rfl,rfl,hDB,by rw[rvs.length];omega,rfl⟩) λ_ sC jqz=>?_;obtain⟨z,HC,IC,_,eC⟩:=jqz;subst eC;exact again IC (FB.tail.write (rvs.append (.cons p1 .nil))) (by simp;omega) qB
  .
   have e:i=xs.length:=by omega
   subst e;refine Tu (T.done B rfl rfl rfl hc xs.length [] s6 σ6 H6 (λ_ _=>False) I6 (stat fr6) st6 stop) λr s7 jqz=>?_;obtain⟨hr,I7⟩:=jqz;subst hr;rw[List.drop_length]at w6;obtain⟨m,hm,_⟩:=id I7.loc;have I8:Tp X ab σ H6 s7:=I3.call' (ch:=fp) I7.os I7.base I7.hok I7.bare λb hb=>⟨(f2 b hb).2.2.2.1,(f2 b hb).2.1,(f2 b hb).2.2.2.2.1,(f2 b hb).2.2.2.2.2⟩;have f4:=I3.fpOk (H':=H6) (b:=s3.heap.objs.size) (XZ _) I7.free
   .
    have hlen6:σ6.length=ρ6.length:=(aG.drop (τ:=some (V.ref D)::σ) (lam:=L.own D acc::bE fi ρ2) E6 hτ).len
    have a1:aG X.K Pr H6 (cq fi σ++(σ++[some (V.ref D)])) (ρ6.drop Nt.length++(bE fi ρ2++[L.own D acc])):=by
     have hcd:(cq fi σ).length=(ρ6.drop Nt.length).length:=by rw[<- dr6,YS,YS,hlen6]
     refine E6.rearr (by simp[hcd,hul,hlen6]) ((σ6.take Nt.length).zip (ρ6.take Nt.length)) ?_;have l0:σ6.zip ρ6=(σ6.take Nt.length).zip (ρ6.take Nt.length)++(cq fi σ).zip (ρ6.drop Nt.length):=by rw[<- dr6,<- Zo (by simp[hlen6]),List.take_append_drop,List.take_append_drop]
     have l1:(some (V.ref D)::(σ++σ6)).zip (L.own D acc::(bE fi ρ2++ρ6))=(some (V.ref D),L.own D acc)::(σ.zip (bE fi ρ2)++σ6.zip ρ6):=by rw[YR,Zo hul]
     have l2:(cq fi σ++(σ++[some (V.ref D)])).zip (ρ6.drop Nt.length++(bE fi ρ2++[L.own D acc]))=(cq fi σ).zip (ρ6.drop Nt.length)++(σ.zip (bE fi ρ2)++[(some (V.ref D),L.own D acc)]):=by rw[Zo hcd,Zo hul];rfl
     rw[l1,l2,l0];generalize (cq fi σ).zip (ρ6.drop Nt.length)=z1;generalize σ.zip (bE fi ρ2)=z2;generalize (σ6.take Nt.length).zip (ρ6.take Nt.length)=z3;have p1:((some (V.ref D),L.own D acc)::(z2++(z3++z1))).Perm ((z2++[(some (V.ref D),L.own D acc)])++(z3++z1)):=by rw[YU];exact List.perm_middle.symm
     refine p1.trans ?_;have p2:((z2++[(some (V.ref D),L.own D acc)])++(z3++z1)).Perm ((z3++z1)++(z2++[(some (V.ref D),L.own D acc)])):=Y8;refine p2.trans ?_;rw[YU];exact Y8
    have a2:=aG.backs (σ:=σ++[some (V.ref D)]) (cs:=ρ6.drop Nt.length) (ρ:=bE fi ρ2++[L.own D acc]) fi hnd (by rw[YS,<- hlen6,<- YS,dr6];simp[cq]) (λj hj=>by
     rw[Ym (by rw[fv];exact hjρ j hj)];exact B0 fi ρ2 j hj (hjρ j hj)) (λj hj=>by have:=hjσ j hj;simp;omega) (by rw[yC hjσ];exact a1)
    rw[vi λj hj=>by rw[fv];exact hjρ j hj]at a2;have hpl:σ.length=(fu fi (ρ6.drop Nt.length) (bE fi ρ2)).length:=by have:=a2.len;simpa using this
    refine hRR D s3.heap.objs.size s7 H6 acc (fu fi (ρ6.drop Nt.length) (bE fi ρ2)) m I8 hm f4.1 f4.2.1 I3.sz f4.2.2.2.2.1 f4.2.2.2.2.2 (a2.rearr (by simp[hpl]) [] ?_) (w6 D);rw[ZX,Zo hpl,YR];exact Y8 (l₂:=[(some (V.ref D),L.own D acc)])
 exact codeAny_compStart_list (loop _ rfl) (T.self _ 0 _ _ _ (T.keep 0 _ _ st2 λb hb o e=>old4 b o (old3 b o e)) (loop _ rfl))
theorem bq{elt tg iter:Expr}{ifs:List Expr}{scope sc:Scope}{pos:Pos}{N Nt Nf:List Str}{fi:List Nat}{src:W (List D)}{g:Tg}{ti:W Bool}{te:W L}
  (hsc:X.env.scope=sc) (hXN:X.N=N) (hc:X.calm=true) (hi:UJ X tg iter src)
  (hkind:scope.kind=.function) (hnames:∀x∈scope.names,x.2=.local->scope.names.lookup x.1=some .local) (hcell:∀y∈scope.names,y.2≠.cell)
  (hfr:∀x∈scope.names,x.2=.free->sc.names.lookup x.1=some .cell∨sc.names.lookup x.1=some .free)
  (hnd:fi.Nodup) (hNf:Nf.map some=fi.map (λj=>N[j]?)) (hNk:∀x∈Nf,scope.names.lookup x=some .free) (hfl:∀j∈fi,j<N.length)
  (hg:∀cl s₀ H₀ fp,UP (jj X scope cl (Nt++Nf) s₀ H₀ fp) tg Nt.length g) (hti:∀cl s₀ H₀ fp,UQ (jj X scope cl (Nt++Nf) s₀ H₀ fp) ifs ti) (hte:∀cl s₀ H₀ fp,PL (jj X scope cl (Nt++Nf) s₀ H₀ fp) elt te)
  (hs:∀x,foldedSetIterable iter X.env x=pure x:=by intro _;rfl):PL X (.ListComp elt [⟨tg,iter,ifs,0⟩] scope pos) (bK Nt.length fi src g ti te):=by
 intro ab s σ H Pr ρ kz I E h;rw[eval_ListComp];refine yE (use:=none) hsc hXN hc hi hkind hnames hcell hfr hnd hNf hNk hfl hg hti hte I E h (λD C s7 H6 acc ρ'' m I7 hm h1 h2 h3 h4 h5 E7 p=>?_) hs;exact⟨m,hm,λh' hsb=>⟨.ref D,H6,_,ρ'',I7.turned (t':=s7.toks) (λb o hb e=>(hsb.2 b hb).trans e) h1 (YE (YE h2)) (.inr h3) h4 h5,rfl,E7,p⟩⟩
theorem dP{elt tg iter:Expr}{ifs:List Expr}{scope sc:Scope}{pos spos py:Pos}{y:Str}{j:Nat}{N Nt Nf:List Str}{fi:List Nat}{src:W (List D)}{g:Tg}{ti:W Bool}{te:W L}
  (hN:X.N.Nodup) (hj:X.N[j]?=some y) (hy:To X.env.scope y)
  (hsc:X.env.scope=sc) (hXN:X.N=N) (hc:X.calm=true) (hi:UJ X tg iter src)
  (hkind:scope.kind=.function) (hnames:∀x∈scope.names,x.2=.local->scope.names.lookup x.1=some .local) (hcell:∀y∈scope.names,y.2≠.cell)
  (hfr:∀x∈scope.names,x.2=.free->sc.names.lookup x.1=some .cell∨sc.names.lookup x.1=some .free)
  (hnd:fi.Nodup) (hNf:Nf.map some=fi.map (λj=>N[j]?)) (hNk:∀x∈Nf,scope.names.lookup x=some .free) (hfl:∀j∈fi,j<N.length)
  (hg:∀cl s₀ H₀ fp,UP (jj X scope cl (Nt++Nf) s₀ H₀ fp) tg Nt.length g) (hti:∀cl s₀ H₀ fp,UQ (jj X scope cl (Nt++Nf) s₀ H₀ fp) ifs ti) (hte:∀cl s₀ H₀ fp,PL (jj X scope cl (Nt++Nf) s₀ H₀ fp) elt te)
  (hsw:autoParam (swapsWith (.ListComp elt [⟨tg,iter,ifs,0⟩] scope pos) (some (.Name y py)) spos.line X.env=pure true) acE) (hf:autoParam (X.fn y=true∨X.env.scope.names.lookup y=some .local) acK)
  (hs:∀x,foldedSetIterable iter X.env x=pure x:=by intro _;rfl):PM X (.Assign [.Name y py] (.ListComp elt [⟨tg,iter,ifs,0⟩] scope pos) spos) (bA j (bK Nt.length fi src g ti te)):=by
 intro ab s σ H Pr ρ kz I E h;rw[exec_Assign_Name_used _ _ _ _ hsw];refine kS (wpAny_standAt (kS ?_))
 show wpAny _ X.A (do let _ <- comprehension (.ListComp elt [⟨tg,iter,ifs,0⟩] scope pos) scope X.env (firstIterPos [⟨tg,iter,ifs,0⟩] pos) (newList []) false (eval iter X.env) (some (assign (.Name y py) X.env))) _ _ s
 refine kS (Tu (yE (use:=some (assign (.Name y py) X.env)) (Q:=λ_ s'=>SM X ab Pr kz .next s') (kz:=λr ρ1=>kz .nx (ρ1.set j r)) hsc hXN hc hi hkind hnames hcell hfr hnd hNf hNk hfl hg hti hte I E h (λD C s7 H6 acc ρ'' m I7 hm h1 h2 h3 h4 h5 E7 p=>?_) hs) λ_ s' hq=>X3 (X3 hq))
 show wpAny _ X.A (assign (.Name y py) X.env (.ref D)) _ _ _;refine wpAny_assign_Name (yd (v:=.ref D) I7 hN hj hy rfl (λs8 I8 jqz=>?_) hf);obtain⟨a,sb,ha⟩:=jqz
 have hCa:C≠a:=by
  rcases ha with z|z
  . rw[z];exact h2
  . exact λq=>h4 y a z q.symm
 refine⟨m,hm.sameBut sb hCa,λh' hsb=>⟨_,H6,_,I8.turned (t':=s8.toks) (λb o hb e=>(hsb.2 b hb).trans e) h1 h2 (.inr h3) h4 h5,E7.store (by rw[I7.len];exact(tu.mp hj).1),p⟩⟩
end
section
variable{X:Cx}{e a b:Expr}{pos:Pos}{ta tb te:W L}{x y:Str}
def Q6(i j:Nat)(ta tb:W L):W Fl:=λρ kz=>ta ρ λr ρ1=>Uy r λv=>tb ρ1 λr2 ρ2=>Uy r2 λw=>kz .nx ((ρ2.set i (.d v)).set j (.d w))
theorem OX{i j:Nat}{px py pt:Pos} {kt k2 pt2} (hc:X.calm=true) (hN:X.N.Nodup) (hi:X.N[i]?=some x) (hj:X.N[j]?=some y) (hij:i≠j)
  (hx:X.env.scope.names.lookup x=some .local) (hy:X.env.scope.names.lookup y=some .local) (ha:PL X a ta) (hb:PL X b tb)
  (hw:swappedStores [.Tuple [.Name x px,.Name y py] kt pt] (.Tuple [a,b] k2 pt2) X.env=pure (some [x,y]))
  (hs:autoParam (swapsWithSole [.Tuple [.Name x px,.Name y py] kt pt] (.Tuple [a,b] k2 pt2) pos.line X.env=pure false) acE)
  (h1:autoParam (starEach [a,b] X.env=(false,eval a X.env)::starEach [b] X.env) acE) (h2:autoParam (starEach [b] X.env=[(false,eval b X.env)]) acE) :
  PM X (.Assign [.Tuple [.Name x px,.Name y py] kt pt] (.Tuple [a,b] k2 pt2) pos) (Q6 i j ta tb):=by
 refine PM.of (On hc hN hi hj hij hx hy (cx (aA ha).pe (cx (aA hb).pe jv h2) h1) hw hs) λσ H Pr ρ kz fI E h=>?_
 refine⟨Pr,ρ,λr ρ1=>match r with
  |.d v=>tb ρ1 λr2 ρ2=>Uy r2 λw=>kz .nx ((ρ2.set i (.d v)).set j (.d w))
  |_=>False,E,h,λv H1 r ρ1 E1 pp=>?_⟩
 cases r with
 | d dv =>
  refine⟨bM H1 ρ1,ρ1,λr ρ2=>match r with
   |.d w=>kz .nx ((ρ2.set i (.d dv)).set j (.d w))
   |_=>False,E1.tail.wide,pp,λw H2 r2 ρ2 E2 pp=>?_⟩
  cases r2 with
  | d dw =>
   have E3:aG X.K Pr H2 (some w::some v::σ) (.d dw::.d dv::ρ2):=aG.step (τ:=[some v]) (lam:=[.d dv]) (w:=[some w]) (μ:=[.d dw]) E1 rfl E2 rfl;have il:i<σ.length:=by rw[fI];exact(tu.mp hi).1
   have jl:j<σ.length:=by rw[fI];exact(tu.mp hj).1
   obtain⟨_,e1,r1⟩:=E3.head_d;cases e1;have E4:aG X.K Pr H2 (σ.set i (some v)) (ρ2.set i (.d dv)):=E3.tail.store il;exact⟨v,w,rfl,_,(E4.cons_d r1).store (by simpa using jl),pp⟩
  |_=>exact pp.elim
 |_=>exact pp.elim
def LW(is:List Nat)(te:W L):W Fl:=λρ kz=>te ρ λr ρ1=>Uy r λv=>dO is v ρ1 λρ2=>kz .nx ρ2
theorem LX{tg:Expr}{is:List Nat}(hg:UH X tg (dO is))(he:PL X e te)(hs:autoParam (swapsWithSole [tg] e pos.line X.env=pure false) acE)(hw:autoParam (swappedStores [tg] e X.env=pure none) acE)
  (h1:autoParam ((assignEach [tg] X.env).map (·.2)=[assign tg X.env]) acE):PM X (.Assign [tg] e pos) (LW is te):=by
 intro ab s σ H Pr ρ kz I E h;obtain⟨gg,hg,hgg⟩:=hg;refine wpAny_Assign_stores (Tu (he ab s σ H Pr ρ _ I E h) λv s1 q=>?_) hs hw;obtain⟨w,H1,d,ρ1,I1,r1,E1,q1⟩:=EL.frz (kz:=λd ρ1=>dO is d ρ1 λρ2=>kz .nx ρ2) q;rw[h1];obtain⟨_,e1,p1⟩:=E1.head_d;cases e1;exact Tu (hg ab s1 σ H1 w v _ I1 r1 (hgg w σ H1 Pr ρ1 d _ I1.len E1.tail p1 q1)) λ_ s2 jqz=>by obtain⟨σ',H',I',e',_,ρ',E',q⟩:=jqz;subst e';exact⟨σ',_,ρ',I',E',q⟩
noncomputable def qG:D->Bool
 |.non=>true | .bl _=>true | .int _=>true | .str _=>true
 |_=>false
noncomputable def US:D->D->Bool
 |.non,.non=>true
 |.bl a,.bl b=>a == b
 |.bl a,.int b=>(if a then 1 else 0) == b
 |.int a,.bl b=>a == (if b then 1 else 0)
 |.int a,.int b=>a == b
 |.str a,.str b=>a == b
 |_,_=>false
theorem nk{K:W.Frag}{H:Hp}{v:V}{d:D}(r:Us K H v d)(h:qG d=true):uC v=true:=by cases r<;>first|rfl|(exact absurd h (by simp[qG]))
theorem OY{K:W.Frag}{H:Hp}{v w:V}{d f:D}(r:Us K H v d)(q:Us K H w f)(h:qG d=true)(h':qG f=true):Uh v w=US d f:=by cases r<;>cases q<;>first|rfl|(exact absurd h (by simp[qG]))|(exact absurd h' (by simp[qG]))
noncomputable def Up(x:D)(ys:List D):Bool:=ys.any λy=>US y x
theorem yF{K:W.Frag}{H:Hp}{v:V}{x:D}(r:Us K H v x)(h:qG x=true):∀{vs:List V}{ys:List D},bV K H vs ys->ys.all qG=true->Uj v vs=Up x ys/\vs.all uC=true
 |_,_,.nil,_=>⟨rfl,rfl⟩
 | _,_,.cons r0 t,ha=>by rw[List.all_cons,YI]at ha;obtain⟨i1,i2⟩:=yF r h t ha.2;unfold Uj Up at i1 ⊢;rw[ZS,ZS,List.all_cons,i1,OY r0 r ha.1 h,nk r0 ha.1,i2];exact⟨rfl,rfl⟩
def De(neg:Bool):Uz:=λx y k=>qG x=true/\jy y λys=>ys.all qG=true/\k (.d (.bl (if neg then !Up x ys else Up x ys)))
theorem OZ:UA X (compareOp .In) (De false):=UA.of Es λσ H Pr ρ x y dx dy kz E px py ⟨hx,h⟩=>by
 cases py with
 | lst hz rs =>
  obtain⟨ha,h⟩:=h;obtain⟨i1,i2⟩:=yF px hx rs ha;exact⟨_,_,rfl,.inl hz.l,nk px hx,i2,_,E.cons_d (.bl _),by rw[i1];exact h⟩
 | tup hz rs =>
  obtain⟨ha,h⟩:=h;obtain⟨i1,i2⟩:=yF px hx rs ha;exact⟨_,_,rfl,.inr hz,nk px hx,i2,_,E.cons_d (.bl _),by rw[i1];exact h⟩
 |_=>exact h.elim
theorem Ip:UA X (compareOp .NotIn) (De true):=UA.of yk λσ H Pr ρ x y dx dy kz E px py ⟨hx,h⟩=>by
 cases py with
 | lst hz rs =>
  obtain⟨ha,h⟩:=h;obtain⟨i1,i2⟩:=yF px hx rs ha;exact⟨_,_,rfl,.inl hz.l,nk px hx,i2,_,E.cons_d (.bl _),by rw[i1];exact h⟩
 | tup hz rs =>
  obtain⟨ha,h⟩:=h;obtain⟨i1,i2⟩:=yF px hx rs ha;exact⟨_,_,rfl,.inr hz,nk px hx,i2,_,E.cons_d (.bl _),by rw[i1];exact h⟩
 |_=>exact h.elim
def UT(X:Cx)(lo:Option Expr)(t:Option (W L)):Prop:=match lo,t with
 |none,none=>True
 |some e,some t=>PL X e t
 |_,_=>False
theorem yG{K:W.Frag}{H:Hp}{vs:List V}{xs:List D}(r:bV K H vs xs)(l u:Option Int):bV K H (KA vs l u) (rM xs l u):=by unfold KA rM;rw[r.length];exact(r.drop _).take _
noncomputable def UU(K:W.Frag)(t:Option (W L)):TO:=λσ H Q=>∃Pr ρ kz,aG K Pr H σ ρ/\Da t ρ kz/\∀i H' ρ',aG K Pr H' σ ρ'->kz i ρ'->Q i H'
theorem O0{lo:Option Expr}{t:Option (W L)}(h:UT X lo t):PO X lo (UU X.K t):=by
 cases lo with
 | none =>
  cases t with
  | none =>
   intro ab s σ H Q I ⟨Pr,ρ,kz,E,hw,q⟩;exact Lo ab s σ H Q I (q none H ρ E hw)
  |some t=>exact h.elim
 | some e =>
  cases t with
  |none=>exact h.elim
  | some t =>
   intro ab s σ H Q I ⟨Pr,ρ,kz,E,hw,q⟩;refine Lp (PL.pe (show PL X e t from h)) ab s σ H Q I ⟨Pr,ρ,_,E,hw,λv H' r ρ' E' pp=>?_⟩;obtain⟨i,rfl,pp⟩:=cX pp;obtain⟨_,e1,p1⟩:=E'.head_d;cases e1;obtain rfl:=Us.inv_int p1;exact⟨i,rfl,q (some i) H' ρ' E'.tail pp⟩
end
def O1{α:Type}(o:Option L)(t u:W α)(ρ:Ev)(kz:α->Ev->Prop):Prop:=match o with
 |some (.own _ _)=>t ρ kz
 |_=>u ρ kz
noncomputable def fY{α:Type}(i:Nat)(t u:W α):W α:=λρ kz=>O1 ρ[i]? t u ρ kz
theorem Iq{α:Type}(a:Addr)(xs:List D)(t u:W α)(ρ:Ev)(kz:α->Ev->Prop):O1 (some (.own a xs)) t u ρ kz=t ρ kz:=rfl
theorem O2{α:Type}(x:D)(t u:W α)(ρ:Ev)(kz:α->Ev->Prop):O1 (some (.d x)) t u ρ kz=u ρ kz:=rfl
theorem LY{α:Type}(a:Option Addr)(ls:List L)(t u:W α)(ρ:Ev)(kz:α->Ev->Prop):O1 (some (.bx a ls)) t u ρ kz=u ρ kz:=rfl
theorem jz{X:Cx}{e:Expr}{i:Nat}{t u:W L}(h:PL X e t)(h':PL X e u):PL X e (fY i t u):=λab s σ H Pr ρ kz I E q=>by
 unfold fY O1 at q;split at q
 . exact h ab s σ H Pr ρ kz I E q
 . exact h' ab s σ H Pr ρ kz I E q
theorem Ma{K:W.Frag}{c:Str}{C:Addr}{T:String}(h:vb K c C=true)(hm:W.kitMeta T=true):W.kitOne K (.ref C) (.type T)=some ((["ValueError","Exception","BaseException","object"]:List String).contains T):=by obtain⟨L,cd,S⟩:=rC h;unfold W.kitOne W.kitCls;rw[if_neg (show ¬((Value.ref C == Value.type T)=true)from λz=>by cases z)];dsimp only;rw[if_pos hm];show W.mroIn K C (.type T)=_;rw[S.mroIn,rD]
theorem yH{T:String}(h0:∀K d,(∀c ns xs,d≠.exc c ns xs)->W.kitOne K (UN d) (.type T)=some (lh T d))(hm:W.kitMeta T=true):∀K d t,UO K d t->W.kitOne K t (.type T)=some (lh T d):=by
 intro K d t h
 cases d with
 | exc c ns xs =>
  obtain⟨C,e,h⟩:=h;rw[e];exact Ma h hm
 |_=>cases h;exact h0 K _ (λ_ _ _ z=>nomatch z)
theorem EY:∀ K d t,UO K d t->W.kitOne K t (.type "int")=some (lh "int" d):=yH (λK d hd=>by cases d <;> first | rfl | exact absurd rfl (hd _ _ _)) y_
theorem qX:∀ K d t,UO K d t->W.kitOne K t (.type "bool")=some (lh "bool" d):=yH (λK d hd=>by cases d <;> first | rfl | exact absurd rfl (hd _ _ _)) y_
theorem Fb:∀ K d t,UO K d t->W.kitOne K t (.type "str")=some (lh "str" d):=yH (λK d hd=>by cases d <;> first | rfl | exact absurd rfl (hd _ _ _)) y_
theorem v5:∀ K d t,UO K d t->W.kitOne K t (.type "list")=some (lh "list" d):=yH (λK d hd=>by cases d <;> first | rfl | exact absurd rfl (hd _ _ _)) y_
theorem rN:∀ K d t,UO K d t->W.kitOne K t (.type "tuple")=some (lh "tuple" d):=yH (λK d hd=>by cases d <;> first | rfl | exact absurd rfl (hd _ _ _)) y_
def o3(K:W.Frag)(mg:Str->Option Value)(x:Str)(d:D):Prop:=∃v u,mg x=some u/\cQ v u/\∀H,Us K H v d
theorem vj{X:Cx}{x:Str}{d:D}{pos:Pos}(g:o3 X.K X.mg x d)(hg:Gl X x) (hdb:autoParam ((x == ("__debug__" : Str))=false) acG):PL X (.Name x pos) (wC d):=by obtain⟨v,u,h1,h2,h3⟩:=g;exact LG hg h1 h2 h3 hdb
def Q7(o:Obj)(d:D):Prop:=∃ its n vs ds,d=.tup ds/\o.cls=.type "tuple"/\o.data=.seq its n/\its.size<=sizeLine/\cw vs its.toList/\∀ K H,bV K H vs ds
theorem Ir{K:W.Frag}{mg:Str->Option Value}{x:Str}{d:D}{l:Addr}{o:Obj}(h1:mg x=some (.ref l))(h2:K.lookup l=some o)(h3:Q7 o d):o3 K mg x d:=by obtain⟨its,n,vs,ds,rfl,hc,hd,hz,hv,hr⟩:=h3;exact⟨.ref l,_,h1,rfl,λH=>.tup (.inr ⟨o,its,n,h2,hc,hd,hz,hv⟩) (hr K H)⟩
theorem nq{K:W.Frag}{mg:Str->Option Value}{x:Str}{s:Str}{t:Tok}(h1:mg x=some (.str s t)):o3 K mg x (.str s):=⟨.str s,_,h1,⟨t,rfl⟩,λH=>.str s⟩
theorem v7{K:W.Frag}{mg:Str->Option Value}{x:Str}{s:Int}{t:Tok}(h1:mg x=some (.int s t)):o3 K mg x (.int s):=⟨.int s,_,h1,⟨t,rfl⟩,λH=>.int s⟩
theorem nu{K:W.Frag}{H:Hp}:∀ns:List Int,bV K H (ns.map V.int) (ns.map D.int)
 |[]=>.nil
 |n::ns=>.cons (.int n) (nu ns)
theorem Fc{K:W.Frag}{H:Hp}{a:Addr}{ns:List Int}{fs:FS}{n:Nat}(hl:ns.length<=n)(hO:Qy H)(hS:Tz K H a (ns.map V.int))(h:fs [.d (.lst (ns.map .int))] (λr _=>r=.d (.bl true))):spF K 1 fs [.ref a] H (λv _=>v=.bl true) λ_ _ _=>False:=by
 have hz:Ur K H a (ns.map V.int):=by
  rcases hS with(h|⟨o,h⟩)|h
  .
   rcases hO a with z|⟨o,xs,z⟩|⟨q,z⟩
   . rw[z]at h;cases h
   . rw[z]at h;cases h
   . rw[z]at h;cases h
  . exact .inl ⟨o,h⟩
  . exact .inr h
 refine⟨rfl,λ_=>none,[.d (.lst (ns.map .int))],_,⟨(λb o e=>nomatch e),(show([]:List Addr).Nodup from List.nodup_nil),(λa h=>absurd (show a∈([]:List Addr)from h) x_),.cons ⟨.ref a,rfl,.lst hz (nu ns)⟩ .nil⟩,h,λv H' r ls' E p=>?_⟩;subst p;obtain⟨_,e,r⟩:=E.head_d;cases e;obtain rfl:=Us.inv_bl r;rfl
section
variable{X:Cx}
def AB:Uz:=λx y k=>match y with
 |.non=>k (.d (.bl (match x with | .non=>true|_=>false)))
 |_=>False
def yI:Uz:=λx y k=>match y with
 |.non=>k (.d (.bl (match x with | .non=>false|_=>true)))
 |_=>False
theorem AC:UA X (compareOp .Is) AB:=OU.imp λx y k h=>by
 unfold AB at h;split at h
 . exact⟨rfl,h⟩
 . exact h.elim
theorem B2:UA X (compareOp .IsNot) yI:=LR.imp λx y k h=>by
 unfold yI at h;split at h
 . exact⟨rfl,h⟩
 . exact h.elim
end
end L2
namespace L2
open PySem
theorem B3(a b:Int):Int.gcd b (a.fmod b)=Int.gcd a b:=by rw[Int.fmod_def,Int.gcd_sub_mul_left_right,Int.gcd_comm]
theorem lr(a:Int){b:Int}(h:b≠0):(a.fmod b).natAbs<b.natAbs:=by
 rw[Int.fmod_eq_emod];have h1:=aad a h;have h2:a % b<(b.natAbs:Int):=Int.emod_lt a h;split
 . omega
 . rename_i q;have:a % b≠0:=λe=>q (.inr (Int.dvd_of_emod_eq_zero e));omega
noncomputable def UV(q:Rat):D:=.tup [.int q.num,.int (q.den:Int)]
theorem AD{t b:Int}(h:b≠0):0<Int.gcd t b:=Int.gcd_pos_of_ne_zero_right _ h
noncomputable def cT(t b:Int):Int:=if b<0 then -(Int.gcd t b:Int)else(Int.gcd t b:Int)
theorem B4{t b:Int}(h:b≠0):cT t b≠0:=by have:=AD (t:=t) h;unfold cT;split<;>omega
theorem Fd(t b:Int):(cT t b).natAbs=Int.gcd t b:=by unfold cT;split<;>omega
theorem B5{t b:Int}(h:b≠0):(cT t b).natAbs<=b.natAbs:=by rw[Fd];exact aam xL (by have:=Int.gcd_dvd_right t b;exact Int.natAbs_dvd_natAbs.mpr this |> λq=>by simpa using q)
theorem rO{a g:Int}(hg:g≠0)(h:g∣a):a.fdiv (-g)=-(a / g):=by obtain⟨k,rfl⟩:=h;rw[Int.mul_ediv_cancel_left _ hg,show g*k=(-g)*(-k) by rw[Int.neg_mul_neg],Int.mul_fdiv_cancel_left _ xL]
theorem Fe{t b:Int}(h:b≠0):t.fdiv (cT t b)=(Rat.divInt t b).num:=by
 have hg:=AD (t:=t) h;have hd:(Int.gcd t b:Int)∣t:=Int.gcd_dvd_left t b;rw[Rat.num_divInt,Int.gcd_comm b t];unfold cT;split
 . rename_i hb;rw[rO xL hd,Int.sign_eq_neg_one_of_neg hb,Int.neg_one_mul,Int.neg_ediv_of_dvd hd]
 . rename_i hb;rw[Int.sign_eq_one_of_pos xL,Int.one_mul,Zl _ xL]
theorem Mb{t b:Int}(h:b≠0):b.fdiv (cT t b)=((Rat.divInt t b).den:Int):=by
 have hg:=AD (t:=t) h;have hd:(Int.gcd t b:Int)∣b:=Int.gcd_dvd_right t b;rw[Rat.den_divInt,if_neg h,Int.gcd_comm b t,Int.natCast_ediv];unfold cT;split
 .
  rename_i hb;rw[rO xL hd,<- Int.neg_ediv_of_dvd hd]
  congr 1
  omega
 .
  rename_i hb;rw[Zl _ xL]
  congr 1
  omega
theorem Ff{t b:Int}(h:b≠0):(Rat.divInt t b).den<=b.natAbs:=by rw[Rat.den_divInt,if_neg h];exact Nat.div_le_self _ _
theorem KI{t b:Int}(h:b≠0):(Rat.divInt t b).num.natAbs<=t.natAbs:=by rw[<- Fe h];exact PySem.natAbs_fdiv_le _ _
theorem den_pos(q:Rat):0<q.den:=Nat.pos_of_ne_zero q.den_nz
theorem B6(p q:Rat):Rat.divInt (p.num*(q.den:Int)+q.num*(p.den:Int)) ((p.den:Int)*(q.den:Int))=p+q:=by have hp:=den_pos p;have hq:=den_pos q;have:=Rat.divInt_add_divInt p.num q.num (d₁:=(p.den:Int)) (d₂:=(q.den:Int)) xL xL;rw[Zf,Zf]at this;exact this.symm
theorem O3(p q:Rat):Rat.divInt (p.num*(q.den:Int)-q.num*(p.den:Int)) ((p.den:Int)*(q.den:Int))=p-q:=by have:=B6 p (-q);rw[Rat.sub_eq_add_neg,<- this];simp only[Rat.neg_num,Rat.neg_den,Int.neg_mul,Int.sub_eq_add_neg]
def RB(n:Nat)(q:Rat):Prop:=q.num.natAbs<2^n/\q.den<2^n
theorem RB.mono{m n:Nat}{q:Rat}(h:RB m q)(hl:m<=n):RB n q:=⟨XX h.1 (X9 xp hl),XX h.2 (X9 xp hl)⟩
theorem RB.bn{n:Nat}{q:Rat}(h:RB n q)(hl:n<=1000000):cy q.num:=XX h.1 (X9 xp hl)
theorem RB.bd{n:Nat}{q:Rat}(h:RB n q)(hl:n<=1000000):cy (q.den:Int):=by unfold cy;rw[Yh];exact XX h.2 (X9 xp hl)
theorem bC{a b m n:Nat}(h1:a<2^m)(h2:b<2^n):a*b<2^(m+n):=by rw[aar];exact Nat.mul_lt_mul'' h1 h2
theorem RB.add{m n:Nat}{p q:Rat}(hp:RB m p)(hq:RB n q):RB (m+n+1) (p+q):=by
 have dp:=den_pos p;have dq:=den_pos q;have hne:((p.den:Int)*(q.den:Int))≠0:=aab xL xL;rw[<- B6 p q];have a1:=bC hp.1 hq.2;have a2:=bC hq.1 hp.2;have a3:=bC hp.2 hq.2;have e:(2:Nat)^(m+n+1)=2^(m+n)+2^(m+n):=by rw[Nat.pow_succ];omega
 rw[Nat.add_comm n m]at a2;constructor
 . refine Yc (KI hne) ?_;refine Yc (Int.natAbs_add_le _ _) ?_;rw[Zj,Zj,Yh,Yh,e];omega
 . refine Yc (Ff hne) ?_;rw[Zj,Yh,Yh,e];omega
theorem Df(p q:Rat):(p+q).den<=p.den*q.den:=by have dp:=den_pos p;have dq:=den_pos q;have hne:((p.den:Int)*(q.den:Int))≠0:=aab xL xL;rw[<- B6 p q];have:=Ff (t:=p.num*(q.den:Int)+q.num*(p.den:Int)) hne;rw[Zj,Yh,Yh]at this;exact this
@[simp] theorem o4(i j:Int):UL (.int i) (.int j)=decide (i=j):=by simp[UL,UK,PyData.eqv];by_cases h:i=j<;>simp[h]
@[simp] theorem Fg(i j:Str):UL (.str i) (.str j)=decide (i=j):=by simp[UL,UK,PyData.eqv];by_cases h:i=j<;>simp[h]
@[simp] theorem O4(i j:Bool):UL (.bl i) (.bl j)=decide (i=j):=by simp[UL,UK,PyData.eqv];cases i<;>cases j<;>rfl
@[simp] theorem Dg(i:Int):dj (.int i):=rfl
@[simp] theorem Fh(i:Bool):dj (.bl i):=rfl
@[simp] theorem vk:dj .non:=rfl
mutual
noncomputable def UW:Nat->D->Bool
 |_,.non=>true
 |_,.bl _=>true
 |_,.int _=>true
 |_,.str x=>PyData.strOk x
 |0,.tup _=>false
 |0,.lst _=>false
 |n+1,.tup xs=>p7 n xs
 |n+1,.lst xs=>p7 n xs
 |_,.dct _=>false
 |_,.exc _ _ _=>false
 |_,.fn _ _=>false
 |_,.dk _ _=>false
 |_,.gf _=>false
noncomputable def p7:Nat->List D->Bool
 |_,[]=>true
 |n,x::xs=>UW n x && p7 n xs
end
mutual
theorem AE:∀(n:Nat)(d:D),UW n d=true->(UK d).canLay0=true/\(UK d).depth<=n
 |_,.non,_=>⟨rfl,YO _⟩
 |_,.bl _,_=>⟨rfl,YO _⟩
 |_,.int _,_=>⟨rfl,YO _⟩
 |_,.str x,h=>⟨by simpa[UW,UK,PyData.canLay0]using h,YO _⟩
 |0,.tup _,h=>by simp[UW]at h
 |0,.lst _,h=>by simp[UW]at h
 | n+1,.tup xs,h=>by
  obtain⟨h1,h2⟩:=v8 n xs (by simpa[UW]using h)
  exact⟨h1,Nat.succ_le_succ h2⟩
 | n+1,.lst xs,h=>by
  obtain⟨h1,h2⟩:=v8 n xs (by simpa[UW]using h)
  exact⟨h1,Nat.succ_le_succ h2⟩
 |_,.dct _,h=>by simp[UW]at h
 |_,.exc _ _ _,h=>by simp[UW]at h
 |_,.fn _ _,h=>by simp[UW]at h
 |_,.dk _ _,h=>by simp[UW]at h
 |_,.gf _,h=>by simp[UW]at h
theorem v8:∀(n:Nat)(ds:List D),p7 n ds=true->PyData.canLayAll0 (fg ds)=true/\PyData.depthAll (fg ds)<=n
 |_,[],_=>⟨rfl,YO _⟩
 | n,d::ds,h=>by
  have h':UW n d=true/\p7 n ds=true:=by simpa[p7]using h
  obtain⟨a1,a2⟩:=AE n d h'.1
  obtain⟨b1,b2⟩:=v8 n ds h'.2
  exact⟨by simp[fg,PyData.canLayAll0,a1,b1],by simp only[fg,PyData.depthAll];omega⟩
end
theorem d5{n:Nat}{d:D}(h:UW n d=true)(hn:n<=64):dj d:=by obtain⟨h1,h2⟩:=AE n d h;unfold dj SeqAt.shaped;rw[h1,Y6 xL];rfl
theorem Fi(xs ys:List D):UL (.tup xs) (.tup ys)=PyData.eqvAll (fg xs) (fg ys):=by simp[UL,UK,PyData.eqv]
theorem Fj(xs ys:List D):UL (.lst xs) (.lst ys)=PyData.eqvAll (fg xs) (fg ys):=by simp[UL,UK,PyData.eqv]
theorem jA(x y:D)(xs ys:List D):PyData.eqvAll (fg (x::xs)) (fg (y::ys))=(UL x y && PyData.eqvAll (fg xs) (fg ys)):=by simp[fg,PyData.eqvAll,UL]
theorem v9:PyData.eqvAll (fg []) (fg [])=true:=by simp[fg,PyData.eqvAll]
theorem Iu(q:Rat):dj (UV q):=d5 (n:=1) (by simp[UV,UW,p7]) xp
theorem O5(p q:Rat):UL (UV p) (UV q)=decide (p=q):=by
 unfold UV;rw[Fi,jA,jA,v9,o4,o4,Bool.and_true];by_cases h:p=q
 . subst h;simp
 .
  rw[Yt h];by_cases h1:p.num=q.num
  . have:¬((p.den:Int)=(q.den:Int)):=λe=>h (Rat.ext h1 xL);simp[this]
  . simp[h1]
end L2
namespace L2
open PySem PySem.Spec PyProof.Rows
section
variable{X:Cx}{a b c:Expr}{pos p:Pos}{ta tb tc:W L}
def B7(o o':Uz)(ta tb tc:W L):W L:=λρ kz=>ta ρ λr ρ1=>ma r λi=>tb ρ1 λr ρ2=>ma r λj=>o (.int i) (.int j) λz=>KD z λk=>if k=true then tc ρ2 λr ρ3=>ma r λl=>o' (.int j) (.int l) λz=>kz z ρ3 else kz (.d (.bl false)) ρ2
def QC(X:Cx)(op:CmpOp)(o:Uz):Prop:=∃f:Int->Int->Bool,TM X (compareOp op) (TR λi j=>.bl (f i j))/\∀i j k,o (.int i) (.int j) k->k (.d (.bl (f i j)))
theorem Q8:QC X .Lt D8:=⟨_,Ov,λ_ _ _ h=>h⟩
theorem Q9:QC X .LtE LJ:=⟨_,Ow,λ_ _ _ h=>h⟩
theorem Iv{op op':CmpOp}{o o':Uz}{f f':Int->Int->Bool}(h1:∀i j k,o (.int i) (.int j) k->k (.d (.bl (f i j))))(h2:∀i j k,o' (.int i) (.int j) k->k (.d (.bl (f' i j))))
  (σ:St) (H Pr:Hp) (ρ:Ev) (kz:L->Ev->Prop) (Q:VK) (hQ:∀v H' r ρ',aG X.K Pr H' (some v::σ) (r::ρ')->kz r ρ'->Q v H') (E:aG X.K Pr H σ ρ) (h:B7 o o' ta tb tc ρ kz) :
  Ky (TR λi j=>.bl (f i j)) (TR λi j=>.bl (f' i j)) (tL X.K ta) (tL X.K tb) (tL X.K tc) σ H Q:=by
 refine⟨Pr,ρ,_,E,h,λv H1 r ρ1 E1 p=>?_⟩;obtain⟨i,rfl,p⟩:=cX p;obtain⟨_,e1,r1⟩:=E1.head_d;cases e1;obtain rfl:=Us.inv_int r1;refine⟨Pr,ρ1,_,E1.tail,p,λv H2 r ρ2 E2 p=>?_⟩;obtain⟨j,rfl,p⟩:=cX p;obtain⟨_,e1,r1⟩:=E2.head_d;cases e1;obtain rfl:=Us.inv_int r1;refine⟨i,j,rfl,rfl,f i j,rfl,?_⟩;have q:=h1 i j _ p
 cases hk:f i j with
 | false =>
  rw[hk]at q;exact hQ _ _ _ ρ2 (E2.tail.cons_d (.bl false)) q
 | true =>
  rw[hk]at q;refine⟨Pr,ρ2,_,E2.tail,q,λv H3 r ρ3 E3 p=>?_⟩;obtain⟨l,rfl,p⟩:=cX p;obtain⟨_,e1,r1⟩:=E3.head_d;cases e1;obtain rfl:=Us.inv_int r1;exact⟨j,l,rfl,rfl,hQ _ _ _ ρ3 (E3.tail.cons_d (.bl _)) (h2 j l _ p)⟩
theorem Iw{op op':CmpOp}{o o':Uz}(ho:QC X op o)(ho':QC X op' o')(ha:PL X a ta)(hb:PL X b tb)(hc:PL X c tc)(hm:autoParam (lastMarks [op,op'] [b,c]=false) acM) :
  PL X (.Compare a [op,op'] [b,c] pos) (B7 o o' ta tb tc):=by
 obtain⟨f,r1,h1⟩:=ho;obtain⟨f',r2,h2⟩:=ho';exact PL.of (HR r1 r2 ha.pe hb.pe hc.pe hm) λσ H Pr ρ kz E h=>Iv (op:=op) (op':=op') h1 h2 σ H Pr ρ kz _ (λv H' r ρ' E' p=>⟨r,ρ',E',p⟩) E h
end
end L2
namespace L2
open PySem PySem.Spec PyProof.Rows PySem.Builtin.Str
section
variable{X:Cx}{a:Expr}{pos p2:Pos}{ta:W L}{x:Str}
theorem O6:Ua X (λx lo hi H Q=>∃z,x=.str z/\z.length<=sizeLine/\Q (.str (Txt.slice z lo hi)) H):=by
 intro ab s σ H x v vl vu lo hi sl Q I rx hs pl pu h;obtain⟨z,rfl,hz,q⟩:=h;obtain⟨t,rfl⟩:=rx;refine⟨"str",_,F.slot_str_getitem.lookup,typeIs_str _ _ _,?_⟩
 obtain⟨l',rfl,rfl⟩:∃l':Option (Int×Tok),vl=partValue l'/\lo=l'.map (·.1):=by
  cases pl
  . exact⟨none,rfl,rfl⟩
  . exact⟨some (_,_),rfl,rfl⟩
 obtain⟨u',rfl,rfl⟩:∃l':Option (Int×Tok),vu=partValue l'/\hi=l'.map (·.1):=by
  cases pu
  . exact⟨none,rfl,rfl⟩
  . exact⟨some (_,_),rfl,rfl⟩
 exact wpAny_getItem_str_slice (l:=l') (u:=u') (st:=none) hs rfl (post_val_or_str ⟨X0 (Txt.slice_le z _ _) hz,λt' k=>⟨.str _,H,I.tok k,⟨t',rfl⟩,q⟩⟩)
def Ag(ta:W L)(lo hi:Option (W L)):W L:=λρ kz=>ta ρ λr ρ1=>Uy r λd=>Da lo ρ1 λl ρ2=>Da hi ρ2 λu ρ3=>match d with
 |.lst xs=>∀a,kz (.own a (rM xs l u)) ρ3
 |.str z=>z.length<=sizeLine/\kz (.d (.str (Txt.slice z l u))) ρ3
 |.tup xs=>¬(HT.sIx xs.length 0 l=0/\HT.sIx xs.length xs.length u=xs.length)/\kz (.d (.tup (rM xs l u))) ρ3
 |_=>False
theorem bP{lo hi:Option Expr}{tl th:Option (W L)}(ha:PL X a ta)(hl:UT X lo tl)(hh:UT X hi th):PL X (.Subscript a (.Slice lo hi none p2) pos) (Ag ta tl th):=by
 refine PL.of (HV (Ua.or Lq (Ua.or O6 OA)) (aA ha).pe (O0 hl) (O0 hh)) λσ H Pr ρ kz E h=>?_
 refine⟨Pr,ρ,λr ρ1=>match r with
  | .d d=>Da tl ρ1 λl ρ2=>Da th ρ2 λu ρ3=>match d with
   |.lst xs=>∀a,kz (.own a (rM xs l u)) ρ3
   |.str z=>z.length<=sizeLine/\kz (.d (.str (Txt.slice z l u))) ρ3
   |.tup xs=>¬(HT.sIx xs.length 0 l=0/\HT.sIx xs.length xs.length u=xs.length)/\kz (.d (.tup (rM xs l u))) ρ3
   |_=>False
  |_=>False,E,h,λv H1 r ρ1 E1 pp=>?_⟩
 cases r with
 | d d =>
  obtain⟨_,e1,p1⟩:=E1.head_d;cases e1;refine⟨bM H1 ρ1,ρ1,_,E1.tail.wide,pp,λl H2 ρ2 E2 pp=>?_⟩;have F2:aG X.K Pr H2 (some v::σ) (.d d::ρ2):=aG.step (τ:=[some v]) (lam:=[.d d]) (w:=[]) (μ:=[]) E1 rfl E2 rfl;refine⟨bM H2 ρ2,ρ2,_,F2.tail.wide,pp,λu H3 ρ3 E3 pp=>?_⟩;have F3:aG X.K Pr H3 (some v::σ) (.d d::ρ3):=aG.step (τ:=[some v]) (lam:=[.d d]) (w:=[]) (μ:=[]) F2 rfl E3 rfl;obtain⟨_,e1,p1⟩:=F3.head_d;cases e1
  cases p1 with
  |lst hz rs=>exact .inl ⟨_,_,rfl,hz.l,λq hq=>⟨_,_,F3.tail.cons_own hq (yG rs l u),pp q⟩⟩
  |str z=>exact .inr (.inl ⟨z,rfl,pp.1,_,_,F3.tail.cons_d (.str _),pp.2⟩)
  |tup hz rs=>exact .inr (.inr ⟨_,_,rfl,hz,by rw[rs.length];exact pp.1,λq hq=>⟨_,_,F3.tail.cons_tup hq (yG rs l u),pp.2⟩⟩)
  |_=>exact pp.elim
 |_=>exact pp.elim
def Ra(K:W.Frag):V->List V->Hp->VK->Prop:=λx vs H Q=>∃z a ys zs,x=.str z/\vs=[.ref a]/\(Tz K H a ys∨TB K H a ys)/\ys=zs.map V.str/\(zs.map (·.length)).sum+zs.length*z.length<=16777216/\Q (.str (Txt.join z zs)) H
theorem rP:∀{zs:List Str}{us:List Value},cw (zs.map V.str) us->StrsAre us zs
 |[],_,.nil=>.nil
 | z::zs,_,.cons r t=>by obtain⟨t',rfl⟩:=r;exact .cons z t' (rP t)
theorem Mc:Ug X "str.join" (Ra X.K):=by
 intro ab s σ H x vs v us Q I rx rv h;obtain⟨z,a,ys,zs,rfl,rfl,hq,rfl,hz,q⟩:=h;obtain⟨t,rfl⟩:=rx;obtain⟨u,rfl,ru⟩:=rv.one;cases ru;rcases hq with hq|hq
 . obtain⟨its,r,pl,_⟩:=I.list hq;exact join_list pl.isList (by simpa using rP r) hz λt' k=>⟨.str _,H,I.tok k,⟨t',rfl⟩,q⟩
 . obtain⟨its,r,pl,_⟩:=I.tuple hq;exact join_tuple pl (by simpa using rP r) hz λt' k=>⟨.str _,H,I.tok k,⟨t',rfl⟩,q⟩
end
section
variable{X:Cx}{e a b c:Expr}{es:List Expr}{pos p apos cpos:Pos}{te:W L}{x y:Str}
def Md(z:Str)(te:W L):W L:=λρ kz=>te ρ λr ρ1=>Uy r λd=>jy d λxs=>∃zs,xs=zs.map D.str/\(zs.map (·.length)).sum+zs.length*z.length<=16777216/\kz (.d (.str (Txt.join z zs))) ρ1
theorem rQ{K:W.Frag}{H:Hp}:∀{zs:List Str}{vs:List V},bV K H vs (zs.map D.str)->vs=zs.map V.str
 |[],_,.nil=>rfl
 | z::zs,_,.cons r t=>by obtain rfl:=Us.inv_str r;rw[rQ t];rfl
theorem Me{z:Str}{j:Nat}{pz:Pos}(he:PL X e te)(hs1:autoParam (starEach [e] X.env=[(false,eval e X.env)]) acE) (hbase:autoParam (attributeBase (.Constant (.str z) j pz) "join" X.env (eval (.Constant (.str z) j pz) X.env)=eval (.Constant (.str z) j pz) X.env) acE)
  (hfew:((backTo cpos (starEach [e] X.env)).all (λx=>!x.1) && (backToKw cpos (keywordEach [] X.env)).all (λx=>x.1.isSome)
   && decide (([e]).length+([]:List Keyword).length+(if([]:List Keyword).isEmpty then 0 else 1)<30))=true:=by rfl)
  (hline:autoParam ((apos.endLine == cpos.line)=true) acE) (hplain:autoParam ((backTo cpos (starEach ([]:List Expr) X.env)).any (·.1)=false) acE) :
  PL X (.Call (.Attribute (.Constant (.str z) j pz) "join" apos) [e] [] cpos) (Md z te):=by
 refine PL.of (Lr PySem.F.plainAttrs_str PySem.F.slot_str_join PySem.F.type_str_join Mc Kv (cx (aA he).pe jv hs1) (hbase:=hbase) (hfew:=hfew) (hline:=hline) (hs:=hs1) (hplain:=hplain)) λσ H Pr ρ kz E h=>?_
 refine⟨rfl,Pr,ρ,λr ρ1=>match r with
  |.d d=>jy d λxs=>∃zs,xs=zs.map D.str/\(zs.map (·.length)).sum+zs.length*z.length<=16777216/\kz (.d (.str (Txt.join z zs))) ρ1
  |_=>False,E,h,λv H' r ρ' E' pp=>?_⟩
 cases r with
 | d d =>
  obtain⟨_,e1,p1⟩:=E'.head_d;cases e1
  cases p1 with
  | lst hz rs =>
   obtain⟨zs,rfl,hl,pp⟩:=pp;exact⟨z,_,_,zs,rfl,rfl,.inl hz.l,rQ rs,hl,_,_,E'.tail.cons_d (.str _),pp⟩
  | tup hz rs =>
   obtain⟨zs,rfl,hl,pp⟩:=pp;exact⟨z,_,_,zs,rfl,rfl,.inr hz,rQ rs,hl,_,_,E'.tail.cons_d (.str _),pp⟩
  |_=>exact pp.elim
 |_=>exact pp.elim
theorem Tp.turnedL{ab:List (Addr×Obj)}{σ:St}{H:Hp}{s:Shared}{h':Heap}{t':Nat}{fp:List Addr}(I:Tp X ab σ H s)(k:∀b o,b∉fp->s.heap.get? b=some o->h'.get? b=some o)(hf:∀b∈fp,BN X ab H b):Tp X ab σ H {s with heap:=h',toks:=t' }:=by
 have nit:∀b u,H b=some u->b∉fp:=λb u e z=>by rw[(hf b z).1]at e;cases e
 refine I.step (g':=s.gens) (d':=s.drawn) (ch:=fp) (λb hb=>?_) (λb o _ _ hc e _=>k b o hc e) (λb o _ _ hc e _=>⟨o.slots,k b o hc e⟩) (λ_ _ _ _ n=>n)
  (λb o hc e=>⟨o,k b o hc e⟩) (λ_ _ e=>e) (λ_ _ _ e=>e) (λ_ _ e=>e) (λm hm=>?_) (λb u e=>?_) I.bare
 . obtain⟨f0,f1,f2,f3,f4,f5⟩:=hf b hb;exact⟨f3,f1,f4,f5⟩
 . obtain⟨o,es,ep,ho,r⟩:=hm;exact⟨o,es,ep,k _ o (λz=>(hf _ z).2.1 rfl) ho,r⟩
 .
  refine(I.hok b u e).stay (λc v hc q=>k c v ?_ q) (λ_ q=>q) (λ_ _ q=>q) λ_ _ _ _ q=>q;rcases hc with z|z
  . rw[z];exact nit b u e
  . exact nit c _ z
noncomputable def UX(K:W.Frag)(a:Addr):It :=
 ⟨λi H=>∃xs x,Tz K H a xs/\xs[i]?=some x,λi H v H'=>∃p x,v=.ref p/\H p=none/\H'=Te H p (.tup [.int i,x])/\∀xs,Tz K H a xs->xs[i]?=some x,λi H=>∃xs,Tz K H a xs/\xs.length<=i⟩
theorem Fk{P:Program}{w:World}{K:W.Frag}{k:Nat}(q it a:Addr)(hne:q≠it):HG P w K (.Tuple es k pos) (UX K a) [q,it] q (λi h=>(∃old,IsEnum h q it i old)/\h.IsListIter it a i) where
 mem:=by simp
 obj:=λi h st b hb=>by
  obtain⟨⟨old,he⟩,o,e,c,d⟩:=st;rcases XW.mp hb with rfl|hb
  .
   exact⟨_,he,λv z=>by
    have z':Data.fields _=Data.cell v:=z
    cases z'⟩
  .
   have e':b=it:=by simpa using hb
   subst e';exact⟨o,e,λv z=>by rw[d]at z;cases z⟩
 keep:=λi h h' st kk=>⟨let ⟨old,he⟩:=st.1;⟨old,kk q x_ _ he⟩,st.2.at λo e=>kk it x_ o e⟩
 item:=by
  intro X hP hw hK hc i ab s σ H E I hf st hg;subst hP hw hK;obtain⟨xs,x,hq,hx⟩:=hg;obtain⟨its,rv,p,hz⟩:=I.list hq;obtain⟨u,hu,ru⟩:=rv.get hx;obtain⟨⟨old,he⟩,hit⟩:=st;have hai:a≠it:=λz=>by subst z;obtain⟨o,e,c,d⟩:=hit;obtain⟨o',e',c',_⟩:=p.isList;rw[e]at e';cases e';rw[c]at c';exact absurd c' x_
  have hqa:q≠a:=λz=>by subst z;obtain⟨o',e',c',_⟩:=p.isList;rw[he]at e';cases e';exact absurd c' x_
  have D:=Draws.list (prog:=X.prog) (w:=X.w) (A:=X.A.in1) (I.ok.hd hc) it a hai its.toArray;have hlt:i<its.toArray.size:=by rw[Ye];exact(tu.mp hu).1
  refine wpAny_pyNext_enum_itemD D he ⟨hit,p.isList⟩ hlt hne (by simp[hne,hqa]) λx' h' tk hPx hout hst' htup hsz hk=>?_
  have hx':x'=u:=by
   have:its.toArray[i]?=some u:=by simpa using hu
   rw[this]at hPx;exact(YN hPx).symm
  subst hx';refine⟨.ref s.heap.objs.size,rfl,wpAny_letOwnedTupleGo_enum (s:={s with heap:=h',toks:=tk+1}) hout λh'' he'' hs''=>?_⟩;have qlt:q<s.heap.objs.size:=X2 he;have ilt:it<s.heap.objs.size:=by obtain⟨o,e,_⟩:=hit;exact X2 e
  have I1:Tp X ab σ (Te H s.heap.objs.size (.tup [.int i,x])) {s with heap:=s.heap.push {cls:=.type "tuple",data:=.seq #[.int i tk,x'] },toks:=tk} :=
   I.laid (λb ob q=>p4 _ q) (XZ _) ⟨by show 2<=sizeLine;decide,[.int i tk,x'],.cons ⟨tk,rfl⟩ (.cons ru .nil),⟨_,X5 _ rfl,rfl,_,rfl⟩⟩
  have hf1:∀b∈[q,it],BN X ab (Te H s.heap.objs.size (.tup [.int i,x])) b:=λb hb=>by
   refine⟨?_,(hf b hb).2⟩;rw[aT ?_]
   . exact(hf b hb).1
   .
    rcases XW.mp hb with rfl|hb
    . exact Yi qlt
    . rw[YB.mp hb];exact Yi ilt
  have I2:=I1.turnedL (h':=h'') (t':=tk+1) (fp:=[q,it]) (λb o hb e=>by
   have hbq:b≠q:=λz=>hb (by simp[z]);have hbi:b≠it:=λz=>hb (by simp[z]);refine(hs''.2 b hbq).trans ?_;rcases Heap.get?_push_cases e with⟨rfl,rfl⟩|e
   . exact htup
   .
    exact hk b o hbq hbi e) hf1
  refine⟨.ref s.heap.objs.size,_,I2,rfl,⟨_,x,rfl,I.fresh,rfl,λys hy=>by rw[I.list_inj hy hq];exact hx⟩,⟨⟨_,by simpa using he''⟩,hst'.1.extBut hs''.extBut (YE hne)⟩,λb hb=>(hf1 b hb).1⟩
 done:=by
  intro X hP hw hK hc i ab s σ H E I hf st hg;subst hP hw hK;obtain⟨xs,hq,hx⟩:=hg;obtain⟨its,rv,p,hz⟩:=I.list hq;obtain⟨⟨old,he⟩,hit⟩:=st;have hai:a≠it:=λz=>by subst z;obtain⟨o,e,c,d⟩:=hit;obtain⟨o',e',c',_⟩:=p.isList;rw[e]at e';cases e';rw[c]at c';exact absurd c' x_
  have hl:=rv.length;have hT:s.TypeIs (.ref q) "enumerate":=⟨_,he,rfl⟩;unfold pyNext
  refine kS (aax (Ze (name:=Str.ofString "__next__") hT F.slot_enumerate_next
   (Zt F.slot_enumerate_next hT F.entry_enumerate_next ?_ (F.args_enumerate_next_1 _))))
  show wpAny _ _ (field (.ref q) 2 >>= _) _ _ _;refine kS (YQ he rfl (x:=.ref it) rfl ?_);refine kS (wpAny_nextOf_list_end (I.ok.hd hc) hit p.isList (by simp;omega) λh' x he' hx'=>?_);obtain⟨o,ho,hcc⟩:=hx';refine kS (wpAny_isInstance (T:="StopIteration") (b:=true) ⟨o,ho,hcc⟩ isSubtype_stop ?_);refine X3 ⟨rfl,?_⟩;exact I.turnedL (t':=s.toks) (fp:=[q,it]) (λb o hb e=>he' b o (λz=>hb (by simp[z])) e) hf
 self:=λ_ _ _ _ _ st h=>let ⟨_,he⟩:=st.1;wpAny_pyIter_enum he h
noncomputable def eZ(xs:List D):List D:=xs.zipIdx.map λp=>.tup [.int (p.2:Int),p.1]
theorem Dh{K:W.Frag}{H:Hp}{a:Addr}{vs:List V}{xs:List D}(h:Ur K H a vs)(r:bV K H vs xs):vX K H (UX K a) (eZ xs):=λH' p=>by
 have h':=(h.pres p).l;have fI:(eZ xs).length=vs.length:=by rw[r.length];simp[eZ]
 refine⟨λi x e=>?_,⟨vs,h',by rw[fI];exact XZ _⟩⟩;have hi:i<vs.length:=by rw[<- fI];exact(tu.mp e).1
 have hi2:i<xs.length:=by rw[<- r.length];exact hi
 have ex:x=.tup [.int (i:Int),xs[i]]:=by
  have:(eZ xs)[i]?=some (.tup [.int (i:Int),xs[i]]):=by simp[eZ,hi2]
  rw[this]at e;exact(YN e).symm
 obtain⟨v,ev,rv⟩:=r.get (i:=i) (gV hi2);refine⟨⟨vs,v,h',ev⟩,λw H2 jqz=>?_⟩;obtain⟨q,y,e1,e2,e3,e4⟩:=jqz;have e5:=e4 vs h';rw[ev]at e5;cases e5;subst e1 e3 ex;refine⟨.inr ⟨_,_,e2,rfl⟩,.tup (.inl (.inl (cb ..))) (.cons (.int _) (.cons ((rv.pres p).new e2) .nil))⟩
def wa(t:W L):W (List D):=λρ kz=>t ρ λr ρ1=>Uy r λd=>match d with
 |.lst xs=>kz (eZ xs) ρ1
 |_=>False
theorem iz{k:Nat}{t:W L} (hg:Gl X "enumerate") (hm:X.mg "enumerate"=none) (ha:PL X a t) (hs:autoParam (starEach [a] X.env=[(false,eval a X.env)]) acE):UJ X (.Tuple es k apos) (.Call (.Name "enumerate" p) [a] [] pos) (wa t):=by
 intro ab s σ H Pr ρ kz I E h
 refine Call_ (fk I hg hm boot_enumerate (Yp (Tu (af (aA ha) ag hs pos ab s σ H Pr ρ (λls ρ1=>match ls with
  |[.d (.lst xs)]=>kz (eZ xs) ρ1
  |_=>False) I E ?_) λus s1 h_=>h_.on λvs H1 ls ρ1 I1 r1 hl hb E1 _ q1=>?_) hs rfl))
 .
  show t ρ _
  have e:(λr ρ1=>Uy r λd=>match d with | .lst xs=>kz (eZ xs) ρ1|_=>False)=(λr ρ1=>Uy r λx=>aH ρ1 λxs ρ2=>match L.d x::xs with | [.d (.lst xs)]=>kz (eZ xs) ρ2|_=>False):=by
   funext r ρ1
   cases r with
   |un=>rfl
   |d d=>cases d<;>rfl
   |own=>rfl
   | bx b ls =>
    show fm (cR (.bx b ls)) _=fm (cR (.bx b ls)) _
    cases cR (.bx b ls)with
    |none=>rfl
    |some d=>cases d<;>rfl
   |dic b ls=>rfl
  rw[<- e];exact h
 .
  (try dsimp only at q1)
  split at q1
  .
   rename_i xs
   cases vs with
   |nil=>exact absurd hl x_
   | cons v vs =>
    have:vs=[]:=by
     have:vs.length=0:=by simpa using hl
     exact ZE.mp this
    subst this;obtain⟨_,e1,p1⟩:=aG.head_d (σ:=σ) (ρ:=ρ1) E1;cases e1;obtain⟨_,_,rfl,hz,rs⟩:=Us.inv_lst p1;obtain⟨u,rfl,ru⟩:=r1.one;cases ru;obtain⟨its,rv,pl,hz'⟩:=I1.list hz.l;refine call_enumerate_list pl.isList λh' hE hI hsz hk=>?_;refine wpAny_pyIter_enum (s:={s1 with heap:=h' }) hE ?_;have E2:aG X.K Pr H1 σ ρ1:=aG.tail (σ:=σ) (ρ:=ρ1) E1;refine⟨s1.heap.objs.size+1,[s1.heap.objs.size+1,s1.heap.objs.size],_,_,H1,_,ρ1,rfl,I1.kept (t':=s1.toks) hk,Fk _ _ _ (Nat.succ_ne_self _),⟨⟨_,hE⟩,hI⟩,λb hb=>?_,E2,Dh hz rs,q1⟩
    have hb':s1.heap.objs.size<=b:=by
     rcases XW.mp hb with rfl|hb
     . exact aas _
     . rw[YB.mp hb];exact XZ _
    exact I1.fpOk hb' (I1.hok.fresh hb')
  . exact q1.elim
end
section
variable{X:Cx}{e a b:Expr}{es:List Expr}{pos p p2 apos:Pos}{x y:Str}
noncomputable def UY(K:W.Frag)(a b:Addr):It :=
 ⟨λi H=>∃xs ys x y,Tz K H a xs/\Tz K H b ys/\xs[i]?=some x/\ys[i]?=some y,λi H v H'=>∃p x y,v=.ref p/\H p=none/\H'=Te H p (.tup [x,y])/\(∀xs,Tz K H a xs->xs[i]?=some x)/\∀ys,Tz K H b ys->ys[i]?=some y,
  λi H=>∃xs ys,Tz K H a xs/\Tz K H b ys/\(xs.length<=i∨ys.length<=i)⟩
theorem cU{h:Heap}{l a:Addr}{its:Array Value}{o:Obj}(hl:h.IsList l its)(ho:h.get? a=some o) (hc:o.cls≠.type "list"):l≠a:=λz=>by subst z;obtain⟨o',e',c',_⟩:=hl;rw[ho]at e';cases e';exact hc c'
theorem Iy{P:Program}{w:World}{K:W.Frag}{k:Nat}(z TI TO i1 i2 l1 l2:Addr)(hnd:[z,TI,TO,i1,i2].Nodup):HG P w K (.Tuple es k pos) (UY K l1 l2) [z,TI,TO,i1,i2] z
  (λi h=>IsZip h z TI TO .none/\IsPair h TI (.ref i1) (.ref i2)/\(∃a b,IsPair h TO a b)/\h.IsListIter i1 l1 i/\h.IsListIter i2 l2 i) where
 mem:=by simp
 obj:=λi h st b hb=>by
  obtain⟨hz,hTI,⟨p,q,hTO⟩,⟨o1,e1,c1,d1⟩,⟨o2,e2,c2,d2⟩⟩:=st;simp only[XW,YD,ZU]at hb;rcases hb with rfl|rfl|rfl|rfl|rfl
  .
   exact⟨_,hz,λv z=>by
    have z':Data.fields _=Data.cell v:=z
    cases z'⟩
  .
   exact⟨_,hTI,λv z=>by
    have z':Data.seq _ _=Data.cell v:=z
    cases z'⟩
  .
   exact⟨_,hTO,λv z=>by
    have z':Data.seq _ _=Data.cell v:=z
    cases z'⟩
  . exact⟨o1,e1,λv z=>by rw[d1]at z;cases z⟩
  . exact⟨o2,e2,λv z=>by rw[d2]at z;cases z⟩
 keep:=λi h h' st kk=>by obtain⟨hz,hTI,⟨p,q,hTO⟩,h1,h2⟩:=st;exact⟨kk z x_ _ hz,kk TI x_ _ hTI,⟨p,q,kk TO x_ _ hTO⟩,h1.at λo e=>kk i1 x_ o e,h2.at λo e=>kk i2 x_ o e⟩
 item:=by
  intro X hP hw hK hc i ab s σ H E I hf st hg;subst hP hw hK;obtain⟨xs,ys,x,y,hq1,hq2,hx,hy⟩:=hg;obtain⟨its,rv,pl,_⟩:=I.list hq1;obtain⟨its2,rv2,pl2,_⟩:=I.list hq2;obtain⟨u,hu,ru⟩:=rv.get hx;obtain⟨u2,hu2,ru2⟩:=rv2.get hy;obtain⟨hz,hTI,⟨p,q,hTO⟩,h1,h2⟩:=st;obtain⟨o1,e1,c1,d1⟩:=id h1;obtain⟨o2,e2,c2,d2⟩:=id h2;have n1:o1.cls≠.type "list":=by rw[c1]; simp
  have n2:o2.cls≠.type "list":=by rw[c2]; simp
  simp only[Yr,XW,YD,ZU,not_or,List.nodup_nil,and_true,not_false_eq_true]at hnd;obtain⟨⟨a1,a2,a3,a4⟩,⟨b1,b2,b3⟩,⟨c1',c2'⟩,d1'⟩:=hnd
  have D:ZipApart z TI TO i1 i2 l1 l2:=⟨YE a1,YE a2,YE a3,YE a4,b1,b2,b3,c1',c2',d1',cU pl.isList hz x_,cU pl.isList hTO x_,cU pl.isList e1 n1,cU pl.isList e2 n2,
   cU pl2.isList hz x_,cU pl2.isList hTO x_,cU pl2.isList e1 n1,cU pl2.isList e2 n2⟩
  refine wpAny_pyNext_zip_item D hz hTI hTO h1 h2 pl.isList pl2.isList (x:=u) (y:=u2) (by simpa using hu) (by simpa using hu2) λh' hz' hTO' h1' h2' hT' hsz hk=>?_;refine⟨.ref s.heap.objs.size,rfl,wpAny_letOwnedTupleGo_zip (s:={s with heap:=h' }) hz' λh'' hz'' hs''=>?_⟩
  have lt:∀b∈[z,TI,TO,i1,i2],b<s.heap.objs.size:=λb hb=>by
   simp only[XW,YD,ZU]at hb;rcases hb with rfl|rfl|rfl|rfl|rfl
   . exact X2 hz
   . exact X2 hTI
   . exact X2 hTO
   . exact X2 e1
   . exact X2 e2
  have I1:Tp X ab σ (Te H s.heap.objs.size (.tup [x,y])) {s with heap:=s.heap.push {cls:=.type "tuple",data:=.seq #[u,u2] },toks:=s.toks} :=
   I.laid (λb ob q=>p4 _ q) (XZ _) ⟨by show 2<=sizeLine;decide,[u,u2],.cons ru (.cons ru2 .nil),⟨_,X5 _ rfl,rfl,_,rfl⟩⟩
  have hf1:∀b∈[z,TI,TO,i1,i2],BN X ab (Te H s.heap.objs.size (.tup [x,y])) b:=λb hb=>by refine⟨?_,(hf b hb).2⟩;rw[aT (Yi (lt b hb))];exact(hf b hb).1
  have I2:=I1.turnedL (h':=h'') (t':=s.toks) (fp:=[z,TI,TO,i1,i2]) (λb o hb e=>by
   simp only[XW,YD,ZU,not_or]at hb;obtain⟨hbz,hbTI,hbTO,hb1,hb2⟩:=hb;refine(hs''.2 b hbz).trans ?_;rcases Heap.get?_push_cases e with⟨rfl,rfl⟩|e
   . exact hT'
   .
    exact hk b o hbz hbTO hb1 hb2 e) hf1
  exact⟨.ref s.heap.objs.size,_,I2,rfl,⟨_,x,y,rfl,I.fresh,rfl,λzs hy'=>by rw[I.list_inj hy' hq1];exact hx,λzs hy'=>by rw[I.list_inj hy' hq2];exact hy⟩,
   ⟨hz'',hs''.extBut _ _ D.TIz (hk _ _ D.TIz D.TITO D.TIi1 D.TIi2 hTI),⟨_,_,hs''.extBut _ _ D.TOz hTO'⟩,h1'.extBut hs''.extBut D.i1z,h2'.extBut hs''.extBut D.i2z⟩,λb hb=>(hf1 b hb).1⟩
 done:=by
  intro X hP hw hK hc i ab s σ H E I hf st hg;subst hP hw hK;obtain⟨xs,ys,hq1,hq2,hend⟩:=hg;obtain⟨its,rv,pl,_⟩:=I.list hq1;obtain⟨its2,rv2,pl2,_⟩:=I.list hq2;obtain⟨hz,hTI,⟨p,q,hTO⟩,h1,h2⟩:=st;obtain⟨o1,e1,c1,d1⟩:=id h1;obtain⟨o2,e2,c2,d2⟩:=id h2;have n1:o1.cls≠.type "list":=by rw[c1]; simp
  have n2:o2.cls≠.type "list":=by rw[c2]; simp
  simp only[Yr,XW,YD,ZU,not_or,List.nodup_nil,and_true,not_false_eq_true]at hnd;obtain⟨⟨a1,a2,a3,a4⟩,⟨b1,b2,b3⟩,⟨c1',c2'⟩,d1'⟩:=hnd
  have D:ZipApart z TI TO i1 i2 l1 l2:=⟨YE a1,YE a2,YE a3,YE a4,b1,b2,b3,c1',c2',d1',cU pl.isList hz x_,cU pl.isList hTO x_,cU pl.isList e1 n1,cU pl.isList e2 n2,
   cU pl2.isList hz x_,cU pl2.isList hTO x_,cU pl2.isList e1 n1,cU pl2.isList e2 n2⟩
  have hl:=rv.length;have hl2:=rv2.length
  have hend':its.toArray[i]?=none∨its2.toArray[i]?=none:=by
   rcases hend with h|h
   . exact .inl (by simp;omega)
   . exact .inr (by simp;omega)
  refine wpAny_pyNext_zip_end (I.ok.hd hc) D hz hTI hTO h1 h2 pl.isList pl2.isList hend' λh' hk=>⟨rfl,?_⟩;exact I.turnedL (t':=s.toks) (fp:=[z,TI,TO,i1,i2]) (λb o hb e=>hk b o (λz=>hb (by simp[z])) (λz=>hb (by simp[z])) (λz=>hb (by simp[z])) (λz=>hb (by simp[z])) e) hf
 self:=λ_ _ _ _ _ st h=>wpAny_pyIter_zip st.1 h
noncomputable def o5(xs ys:List D):List D:=(xs.zip ys).map λp=>.tup [p.1,p.2]
theorem Fm{K:W.Frag}{H:Hp}{a b:Addr}{vs ws:List V}{xs ys:List D}(h:Ur K H a vs)(r:bV K H vs xs)(h2:Ur K H b ws)(r2:bV K H ws ys):vX K H (UY K a b) (o5 xs ys):=λH' p=>by
 have h':=(h.pres p).l;have h2':=(h2.pres p).l;have fI:(o5 xs ys).length=min vs.length ws.length:=by rw[r.length,r2.length];simp[o5]
 refine⟨λi x e=>?_,⟨vs,ws,h',h2',by rw[fI];omega⟩⟩;have hi:i<min vs.length ws.length:=by rw[<- fI];exact(tu.mp e).1
 have hi2:i<xs.length:=by rw[<- r.length];omega
 have hi3:i<ys.length:=by rw[<- r2.length];omega
 have ex:x=.tup [xs[i],ys[i]]:=by
  have:(o5 xs ys)[i]?=some (.tup [xs[i],ys[i]]):=by simp[o5,hi2,hi3,List.getElem?_zip_eq_some]
  rw[this]at e;exact(YN e).symm
 obtain⟨v,ev,rv⟩:=r.get (i:=i) (gV hi2);obtain⟨v2,ev2,rv2⟩:=r2.get (i:=i) (gV hi3);refine⟨⟨vs,ws,v,v2,h',h2',ev,ev2⟩,λw H2 jqz=>?_⟩;obtain⟨q,y,y2,e1,e2,e3,e4,e5⟩:=jqz;have e6:=e4 vs h';have e7:=e5 ws h2';rw[ev]at e6;rw[ev2]at e7;cases e6;cases e7;subst e1 e3 ex;refine⟨.inr ⟨_,_,e2,rfl⟩,.tup (.inl (.inl (cb ..))) (.cons ((rv.pres p).new e2) (.cons ((rv2.pres p).new e2) .nil))⟩
theorem Rb{α:Type}{vs:List α}(h:vs.length=2):∃a b,vs=[a,b]:=by
 cases vs with
 |nil=>cases h
 | cons a t =>
  cases t with
  |nil=>cases h
  | cons b t =>
   cases t with
   |nil=>exact⟨_,_,rfl⟩
   |cons _ _=>simp at h
def UZ(ls:List L)(k:D->D->Prop):Prop:=∃a b,ls=[.d a,.d b]/\k a b
theorem KJ(a b:D)(k:D->D->Prop):UZ [.d a,.d b] k=k a b:=propext ⟨fun⟨_,_,e,h⟩=>by cases e;exact h,λh=>⟨_,_,rfl,h⟩⟩
def Mf(d d2:D)(k:List D->Prop):Prop:=match d,d2 with
 |.lst xs,.lst ys=>k (o5 xs ys)
 |_,_=>False
def QD(t u:W L):W (List D):=λρ kz=>t ρ λr ρ1=>Uy r λd=>u ρ1 λr2 ρ2=>Uy r2 λd2=>Mf d d2 λzs=>kz zs ρ2
theorem Fn{k:Nat}{t u:W L} (hg:Gl X "zip") (hm:X.mg "zip"=none) (ha:PL X a t) (hb:PL X b u) (hs:autoParam (starEach [a,b] X.env=[(false,eval a X.env),(false,eval b X.env)]) acE) (hs2:autoParam (starEach [b] X.env=[(false,eval b X.env)]) acE) :
  UJ X (.Tuple es k apos) (.Call (.Name "zip" p) [a,b] [] pos) (QD t u):=by
 intro ab s σ H Pr ρ kz I E h;refine Call_ (fk I hg hm boot_zip (Yp (Tu (af (aA ha) (af (aA hb) ag hs2) (by rw[hs,hs2]) pos ab s σ H Pr ρ (λls ρ1=>UZ ls λd d2=>Mf d d2 λzs=>kz zs ρ1) I E ?_) λus s1 h_=>h_.on λvs H1 ls ρ1 I1 r1 hl hb E1 _ q1=>?_) (by rw[hs,hs2]) (by rw[hs2];rfl)))
 .
  show t ρ _
  have e:(λr ρ1=>Uy r λd=>u ρ1 λr2 ρ2=>Uy r2 λd2=>Mf d d2 λzs=>kz zs ρ2)
    = (λr ρ1=>Uy r λx=>ar (bp u) aH ρ1 λxs ρ2=>UZ (L.d x::xs) λd d2=>Mf d d2 λzs=>kz zs ρ2):=by
   funext r ρ1
   refine Zy (Uy r) (funext λx=>?_);show u ρ1 _=u ρ1 _;refine Zy (u ρ1) (funext λr2=>funext λρ2=>?_);show Uy r2 _=Uy r2 _;exact Zy (Uy r2) (funext λd2=>(KJ x d2 (λd d2=>Mf d d2 λzs=>kz zs ρ2)).symm)
  rw[<- e];exact h
 .
  obtain⟨d,d2,rfl,q1⟩:=q1
  .
   (skip)
   unfold Mf at q1;split at q1
   rotate_left
   . exact q1.elim
   rename_i xs ys _;obtain⟨v,v2,rfl⟩:=Rb (show vs.length=2 by simpa using hl)
   .
    obtain⟨_,e1,p1⟩:=aG.head_d (σ:=some v2::σ) (ρ:=.d (.lst ys)::ρ1) E1;cases e1;obtain⟨_,e1,p2⟩:=aG.head_d (σ:=σ) (ρ:=ρ1) (aG.tail (σ:=some v2::σ) (ρ:=.d (.lst ys)::ρ1) E1);cases e1;obtain⟨_,_,rfl,hz,rs⟩:=Us.inv_lst p1
    cases p2 with
    | lst hz2 rs2 =>
     obtain⟨u1,u2,rfl,ru,ru2⟩:=r1.two;cases ru;cases ru2;obtain⟨its,rv,pl,_⟩:=I1.list hz.l;obtain⟨its2,rv2,pl2,_⟩:=I1.list hz2.l;refine call_zip_2 pl.isList pl2.isList λh' hZ hTI hTO hI1 hI2 hsz hk=>?_;refine wpAny_pyIter_zip (s:={s1 with heap:=h' }) hZ ?_;have E1':aG X.K Pr H1 (some _::some _::σ) (.d _::.d _::ρ1):=E1;have E2:aG X.K Pr H1 σ ρ1:=E1'.tail.tail;refine⟨s1.heap.objs.size+4,[s1.heap.objs.size+4,s1.heap.objs.size+2,s1.heap.objs.size+3,s1.heap.objs.size,s1.heap.objs.size+1],_,_,H1,_,ρ1,rfl,I1.kept (t':=s1.toks) hk,Iy _ _ _ _ _ _ _ x_,⟨hZ,hTI,⟨_,_,hTO⟩,hI1,hI2⟩,λb hb=>?_,E2,Fm hz rs hz2 rs2,q1⟩
     have hb':s1.heap.objs.size<=b:=by
      simp only[XW,YD,ZU]at hb;rcases hb with rfl|rfl|rfl|rfl|rfl
      . exact Y2 _ _
      . exact Y2 _ _
      . exact Y2 _ _
      . exact XZ _
      . exact Y2 _ _
     exact I1.fpOk hb' (I1.hok.fresh hb')
end
section
variable{X:Cx}{e a:Expr}{es:List Expr}{pos p apos cpos:Pos}{te:W L}{x:Str}
def QE(X:Cx)(es:List Expr)(n:Nat)(is:List Nat):Prop:=∃gg:TC,TF X es gg/\es.length=is.length/\∀vs σ H Pr ρ xs k,σ.length=X.N.length->aG X.K Pr H σ ρ->bV X.K H vs xs->ir is xs ρ k->gg vs σ H λσ' H'=>H'=H/\σ'.drop n=σ.drop n/\∃ρ',aG X.K Pr H σ' ρ'/\k ρ'
theorem iA{n:Nat}:QE X [] n []:=⟨_,Ed,rfl,λvs σ H Pr ρ xs k hl E r h=>by
 cases r with
 |nil=>exact⟨rfl,rfl,rfl,ρ,E,h⟩
 |cons _ _=>exact h.elim⟩
theorem bJ{i n:Nat}{is:List Nat}{x:Str}(hn:i<n)(hN:X.N.Nodup)(hi:X.N[i]?=some x)(hx:To X.env.scope x)(hr:QE X es n is)(hf:autoParam (X.fn x=true∨X.env.scope.names.lookup x=some .local) acK)
  (hs:autoParam ((assignEach (.Name x pos::es) X.env).map (·.2)=assign (.Name x pos) X.env::(assignEach es X.env).map (·.2)) acE):QE X (.Name x pos::es) n (i::is):=by
 obtain⟨gg,hg,fI,q⟩:=hr;refine⟨_,BM (vL hN hi hx hf) hg hs,by simp[fI],λvs σ H Pr ρ xs k hl E r h=>?_⟩
 cases r with
 |nil=>exact h.elim
 | cons r0 t =>
  refine⟨_,_,rfl,?_⟩;have:=q _ (σ.set i (some _)) H Pr _ _ k (by simpa using hl) ((E.cons_d r0).store (by rw[hl];exact(tu.mp hi).1)) t h;rw[List.drop_set_of_lt hn]at this;exact this
theorem nv{is:List Nat}{k n:Nat}(hc:X.calm=true)(h:QE X es n is)(hn:autoParam ((assignEach es X.env).length=is.length) acE)(hst:autoParam ((assignEach es X.env).findIdx? (·.1)=none) acE):UP X (.Tuple es k pos) n (dO is):=by
 obtain⟨gg,hg,fI,q⟩:=h;refine⟨_,Kw hc hg hn hst,λv σ H Pr ρ x k hl E r h=>?_⟩
 cases r with
 |tup hs rs=>exact⟨_,_,rfl,hs,by rw[rs.length];exact l9 h,q _ σ H Pr ρ _ k hl E rs h⟩
 |_=>exact h.elim
def Rc(i:Nat)(te:W L):W L:=λρ kz=>Af i ρ λ_ _=>te ρ λr ρ1=>match r with
 |.own _ ys=>Af i ρ1 λa xs=>xs.length+ys.length<=sizeLine/\kz (.d .non) (ρ1.set i (.own a (xs++ys)))
 |_=>False
theorem Fo(i:Nat)(he:PL X e te)(hN:autoParam (X.N[i]?=some x) acE)(hv:autoParam (Tn X.env.scope x) acI) (hd:autoParam ((x == ("__debug__" : Str))=false) acG)
  (hcd:autoParam ((x == ("__classdict__" : Str))=false) acG) (hs1:autoParam (starEach [e] X.env=[(false,eval e X.env)]) acE) (hbase:autoParam (attributeBase (.Name x p) "extend" X.env (eval (.Name x p) X.env)=eval (.Name x p) X.env) acE)
  (hfew:((backTo cpos (starEach [e] X.env)).all (λx=>!x.1) && (backToKw cpos (keywordEach [] X.env)).all (λx=>x.1.isSome)
   && decide (([e]).length+([]:List Keyword).length+(if([]:List Keyword).isEmpty then 0 else 1)<30))=true:=by rfl)
  (hline:autoParam ((apos.endLine == cpos.line)=true) acE) (hplain:autoParam ((backTo cpos (starEach ([]:List Expr) X.env)).any (·.1)=false) acE) :
  PL X (.Call (.Attribute (.Name x p) "extend" apos) [e] [] cpos) (Rc i te):=by
 refine PL.of (Lr PySem.F.plainAttrs_list PySem.F.slot_list_extend PySem.F.type_list_extend Et (jg hN hv hd hcd) (cx he.pe jv hs1) (hbase:=hbase) (hfew:=hfew) (hline:=hline) (hs:=hs1) (hplain:=hplain)) λσ H Pr ρ kz E h=>?_;obtain⟨l,xs0,q0,h⟩:=iw h;obtain⟨hσ,vs0,hl0,_⟩:=E.ownAt q0
 refine⟨.ref l,hσ,.inl ⟨rfl,vs0,Tz.of hl0⟩,Pr,ρ,λr ρ1=>match r with
  |.own _ ys=>Af i ρ1 λa xs=>xs.length+ys.length<=sizeLine/\kz (.d .non) (ρ1.set i (.own a (xs++ys)))
  |_=>False,E,h,λv H' r ρ' E' pp=>?_⟩
 cases r with
 | own bb ys =>
  obtain⟨l',xs,q,fI,pp⟩:=iw pp;obtain⟨hσ',vs,hl,r⟩:=E'.tail.ownAt q;rw[hσ]at hσ';cases hσ';have sl:=E'.sl
  cases sl with
  | cons q0 t =>
   obtain⟨e1,ws,hb,rw'⟩:=q0;cases e1;exact⟨l,bb,vs,ws,rfl,rfl,hl,hb,by rw[r.length,rw'.length];exact fI,_,_,(E'.tail.updOwn q (r.append rw')).cons_d .non,pp⟩
 |_=>exact pp.elim
end
end L2
namespace L2
open PySem PySem.Spec PyProof.Rows
mutual
noncomputable def U0:D->Bool
 |.lst _=>false
 |.dct _=>false
 |.exc _ _ _=>false
 |.fn _ _=>false
 |.dk _ _=>false
 |.gf _=>false
 |.tup xs=>Ah xs
 |_=>true
noncomputable def Ah:List D->Bool
 |[]=>true
 |x::xs=>U0 x && Ah xs
end
mutual
noncomputable def rR:L->Bool
 |.un=>true
 |.d x=>U0 x
 |.own _ xs=>Ah xs
 |.bx _ ls=>wb ls
 |.dic _ kvs=>kvs.all λp=>U0 p.2
noncomputable def wb:List L->Bool
 |[]=>true
 |l::ls=>rR l && wb ls
end
theorem Mg:rR .un=true:=by simp[rR]
theorem O7(x:D):rR (.d x)=U0 x:=by simp[rR]
theorem ID(a:Addr)(xs:List D):rR (.own a xs)=Ah xs:=by simp[rR]
theorem Mh(a:Option Addr)(ls:List L):rR (.bx a ls)=wb ls:=by simp[rR]
theorem IE(a:Addr)(kvs:List (Td×D)):rR (.dic a kvs)=kvs.all λp=>U0 p.2:=by simp[rR]
theorem Fp:wb []=true:=by simp[wb]
theorem Di(l:L)(ls:List L):wb (l::ls)=(rR l && wb ls):=by simp[wb]
noncomputable def uE:L->Bool
 |.d _=>true
 |l=>rR l
theorem IF:uE .un=true:=by simp[uE,rR]
theorem Mi(x:D):uE (.d x)=true:=rfl
theorem Fq(a:Addr)(xs:List D):uE (.own a xs)=Ah xs:=by simp[uE,rR]
theorem Fs(a:Addr)(kvs:List (Td×D)):uE (.dic a kvs)=kvs.all λp=>U0 p.2:=by simp[uE,rR]
theorem IG(a:Option Addr)(ls:List L):uE (.bx a ls)=wb ls:=by simp[uE,rR]
noncomputable def fw(i:Nat)(ρ:Ev):Bool:=(ρ.set i .un).all uE
def U1(o:Option L)(i:Nat)(t:W L)(ρ:Ev)(kz:L->Ev->Prop):Prop:=match o with
 |some (.own _ xs)=>fw i ρ=true/\t (ρ.set i (.d (.lst xs))) λr ρ'=>rR r=true/\ρ'=ρ.set i (.d (.lst xs))/\kz r ρ
 |some (.bx b ls)=>fw i ρ=true/\D7 b ls λx=>t (ρ.set i (.d x)) λr ρ'=>rR r=true/\ρ'=ρ.set i (.d x)/\kz r ρ
 |_=>t ρ kz
theorem Mj(a:Addr)(xs:List D)(i:Nat)(t:W L)(ρ:Ev)(kz:L->Ev->Prop):U1 (some (.own a xs)) i t ρ kz=(fw i ρ=true/\t (ρ.set i (.d (.lst xs))) λr ρ'=>rR r=true/\ρ'=ρ.set i (.d (.lst xs))/\kz r ρ):=rfl
theorem O8(b:Option Addr)(ls:List L)(i:Nat)(t:W L)(ρ:Ev)(kz:L->Ev->Prop):U1 (some (.bx b ls)) i t ρ kz=(fw i ρ=true/\D7 b ls λx=>t (ρ.set i (.d x)) λr ρ'=>rR r=true/\ρ'=ρ.set i (.d x)/\kz r ρ):=rfl
theorem Re(x:D)(i:Nat)(t:W L)(ρ:Ev)(kz:L->Ev->Prop):U1 (some (.d x)) i t ρ kz=t ρ kz:=rfl
def U2(o:Option L)(i:Nat)(t:W Bool)(ρ:Ev)(kz:Bool->Ev->Prop):Prop:=match o with
 |some (.own _ xs)=>fw i ρ=true/\t (ρ.set i (.d (.lst xs))) λr ρ'=>ρ'=ρ.set i (.d (.lst xs))/\kz r ρ
 |some (.bx b ls)=>fw i ρ=true/\D7 b ls λx=>t (ρ.set i (.d x)) λr ρ'=>ρ'=ρ.set i (.d x)/\kz r ρ
 |_=>t ρ kz
theorem Ml(a:Addr)(xs:List D)(i:Nat)(t:W Bool)(ρ:Ev)(kz:Bool->Ev->Prop):U2 (some (.own a xs)) i t ρ kz=(fw i ρ=true/\t (ρ.set i (.d (.lst xs))) λr ρ'=>ρ'=ρ.set i (.d (.lst xs))/\kz r ρ):=rfl
theorem O9(b:Option Addr)(ls:List L)(i:Nat)(t:W Bool)(ρ:Ev)(kz:Bool->Ev->Prop):U2 (some (.bx b ls)) i t ρ kz=(fw i ρ=true/\D7 b ls λx=>t (ρ.set i (.d x)) λr ρ'=>ρ'=ρ.set i (.d x)/\kz r ρ):=rfl
theorem Rf(x:D)(i:Nat)(t:W Bool)(ρ:Ev)(kz:Bool->Ev->Prop):U2 (some (.d x)) i t ρ kz=t ρ kz:=rfl
variable{X:Cx}
variable{X:Cx}
theorem qY:∀{ns:List Int}{us:List Value},cw (ns.map V.int) us->IntsAre us ns
 |[],_,r=>by cases r;exact .nil
 | n::ns,_,r=>by
  cases r with
  | cons r0 rs =>
   obtain⟨t,rfl⟩:=r0;exact .cons n t (qY rs)
theorem AF:∀{ns:List Int}{us:List Value},IntsAre us ns->cw (ns.map V.int) us
 |_,_,.nil=>.nil
 |_,_,.cons n t r=>.cons ⟨t,rfl⟩ (AF r)
theorem yJ(hc:X.calm=true):g8 X (.builtin "sum") (λxs H Q=>∃(p:Addr)(ns:List Int),xs=[.ref p]/\Tz X.K H p (ns.map V.int)/\Q (.int ns.sum) H):=by
 intro ab s σ H xs us Q I r h;obtain⟨p,ns,rfl,hq,q⟩:=h;obtain⟨u,rfl,rx⟩:=rn r;cases rx;obtain⟨its,r',pl,hz⟩:=I.list hq;have hi:=qY r';obtain⟨xs,hx⟩:=hi.allInts.items;have hl':s.heap.IsList p (intItems xs):=hx ▸ pl.isList;refine sum_intListG (I.ok.hd hc) hl' λh' tk t' hk=>?_;have e1:ns=xs.toList.map (·.1):=by rw[<- nums_intItems,<- hx];exact(show numsOf its.toArray.toList=ns from hi.numsOf).symm
 have e2:preSum (numAt xs) xs.size=ns.sum:=by rw[preSum_eq,Yy x_,e1]
 rw[e2];exact⟨.int ns.sum,H,I.kept hk,⟨_,rfl⟩,q⟩
theorem rS{h:Heap}{vs:List Value}{out:Array Value}:(∀ b o,h.get? b=some o->(sortedAll h vs out).get? b=some o)/\∃ c,(sortedAll h vs out).get? (h.objs.size+1)=some {cls:=.type "list",dict:=none,data:=.seq out c,slots:=#[] }:=by
 refine⟨λb o e=>sortedAll_old e,?_⟩;have hsz:((h.push (seqObj "list" #[] 0)).update h.objs.size (Obj.mapSeq (·++vs.toArray))).objs.size=h.objs.size+1:=by rw[Heap.size_update,size_push']
 have hoL:(((h.push (seqObj "list" #[] 0)).update h.objs.size (Obj.mapSeq (·++vs.toArray))).push (seqObj "list" vs.toArray 0)).get? (h.objs.size+1)=some (seqObj "list" vs.toArray 0):=by rw[<- hsz];exact X5 _ rfl
 obtain⟨c,hc⟩:=sortedHeap_at (out:=out) hoL;exact⟨c,hc⟩
theorem rT:g8 X (.builtin "sorted") (λxs H Q=>∃(p:Addr)(ns:List Int),xs=[.ref p]/\Tz X.K H p (ns.map V.int)/\ns.length < 64/\∀ l,H l=none->Q (.ref l) (Te H l (.lst ((W.sortI ns).map V.int)))):=by
 intro ab s σ H xs us Q I r h;obtain⟨p,ns,rfl,hq,h64,q⟩:=h;obtain⟨u,rfl,rx⟩:=rn r;cases rx;obtain⟨its,r',pl,hz⟩:=I.list hq;have hi:=qY r';have fI:its.length=ns.length:=by have:=r'.length;simpa using this.symm
 refine sorted_ints pl.isList hi xL λout ns' a1 a2 a3=>?_;have e:=W.eq_sortI a2 a3;subst e;obtain⟨k1,c,k2⟩:=rS (h:=s.heap) (vs:=its) (out:=out);refine⟨.ref (s.heap.objs.size+1),_,I.laid (t':=s.toks) k1 (aas _) (show fj X.prog X.w _ _ _ (.lst ((W.sortI ns).map V.int))from⟨?_,out.toList,c,AF a1,by simpa using k2⟩),rfl,q _ (I.hok.fresh (aas _))⟩;rw[tv,(W.sortI_perm ns).length_eq];exact X0 (Za h64) xp
theorem fZ{K:W.Frag}{H:Hp}:∀{vs:List V}{ns:List Int},bV K H vs (ns.map D.int)->vs=ns.map V.int
 |_,[],r=>by cases r;rfl
 | _,n::ns,r=>by
  cases r with
  | cons r0 rs =>
   obtain rfl:=Us.inv_int r0;rw[fZ rs];rfl
def Pa:UM:=λds k=>∃ns:List Int,ds=[.lst (ns.map D.int)]/\k (.d (.int ns.sum))
theorem Pb(hc:X.calm=true):eB X (.builtin "sum") Pa:=eB.of (yJ hc) λσ H Pr ρ vs ds kz E ps ⟨ns,e,h⟩=>by subst e;obtain⟨v,rfl,r⟩:=oY ps;obtain⟨_,_,rfl,hz,rs⟩:=Us.inv_lst r;have:=fZ rs;subst this;exact⟨_,ns,rfl,hz.l,_,E.cons_d (.int _),h⟩
def B8:UM:=λds k=>∃ns:List Int,ds=[.lst (ns.map D.int)]/\ns.length<64/\∀a,k (.own a ((W.sortI ns).map D.int))
theorem Ft:eB X (.builtin "sorted") B8:=eB.of rT λσ H Pr ρ vs ds kz E ps ⟨ns,e,h64,h⟩=>by subst e;obtain⟨v,rfl,r⟩:=oY ps;obtain⟨_,_,rfl,hz,rs⟩:=Us.inv_lst r;have:=fZ rs;subst this;exact⟨_,ns,rfl,hz.l,h64,λl hl=>⟨_,E.cons_own hl (nu _),h l⟩⟩
variable{X:Cx}
section
variable{X:Cx}{e b:Expr}{p:Pos}{x:Str}
theorem rV{prog:Program}{w:World}{A:Around}{ks:List Bool}{us:List Value}(h:us=ks.map Value.bool):TruthOf prog w A (λi v=>us.toArray[i]?=some v) (λi=>ks.getD i true):=λi v s Q E hv hQ=>by
 subst h;rw[List.getElem?_toArray,X1]at hv
 cases q:ks[i]? with
 |none=>rw[q]at hv;cases hv
 | some k =>
  rw[q]at hv;cases hv;refine ZW ?_;have:ks.getD i true=k:=by rw[k4,q];rfl
  have hQ':Q (ks.getD i true) s:=hQ;rw[this]at hQ';exact hQ'
theorem Fu(ks:List Bool):(List.range ks.length).all (λi=>ks.getD i true)=ks.all id:=by
 apply Bool.eq_iff_iff.mpr;simp only[List.all_eq_true,Yb,id];constructor
 . intro h x hx;obtain⟨i,hi,e⟩:=List.getElem_of_mem hx;have:=h i hi;rw[k4,gV hi]at this;simpa[e]using this
 . intro h i hi;rw[k4,gV hi];exact h _ (X8 hi)
theorem Fv(ks:List Bool):(List.range ks.length).any (λi=>ks.getD i true)=ks.any id:=by
 apply Bool.eq_iff_iff.mpr;simp only[List.any_eq_true,Yb,id];constructor
 . rintro⟨i,hi,e⟩;rw[k4,gV hi]at e;exact⟨_,X8 hi,e⟩
 . rintro⟨x,hx,e⟩;obtain⟨i,hi,e2⟩:=List.getElem_of_mem hx;refine⟨i,hi,?_⟩;rw[k4,gV hi];simpa[e2]using e
theorem o6:∀{ks:List Bool}{us:List Value},cw (ks.map V.bl) us->us=ks.map Value.bool
 |[],_,.nil=>rfl
 | k::ks,_,.cons r t=>by have e:=o6 t;subst e;cases r;rfl
theorem yK(hc:X.calm=true):g8 X (.builtin "all") (λxs H Q=>∃(p:Addr)(ks:List Bool),xs=[.ref p]/\Tz X.K H p (ks.map V.bl)/\Q (.bl (ks.all id)) H):=by
 intro ab s σ H xs us Q I r ⟨p,ks,e,hq,q⟩;subst e;obtain⟨u,rfl,r1⟩:=rn r;cases r1;obtain⟨its,rv,pl,hz⟩:=I.list hq;have e:=o6 rv;refine call_all_walk (wpAny_pyIter_list pl.isList ?_);have hne:p≠s.heap.objs.size:=λz=>by obtain⟨o,n,eo,_⟩:=pl;have:=X2 eo;rw[z]at this;exact absurd this (Y1 _)
 refine⟨s.heap.objs.size,_,_,_,_,_,(λi=>ks.getD i true),rfl,Walks.list (A:=X.A.in1) (I.ok.hd hc) _ p hne its.toArray,⟨⟨_,X5 _ rfl,rfl,rfl⟩,pl.isList.at λo eo=>p4 _ eo⟩,rV e,λh' tk hk=>?_⟩;have hl:its.toArray.size=ks.length:=by rw[e];simp
 rw[hl,Fu];refine⟨.bl _,H,I.kept (h':=h') (t':=tk) λb o eb=>hk b o (λhm=>?_) (p4 _ eb),rfl,q⟩;have e2:b=s.heap.objs.size:=by simpa using hm
 have:=X2 eb;rw[e2]at this;exact absurd this (Y1 _)
theorem yL(hc:X.calm=true):g8 X (.builtin "any") (λxs H Q=>∃(p:Addr)(ks:List Bool),xs=[.ref p]/\Tz X.K H p (ks.map V.bl)/\Q (.bl (ks.any id)) H):=by
 intro ab s σ H xs us Q I r ⟨p,ks,e,hq,q⟩;subst e;obtain⟨u,rfl,r1⟩:=rn r;cases r1;obtain⟨its,rv,pl,hz⟩:=I.list hq;have e:=o6 rv;refine call_any_walk (wpAny_pyIter_list pl.isList ?_);have hne:p≠s.heap.objs.size:=λz=>by obtain⟨o,n,eo,_⟩:=pl;have:=X2 eo;rw[z]at this;exact absurd this (Y1 _)
 refine⟨s.heap.objs.size,_,_,_,_,_,(λi=>ks.getD i true),rfl,Walks.list (A:=X.A.in1) (I.ok.hd hc) _ p hne its.toArray,⟨⟨_,X5 _ rfl,rfl,rfl⟩,pl.isList.at λo eo=>p4 _ eo⟩,rV e,λh' tk hk=>?_⟩;have hl:its.toArray.size=ks.length:=by rw[e];simp
 rw[hl,Fv];refine⟨.bl _,H,I.kept (h':=h') (t':=tk) λb o eb=>hk b o (λhm=>?_) (p4 _ eb),rfl,q⟩;have e2:b=s.heap.objs.size:=by simpa using hm
 have:=X2 eb;rw[e2]at this;exact absurd this (Y1 _)
theorem iB{K:W.Frag}{H:Hp}:∀{vs:List V}{ks:List Bool},bV K H vs (ks.map D.bl)->vs=ks.map V.bl
 |[],[],_=>rfl
 | _::_,k::ks,.cons r t=>by obtain rfl:=Us.inv_bl r;rw[iB t];rfl
 |[],_::_,r=>nomatch r
 |_::_,[],r=>nomatch r
def Pc:UM:=λds k=>∃ks:List Bool,ds=[.lst (ks.map D.bl)]/\k (.d (.bl (ks.all id)))
def Pd:UM:=λds k=>∃ks:List Bool,ds=[.lst (ks.map D.bl)]/\k (.d (.bl (ks.any id)))
theorem Pe(hc:X.calm=true):eB X (.builtin "all") Pc:=eB.of (yK hc) λσ H Pr ρ vs ds kz E ps ⟨ks,e,h⟩=>by subst e;obtain⟨v,rfl,r⟩:=oY ps;obtain⟨_,_,rfl,hz,rs⟩:=Us.inv_lst r;have e:=iB rs;subst e;exact⟨_,ks,rfl,hz.l,_,E.cons_d (.bl _),h⟩
theorem Pf(hc:X.calm=true):eB X (.builtin "any") Pd:=eB.of (yL hc) λσ H Pr ρ vs ds kz E ps ⟨ks,e,h⟩=>by subst e;obtain⟨v,rfl,r⟩:=oY ps;obtain⟨_,_,rfl,hz,rs⟩:=Us.inv_lst r;have e:=iB rs;subst e;exact⟨_,ks,rfl,hz.l,_,E.cons_d (.bl _),h⟩
end
end L2
set_option exponentiation.threshold 2000
namespace L2
open PySem PySem.Spec PyProof.Rows
section
variable{X:Cx}{e a b c tg:Expr}{pos p:Pos}{x:Str}
noncomputable def U3(lo c:Int)(n:Nat):It:=⟨λi _=>i<n,λi H x H'=>H'=H/\x=.int (lo+i*c),λi _=>n<=i⟩
theorem AG{P:Program}{w:World}{K:W.Frag}{tg:Expr}(it:Addr)(lo c:Int)(n:Nat):HG P w K tg (U3 lo c n) [it] it (λi h=>IsRangeIter h it (lo+(i:Nat)*c) ((n:Int)-(i:Nat)) c) where
 mem:=by simp
 obj:=λi h st b hb=>by
  have e:b=it:=by simpa using hb
  subst e
  exact⟨_,st,λv z=>by
   have z':Data.fields _=Data.cell v:=z
   cases z'⟩
 keep:=λi h h' st k=>k it x_ _ st
 item:=by intro X hP hw hK hc i ab s σ H E I hf st hg;subst hP hw hK;obtain⟨f0,f1,f2,f3,f4,f5⟩:=hf it x_;have W:=Walks.range (prog:=X.prog) (w:=X.w) (I.ok.hd hc) it lo c n;refine W.item i s _ _ hg st λv h' tk hv st' kk=>?_;obtain⟨t,rfl⟩:=hv;have I1:Tp X ab σ H {s with heap:=h',toks:=tk}:=I.turned (λb o hb e=>kk b o (by simpa using hb) e) f0 f1 f3 f4 f5;exact⟨_,rfl,Ee (s:={s with heap:=h',toks:=tk}) (n:="range_iterator") st' rfl rfl xp ⟨.int (lo+i*c),H,I1,⟨t,rfl⟩,⟨rfl,rfl⟩,st',λb hb=>(hf b hb).1⟩⟩
 done:=by intro X hP hw hK hc i ab s σ H E I hf st hg;subst hP hw hK;obtain⟨f0,f1,f2,f3,f4,f5⟩:=hf it x_;exact wpAny_pyNext_range_end (I.ok.hd hc) st (by have:n<=i:=hg;omega) λh' eb=>⟨rfl,I.turned (t':=s.toks) (λb o hb e=>eb b o hb e) f0 f1 f3 f4 f5⟩
 self:=λ_ _ _ _ _ st h=>wpAny_pyIter_rangeiter st h
noncomputable def KL(lo hi c:Int):Nat:=(Builtin.Range.rangeSize lo hi c).toNat
noncomputable def Ea(lo c:Int)(n:Nat):List D:=(List.range n).map λ(i:Nat)=>.int (lo+(i:Int)*c)
theorem Dj{K:W.Frag}{H:Hp}(lo c:Int)(n:Nat):vX K H (U3 lo c n) (Ea lo c n):=λH' p=>by
 refine⟨λi x e=>?_,?_⟩
 .
  have hi:i<n:=by have:=(tu.mp e).1;simpa[Ea]using this
  refine⟨hi,λv H2 jqz=>?_⟩;obtain⟨e1,e2⟩:=jqz;subst e1 e2;have:x=.int (lo+(i:Int)*c):=by unfold Ea at e;rw[X1,Yn hi]at e;simpa using e.symm
  subst this;exact⟨.inl rfl,.int _⟩
 . show n<=(Ea lo c n).length;simp[Ea]
def uF(j:Int):Prop:=-1000000<=j/\j<1000000
def Mm(t u v:W L):W (List D):=λρ kz=>t ρ λr ρ1=>ma r λi=>u ρ1 λr ρ2=>ma r λj=>v ρ2 λr ρ3=>ma r λc=>uF i/\uF j/\0<c/\c<1000/\kz (Ea i c (KL i j c)) ρ3
theorem vm{lo hi c:Int}(h1:uF lo)(h2:uF hi)(h3:0<c)(h4:c<1000):0<=Builtin.Range.rangeSize lo hi c/\Builtin.Range.rangeSize lo hi c<=2000000:=by
 unfold Builtin.Range.rangeSize;rw[if_pos h3];unfold uF at h1 h2;split
 . have h5:0<=(hi-lo-1) / c:=Int.ediv_nonneg xL xL;have h6:(hi-lo-1) / c<=hi-lo-1:=Int.ediv_le_self _ xL;omega
 . omega
theorem Dk{lo hi c:Int}(h1:uF lo)(h2:uF hi)(h3:0<c)(h4:c<1000):Builtin.Range.small lo hi c=true:=by have hz:=vm h1 h2 h3 h4;unfold uF at h1 h2;unfold Builtin.Range.small;rw[if_pos h3];generalize Builtin.Range.rangeSize lo hi c=z at hz;simp only[Builtin.Range.rangeFitsLong,YI,Bool.or_eq_true,Zz,beq_iff_eq];omega
theorem IH{t u v:W L}{p pos:Pos} (hg:Gl X "range") (hm:X.mg "range"=none) (ha:PL X a t) (hb:PL X b u) (hc':PL X c v) (hs:autoParam (starEach [a,b,c] X.env=[(false,eval a X.env),(false,eval b X.env),(false,eval c X.env)]) acE) (hs2:autoParam (starEach [b,c] X.env=[(false,eval b X.env),(false,eval c X.env)]) acE) (hs3:autoParam (starEach [c] X.env=[(false,eval c X.env)]) acE):UJ X tg (.Call (.Name "range" p) [a,b,c] [] pos) (Mm t u v):=by
 intro ab s σ H Pr ρ kz I E h;refine Call_ (fk I hg hm boot_range (Yp (Tu (cx ha.pe (cx hb.pe (cx hc'.pe jv hs3) (hs2.trans (by rw[hs3]))) (hs.trans (by rw[hs2])) pos ab s σ H (λvs H1=>∃(i j c:Int)(ρ1:Ev),vs=[.int i,.int j,.int c]/\uF i/\uF j/\0<c/\c<1000/\aG X.K Pr H1 σ ρ1/\kz (Ea i c (KL i j c)) ρ1) I ?_) λus s1 ⟨vs,H1,I1,r1,i,j,c,ρ1,e,h1,h2,h3,h4,E1,q⟩=>?_) (by rw[hs,hs2]) (by rw[hs2];rfl)))
 . refine⟨Pr,ρ,_,E,h,λv H' r ρ' E' p=>?_⟩;obtain⟨i,rfl,p⟩:=cX p;obtain⟨_,e1,p1⟩:=E'.head_d;cases e1;obtain rfl:=Us.inv_int p1;refine⟨Pr,ρ',_,E'.tail,p,λv H2 r ρ2 E2 p=>?_⟩;obtain⟨j,rfl,p⟩:=cX p;obtain⟨_,e1,p1⟩:=E2.head_d;cases e1;obtain rfl:=Us.inv_int p1;refine⟨Pr,ρ2,_,E2.tail,p,λv H3 r ρ3 E3 p=>?_⟩;obtain⟨c,rfl,h1,h2,h3,h4,p⟩:=cX p;obtain⟨_,e1,p1⟩:=E3.head_d;cases e1;obtain rfl:=Us.inv_int p1;exact⟨i,j,c,ρ3,rfl,h1,h2,h3,h4,E3.tail,p⟩
 .
  subst e
  cases r1 with
  | cons r rr =>
   cases rr with
   | cons r' rr =>
    cases rr with
    | cons r'' rr =>
     cases rr;obtain⟨t,rfl⟩:=r;obtain⟨t',rfl⟩:=r';obtain⟨t'',rfl⟩:=r'';refine call_range_3 xL ?_ (.inl (PyProof.noPylong_small xL));refine wpAny_pyIter_range (IsRange.new ..) (Dk h1 h2 h3 h4) ?_;have I2:Tp X ab σ H1 {s1 with heap:=s1.heap.push {cls:=.type "range",data:=.fields #[.int i t,.int j t',.int c t''] },toks:=s1.toks}:=I1.kept λb o e=>p4 _ e
     refine⟨(s1.heap.push {cls:=.type "range",data:=.fields #[.int i t,.int j t',.int c t''] }).objs.size,[(s1.heap.push {cls:=.type "range",data:=.fields #[.int i t,.int j t',.int c t''] }).objs.size],_,_,H1,_,ρ1,rfl,
      I2.kept (t':=s1.toks) λb o e=>p4 _ e,AG _ i c (KL i j c),?_,λb hb=>?_,E1,Dj i c _,q⟩
     .
      have e1:i+((0:Nat):Int)*c=i:=by simp
      have e2:((KL i j c:Nat):Int)-((0:Nat):Int)=Builtin.Range.rangeSize i j c:=by have:=(vm h1 h2 h3 h4).1;unfold KL;omega
      show IsRangeIter _ _ (i+((0:Nat):Int)*c) (((KL i j c:Nat):Int)-((0:Nat):Int)) c;rw[e1,e2];exact X5 _ rfl
     .
      have e:b=(s1.heap.push {cls:=.type "range",data:=.fields #[.int i t,.int j t',.int c t''] }).objs.size:=by simpa using hb
      subst e;exact I2.fpOk (XZ _) (I2.hok.fresh (XZ _))
mutual
noncomputable def gh:D->Bool
 |.int i=>decide (i.natAbs<2^1900)
 |.tup xs=>iC xs
 |.lst xs=>iC xs
 |_=>true
noncomputable def iC:List D->Bool
 |[]=>true
 |x::xs=>gh x && iC xs
end
theorem Mn:(2:Nat)^1900<10^600:=by decide +kernel
theorem Fw{i:Int}(h:i.natAbs<2^1900):(PyData.shown (.int i)).length<=601:=by have e:=PySem.int_text_length_le10 (k:=600) xp (Nat.lt_trans h Mn);show(Str.ofString (toString i)).length<=601;rw[PySem.ofString_length];exact e
mutual
theorem q5:∀d:D,gh d=true->(UK d).intsShort 601=true/\(UK d).showable=true
 |.non,_=>⟨rfl,rfl⟩
 |.bl _,_=>⟨rfl,rfl⟩
 |.str _,_=>⟨rfl,rfl⟩
 |.dct _,_=>⟨rfl,rfl⟩
 |.exc _ _ _,_=>⟨rfl,rfl⟩
 |.fn _ _,_=>⟨rfl,rfl⟩
 |.dk _ _,_=>⟨rfl,rfl⟩
 |.gf _,_=>⟨rfl,rfl⟩
 | .int i,h=>by
  have h':i.natAbs<2^1900:=by simpa only[gh,Zz]using h
  refine⟨by simp only[UK,PyData.intsShort,Zz];exact Fw h',?_⟩
  simp only[UK,PyData.showable,Zz]
  by_cases h0:i.natAbs=0
  .
   rw[h0];decide
  .
   exact(Nat.log2_lt h0).mpr (XX h' (X9 xp xp))
 | .tup xs,h=>by
  obtain⟨h1,h2⟩:=rW xs (by simpa only[gh]using h)
  exact⟨by simpa only[UK,PyData.intsShort]using h1,by simpa only[UK,PyData.showable]using h2⟩
 | .lst xs,h=>by
  obtain⟨h1,h2⟩:=rW xs (by simpa only[gh]using h)
  exact⟨by simpa only[UK,PyData.intsShort]using h1,by simpa only[UK,PyData.showable]using h2⟩
theorem rW:∀ds:List D,iC ds=true->PyData.intsShortAll 601 (fg ds)=true/\PyData.showableAll (fg ds)=true
 |[],_=>⟨rfl,rfl⟩
 | d::ds,h=>by
  simp only[iC,YI]at h
  obtain⟨h1,h2⟩:=q5 d h.1
  obtain⟨h3,h4⟩:=rW ds h.2
  exact⟨by simp only[fg,PyData.intsShortAll,h1,h3,Bool.and_self],by simp only[fg,PyData.showableAll,h2,h4,Bool.and_self]⟩
end
structure B9 (d:D):Prop where
 ok:UW 40 d=true
 sh:gh d=true
 wt:(UK d).weight<=20000
theorem B9.len{d:D}(h:B9 d):(UK d).shown.length<=sizeLine:=by
 have h1:=PyData.shown_le 601 xp (UK d) (PyData.leavesShort_of_canLay0 601 _ (AE 40 d h.ok).1 (q5 d h.sh).1);have h2:=h.wt;have e:sizeLine=16777216:=by decide
 rw[e];omega
def U4(f:Fl)(o:Option L)(j:Nat)(ρ1:Ev)(kz:Fl->Ev->Prop):Prop:=match f with
 | .nx=>(match o with
  |some (.own _ xs)=>kz .nx (ρ1.set j (.d (.lst xs)))
  |_=>kz .nx ρ1)
 |f=>kz f ρ1
def QF(j:Nat)(t:W Fl):W Fl:=λρ kz=>t ρ λf ρ1=>U4 f ρ1[j]? j ρ1 kz
theorem Mo(a:Addr)(xs:List D)(j:Nat)(ρ1:Ev)(kz:Fl->Ev->Prop):U4 .nx (some (.own a xs)) j ρ1 kz=kz .nx (ρ1.set j (.d (.lst xs))):=rfl
theorem Rg(x:D)(j:Nat)(ρ1:Ev)(kz:Fl->Ev->Prop):U4 .nx (some (.d x)) j ρ1 kz=kz .nx ρ1:=rfl
theorem Pg{st:Stmt}{t:W Fl}(j:Nat)(h:PM X st t):PM X st (QF j t):=by
 intro ab s σ H Pr ρ kz I E ht;refine Tu (h ab s σ H Pr ρ _ I E ht) λf s1 q=>?_
 cases f with
 |ret v=>exact q
 |brk=>exact q
 |cont=>exact q
 | next =>
  obtain⟨σ',H',ρ',I',E',p⟩:=q;unfold U4 at p
  (try dsimp only at p)
  split at p
  rotate_left
  . exact⟨σ',H',ρ',I',E',p⟩
  rename_i a xs hj;obtain⟨hs,vs,ha,rs⟩:=E'.ownAt hj;obtain⟨o,I2⟩:=I'.freezeL ha;have E2:=(E'.out hj).freeze ha o;have hi:j<ρ'.length:=(tu.mp hj).1;have E3:=E2.back (i:=j) (by simp[hi]) hs;rw[List.set_set]at E3;exact⟨σ',_,_,I2,E3,p⟩
end
theorem aG.closeT{K:W.Frag}{Pr H:Hp}{σ:St}{ρ:Ev}{a:Addr}{vs:List V}{ls:List L}(hl:vs.length=ls.length)(h:TB K H a vs)(E:aG K Pr H (vs.map some++σ) (ls++ρ)):aG K Pr H (some (.ref a)::σ) (.bx none ls::ρ):=by
 obtain⟨s1,s2⟩:=Paired.unapp (by simp[hl]) E.sl;have ow:owns (.bx none ls::ρ)=owns (ls++ρ):=by rw[aP,aK];simp only[bY,Option.toList,Yk,et]
 refine⟨E.sub,by rw[ow];exact E.nd,λb hb=>E.off b (by rw[<- ow];exact hb),.cons ?_ s2⟩;unfold bZ;exact⟨a,vs,rfl,h,de.mpr s1⟩
section
variable{X:Cx}{e b:Expr}{es:List Expr}{pos:Pos}
def yM(t:W (List L)):W L:=λρ kz=>t ρ λls ρ1=>ls.length<=sizeLine/\kz (.bx none ls) ρ1
theorem o7 {x1} {bs:List (Option Nat)} {t:W (List L)} (h:Uu X es bs t):PL X (.Tuple es x1 pos) (yM t):=by intro ab s σ H Pr ρ kz I E hq;refine wpAny_Tuple_spliced (Tu (h pos ab s σ H Pr ρ _ I E hq) λus s1 jqz=>?_);obtain⟨vs,H1,ls,ρ1,I1,r,hl,hb,E1,hv,z,q⟩:=jqz;refine⟨by rw[<- r.length,hl];exact z,?_⟩;have hf:H1 s1.heap.objs.size=none:=I1.hok.fresh (XZ _);have E2:aG X.K Pr (Te H1 s1.heap.objs.size (.tup vs)) (vs.map some++σ) (ls++ρ1):=E1.new hf;refine⟨.ref s1.heap.objs.size,Te H1 s1.heap.objs.size (.tup vs),_,ρ1,I1.laid (t':=s1.toks) (λb u e=>p4 _ e) (XZ _) ?_,rfl,E2.closeT hl (TB.of cb),q⟩;exact⟨by rw[hl];exact z,us,r,⟨_,X5 _ rfl,rfl,_,rfl⟩⟩
end
structure FX (K:W.Frag) (mg:Str->Option Value) (g:Str) (st:Stmt) (a:Addr) (fd:FuncData) (P:List Str):Prop where
 f:Uq K g g st a fd
 b:Am K fd P []
 m:mg g=some (.ref a)
noncomputable abbrev U5(g:Str)(st:Stmt)(md:Value)(c:Nat):FuncData:=W.fnOf g g (oW st) (jx st) (aj st) .none .none .none md none (.ref c) .none
theorem FX.mk'{K:W.Frag}{mg:Str->Option Value}{h:Heap}(X:K.In h)(G:h.Ns mainGlobals mg){g:Str}{st:Stmt}{a:Addr}{c:Nat}{md:Value}{P:List Str}(e1:W.nsIn K mainGlobals g=some (some (.ref a)))
  (e2:K.lookup a=some ⟨.type "function",none,.func (U5 g st md c),#[]⟩) (e3:W.codeIn K (.ref c) g=true) (e4:W.keepIn K (.ref a)=true)
  (e5:∀(kV doc pm:Value)(an:Option Addr)(cdv ct:Value)(us:List Value),us.length=P.length->bindArgs (W.fnOf g g (oW st) (jx st) (aj st) .none kV doc pm an cdv ct) ⟨us,[]⟩=pure (P.zip us)):FX K mg g st a (U5 g st md c) P :=
 ⟨KC e2 e3 e4,(KC e2 e3 e4).binds e5,ZR X G e1⟩
section
variable{X:Cx}{k k' n:Nat}{f:Addr}{fd:FuncData}{ps:List Str}{fs:FS}{g:Str}{st:Stmt}{e:Expr}{es:List Expr}{bs:List (Option Nat)}{t:W (List L)}{p pos:Pos}
theorem aL(F:FnOk X.prog X.w X.K X.mg X.base CX0 k f fd ps (spF X.K n fs))(T:FX X.K X.mg g st f fd ps)(hr:uB k' X.A)(ha:Uu X (e::es) bs t)(hk:autoParam (k<=k') acG)(hg:autoParam (Gl X g) acE)(hn:autoParam (bs.length=n) acE) (hdb:autoParam ((g == ("__debug__" : Str))=false) acG) (he:autoParam (starEach (e::es) X.env=(false,eval e X.env)::starEach es X.env) acE) (hpl:autoParam ((backTo pos (starEach es X.env)).any (·.1)=false) acE) :
  PL X (.Call (.Name g p) (e::es) [] pos) (aJ fs t):=LI F (hr.mono hk) hg T.m T.f.kp T.b OF ha hn hdb he hpl
theorem bT(F:FnOk X.prog X.w X.K X.mg X.base CX0 k f fd ps (spF X.K n fs))(T:FX X.K X.mg g st f fd ps)(hr:uB k' X.A)(j i:Nat)(ha:Uu X (e::es) bs t)(hk:autoParam (k<=k') acG)(hg:autoParam (Gl X g) acE)(hj:autoParam (bs[j]?=some (some i)) acE)(hn:autoParam (bs.length=n) acE) (hdb:autoParam ((g == ("__debug__" : Str))=false) acG) (he:autoParam (starEach (e::es) X.env=(false,eval e X.env)::starEach es X.env) acE) (hpl:autoParam ((backTo pos (starEach es X.env)).any (·.1)=false) acE) :
  PL X (.Call (.Name g p) (e::es) [] pos) (bI fs j i t):=Ii F (hr.mono hk) hg T.m T.f.kp T.b OF j i ha hj hn hdb he hpl
end
section
variable{X:Cx}
theorem II:TM X (binaryOp .Add) (λx y H Q=>∃l b xs zs,x=.ref l/\y=.ref b/\TB X.K H l xs/\TB X.K H b zs/\xs≠[]/\zs≠[]/\xs.length+zs.length<=sizeLine/\∀p,H p=none->Q (.ref p) (Te H p (.tup (xs++zs)))):=by
 intro ab s σ H x y v u Q I rx ry h;obtain⟨l,b,xs,zs,rfl,rfl,hH,hB,n1,n2,hz,q⟩:=h;cases rx;cases ry;obtain⟨its,r,⟨o,e,c,n,f⟩,z⟩:=I.tuple hH;obtain⟨its2,r2,⟨o2,e2,c2,m,f2⟩,z2⟩:=I.tuple hB;obtain⟨cl,dd,dt,sl⟩:=o;obtain⟨cl2,dd2,dt2,sl2⟩:=o2;simp only at c f c2 f2;subst c f c2 f2;have hl:=r.length;have hl2:=r2.length;have k1:its≠[]:=λe=>n1 (ZE.mp (by rw[hl,e];rfl));have k2:its2≠[]:=λe=>n2 (ZE.mp (by rw[hl2,e];rfl));refine concat_meets ⟨_,e,rfl⟩ ⟨_,e2,rfl⟩ noFill_tuple_add seq_tuple_add PySem.F.slot_tuple_add PySem.F.entry_tuple_add (PySem.F.args_tuple_add_2 _ _) (tuple_addW2 l b its.toArray its2.toArray n m dd dd2 sl sl2 (by simpa using k1) (by simpa using k2) (by rw[Ye,Ye];omega)) ⟨e,e2,?_⟩;have ea:its.toArray++its2.toArray=(its++its2).toArray:=by simp
 rw[ea];exact⟨.ref _,Te H s.heap.objs.size (.tup (xs++zs)),I.laid (o:=.tup (xs++zs)) (λ_ _ q=>p4 _ q) (XZ _) ⟨by rw[Yw];omega,its++its2,r.append r2,⟨_,X5 _ rfl,rfl,_,rfl⟩⟩,rfl,q _ I.fresh⟩
def yN:Uz:=λx y k=>match x,y with
 |.tup xs,.tup ys=>xs≠[]/\ys≠[]/\xs.length+ys.length<=sizeLine/\k (.d (.tup (xs++ys)))
 |_,_=>False
theorem Fx:UA X (binaryOp .Add) yN:=(UA.of II (op:=λx y k=>∃xs ys,x=.tup xs/\y=.tup ys/\xs≠[]/\ys≠[]/\xs.length+ys.length<=sizeLine/\k (.d (.tup (xs++ys)))) (λσ H Pr ρ x y dx dy kz E px py ⟨xs,ys,e1,e2,m1,m2,z,h⟩=>by
  subst e1 e2;obtain⟨_,_,rfl,h1,r1⟩:=Us.inv_tup px
  cases py with
  | tup h2 r2 =>
   refine⟨_,_,_,_,rfl,rfl,h1,h2,λe=>m1 ?_,λe=>m2 ?_,by rw[r1.length,r2.length];exact z,λp hp=>⟨_,E.cons_tup hp (r1.append r2),h⟩⟩
   . exact ZE.mp (by rw[<- r1.length,e];rfl)
   .
    exact ZE.mp (by rw[<- r2.length,e];rfl))).imp λx y k h=>by
 unfold yN at h;split at h
 . exact⟨_,_,rfl,rfl,h⟩
 . exact h.elim
end
theorem Fy{P:Program}{w:World}{K:W.Frag}{mg:Str->Option Value}{base:Heap}{CX:TY}{k n:Nat}{f:Addr}{fd:FuncData}{ps:List Str}{fs:FS}(h:∀ls kz,¬fs ls kz):FnOk P w K mg base CX k f fd ps (spF K n fs) :=
 ⟨λ_ _ _ _ ⟨_,_,ls,kz,_,q,_⟩=>(h ls kz q).elim,λ_ _ _ _ _ _ _ _ _ _ _ _ _ ⟨_,_,ls,kz,_,q,_⟩=>(h ls kz q).elim⟩
mutual
noncomputable def yb:D->Nat
 |.tup xs=>wd xs+1
 |.lst xs=>wd xs+1
 |_=>0
noncomputable def wd:List D->Nat
 |[]=>0
 |x::xs=>max (yb x) (wd xs)
end
theorem rX{x:D}:∀{xs:List D},x∈xs->yb x<=wd xs
 | y::ys,h=>by
  simp only[wd];rcases XW.mp h with rfl|h
  . omega
  . have:=rX h;omega
theorem Ca{n:Nat}:∀{xs:List D},(∀x∈xs,yb x<=n)->wd xs<=n
 |[],_=>YO _
 | y::ys,h=>by simp only[wd];have:=h y XU;have:=Ca (xs:=ys) λx hx=>h x (p3 _ hx);omega
section
variable{X:Cx}{a:Expr}{pos p:Pos}{ta:W L}
theorem Fz{h:Heap}{a:Addr}{its:Array Value}(z:IsTup h a its):∃ dd n sl,h.get? a=some ⟨.type "tuple",dd,.seq its n,sl⟩:=by obtain⟨o,e,c,n,d⟩:=z;obtain⟨c',dd,dt,sl⟩:=o;cases c;cases d;exact⟨dd,n,sl,e⟩
theorem FC{ab:List (Addr×Obj)}{σ:St}{H:Hp}{s:Shared}{x:V}{u:Value}{d:D}{b:Bool}{tp:Addr}{its:List Value}{Q:Value->Shared->Prop}{A:Around}{E:Value->Shared->Prop}(I:Tp X ab σ H s)(rx:cQ x u)(r:Us X.K H x d)(ht:IsTup s.heap tp its.toArray)
  (e:∀ t,UO X.K d t->W.kitAny X.K t its=some b) (h:∀ tk,Q (.bool b) {s with toks:=tk}):wpAny (model X.prog X.w) A (call (.builtin "isinstance") [u,.ref tp]) Q E s:=by
 obtain⟨dd,n,sl,ht⟩:=Fz ht
 cases r with
 |non=>cases rx;exact Zn W.kitx_none I.kIn True.intro ht (e _ rfl) (λz=>nomatch z) h
 |bl y=>cases rx;exact Zn W.kitx_bool I.kIn True.intro ht (e _ rfl) (λz=>nomatch z) h
 |int i=>obtain⟨t,rfl⟩:=rx;exact Zn W.kitx_int I.kIn True.intro ht (e _ rfl) (λz=>nomatch z) h
 |str y=>obtain⟨t,rfl⟩:=rx;exact Zn W.kitx_str I.kIn True.intro ht (e _ rfl) (λz=>nomatch z) h
 | lst hz rs =>
  cases rx;obtain⟨its',_,⟨o,n',e1,c1,_,_⟩,_⟩:=I.list hz.l;exact Zn W.kitx_list I.kIn ⟨o,e1,c1⟩ ht (e _ rfl) (λz=>nomatch z) h
 | tup hz rs =>
  cases rx;obtain⟨its',_,⟨o,e1,c1,_⟩,_⟩:=I.tuple hz;exact Zn W.kitx_tuple I.kIn ⟨o,e1,c1⟩ ht (e _ rfl) (λz=>nomatch z) h
 | @dct a' o kvs hz =>
  cases rx;obtain⟨_,_,_,vs,_,o',es,ep,h1,h2,_⟩:=(show fj X.prog X.w H s.heap a' (.frz o (.dK kvs))from I.hok a' _ hz);exact Zn W.kitx_dict I.kIn ⟨o',h1,h2.1⟩ ht (e _ rfl) (λz=>nomatch z) h
 | @exc a o u cc C ns vs ds h1 hv hc hn hs hq hf rs =>
  cases rx;obtain⟨od,Ia,_⟩:=BZ I h1 hc hn hf;obtain⟨LL,cd,S⟩:=rC hs;exact Zn (BR S) I.kIn ⟨_,_,Ia⟩ ht (e _ ⟨C,rfl,hs⟩) (λz=>nomatch z) h
 | fn hl hf hq hc hz hd hv hm r =>
  cases rx;exact Zn vR I.kIn ⟨_,(I.hok _ _ hf).1,rfl⟩ ht (e _ rfl) (λz=>nomatch z) h
 | @dk a' o kvs ds hz rs =>
  cases rx;obtain⟨_,_,_,vs,_,o',es,ep,h1,h2,_⟩:=(show fj X.prog X.w H s.heap a' (.frz o (.dK kvs))from I.hok a' _ hz);exact Zn W.kitx_dict I.kIn ⟨o',h1,h2.1⟩ ht (e _ rfl) (λz=>nomatch z) h
 | gf hx hl hk =>
  cases rx;exact Zn vR I.kIn ⟨_,I.kIn _ _ hl,rfl⟩ ht (e _ rfl) (λz=>nomatch z) h
def Cb(T U:String):D->(L->Prop)->Prop:=λd k=>k (.d (.bl (lh T d ||lh U d)))
theorem Mp{T U:String}{y z:Str}{py pz tpos:Pos} {x1} (hT:∀ K d t,UO K d t->W.kitOne K t (.type T)=some (lh T d)) (hU:∀ K d t,UO K d t->W.kitOne K t (.type U)=some (lh U d)) (hg:Gl X "isinstance") (hm:X.mg "isinstance"=none)
  (hy:Gl X y) (hmy:X.mg y=none) (hby:bootBuiltins y=some (.type T)) (hz:Gl X z) (hmz:X.mg z=none) (hbz:bootBuiltins z=some (.type U)) (ha:PL X a ta)
  (hny:autoParam (y≠"__name__") acG) (hdy:autoParam ((y == ("__debug__" : Str))=false) acG) (hnz:autoParam (z≠"__name__") acG) (hdz:autoParam ((z == ("__debug__" : Str))=false) acG)
  (h0:autoParam (starEach [.Name y py,.Name z pz] X.env=(false,eval (.Name y py) X.env)::starEach [.Name z pz] X.env) acE) (h00:autoParam (starEach [.Name z pz] X.env=[(false,eval (.Name z pz) X.env)]) acE)
  (h1:autoParam (starEach [a,.Tuple [.Name y py,.Name z pz] x1 tpos] X.env=(false,eval a X.env)::starEach [.Tuple [.Name y py,.Name z pz] x1 tpos] X.env) acE) (h2:autoParam (starEach [.Tuple [.Name y py,.Name z pz] x1 tpos] X.env=[(false,eval (.Tuple [.Name y py,.Name z pz] x1 tpos) X.env)]) acE)
  (hpl:autoParam ((backTo pos (starEach [.Tuple [.Name y py,.Name z pz] x1 tpos] X.env)).any (·.1)=false) acE) :
  PL X (.Call (.Name "isinstance" p) [a,.Tuple [.Name y py,.Name z pz] x1 tpos] [] pos) (UE (Cb T U) ta):=by
 have cr:g8 X (.builtin "isinstance") (λxs H Q=>∃ x d q,xs=[x,.ref q]/\H q=some (.tup [.ty T,.ty U])/\Us X.K H x d/\Q (.bl (lh T d ||lh U d)) H):=by
  intro ab s σ H xs us Q I rv h;obtain⟨x,d,q,rfl,hq,r,k⟩:=h;obtain⟨u,w,rfl,r1,r2⟩:=Ej rv;cases r2;obtain⟨its,vs,it,_⟩:=I.tuple (TB.of hq);obtain⟨v1,v2,rfl,e1,e2⟩:=Ej vs;cases e1;cases e2;refine FC I r1 r it (λt ht=>?_) λtk=>⟨.bl _,H,I.tok _,rfl,k⟩;unfold W.kitAny;rw[hT _ _ _ ht];cases lh T d
  . dsimp only;unfold W.kitAny;rw[hU _ _ _ ht];cases lh U d<;>rfl
  . rfl
 refine PL.of (vN cr hg hm y_ (cx (aA ha).pe (cx (Oy (cx (Al hy hmy hby (v:=.ty T) rfl hny hdy) (cx (Al hz hmz hbz (v:=.ty U) rfl hnz hdz) jv h00) h0)) jv h2) h1) (he:=h1) (hpl:=hpl)) λσ H Pr ρ kz E h=>?_
 refine⟨Pr,ρ,λr ρ1=>match r with
  |.d x=>Cb T U x λr=>kz r ρ1
  |_=>False,E,h,λv H' r ρ' E' pp=>?_⟩
 cases r with
 | d x =>
  obtain⟨_,e1,p1⟩:=E'.head_d;cases e1;refine⟨by show 2<=sizeLine;decide,λq hq=>⟨_,x,q,rfl,cb,p1.new hq,_,ρ',(E'.tail.new hq).cons_d (.bl _),pp⟩⟩
 |_=>exact pp.elim
end
end L2
namespace L2
open PySem PySem.Spec PyProof.Rows PySem.Builtin.Str
inductive Sk where
 |l|t
def Sk.At:Sk->Heap->Addr->Addr->Nat->Prop
 |.l,h,j,a,i=>h.IsListIter j a i
 |.t,h,j,a,i=>IsTupIter h j a i
def Sk.Sq:Sk->Heap->Addr->Array Value->Prop
 |.l,h,a,xs=>h.IsList a xs
 |.t,h,a,xs=>IsTup h a xs
theorem Sk.At.to{k:Sk}{h h':Heap}{j a:Addr}{i:Nat}(x:k.At h j a i)(e:∀o,h.get? j=some o->h'.get? j=some o):k.At h' j a i:=by
 cases k with
 |l=>obtain⟨o,z,r⟩:=x;exact⟨o,e _ z,r⟩
 |t=>obtain⟨o,z,r⟩:=x;exact⟨o,e _ z,r⟩
theorem Sk.Sq.to{k:Sk}{h h':Heap}{a:Addr}{xs:Array Value}(x:k.Sq h a xs)(e:∀o,h.get? a=some o->h'.get? a=some o):k.Sq h' a xs:=by
 cases k with
 |l=>obtain⟨o,z,r⟩:=x;exact⟨o,e _ z,r⟩
 |t=>obtain⟨o,z,r⟩:=x;exact⟨o,e _ z,r⟩
theorem Sk.At.obj{k:Sk}{h:Heap}{j a:Addr}{i:Nat}(x:k.At h j a i):∃ o,h.get? j=some o/\(∀ v,o.data≠.cell v)/\o.cls≠.type "list"/\o.cls≠.type "tuple":=by
 cases k with
 |l=>obtain⟨o,z,c,d⟩:=x;exact⟨o,z,(λv q=>by rw[d]at q;cases q),by rw[c];simp,by rw[c];simp⟩
 |t=>obtain⟨o,z,c,d⟩:=x;exact⟨o,z,(λv q=>by rw[d]at q;cases q),by rw[c];simp,by rw[c];simp⟩
theorem Sk.Sq.obj{k:Sk}{h:Heap}{a:Addr}{xs:Array Value}(x:k.Sq h a xs):∃ o,h.get? a=some o/\(o.cls=.type "list"∨o.cls=.type "tuple"):=by
 cases k with
 |l=>obtain⟨o,z,c,d⟩:=x;exact⟨o,z,.inl c⟩
 |t=>obtain⟨o,z,c,d⟩:=x;exact⟨o,z,.inr c⟩
section
variable{prog:Program}{w:World}{A:Around}{E:Value->Shared->Prop}{s:Shared}
theorem Ph{j q:Addr}{i:Nat}{ys:Array Value}{y:Value}{Q:Value->Shared->Prop}(hj:IsTupIter s.heap j q i)(hq:IsTup s.heap q ys)(hy:ys[i]?=some y)
  (k:∀h',IsTupIter h' j q (i+1)->Heap.SameBut j s.heap h'->Q y {s with heap:=h' }):wpAny (model prog w) A (Builtin.SmallTypes.nextOf (.ref j)) Q E s:=by
 obtain⟨u,hu,cu,du⟩:=id hj;obtain⟨v,hv,_,n,dv⟩:=hq;unfold Builtin.SmallTypes.nextOf;refine kS (Ze (name:=Str.ofString "__next__") hj.typeIs slot_tupleiter_next (Zt slot_tupleiter_next hj.typeIs entry_tupleiter_next ?_ (args_tupleiter_next _)));show wpAny _ _ (field (.ref j) 0 >>= _) _ _ s;refine kS (YQ hu du (x:=.ref q) rfl ?_)
 show wpAny _ _ (if(Value.ref q == Value.none)=true then _ else _) _ _ s
 rw[if_neg (show ¬((Value.ref q == Value.none)=true)from YC)];show wpAny _ _ (field (.ref j) 1 >>= _) _ _ s;refine kS (YQ hu du (x:=.int i 0) rfl ?_);show wpAny _ _ (seqItems? (.ref q) >>= _) _ _ s;refine kS (Zc hv dv ?_);simp only[hy,Yx];refine kS (wpAny_setField hu du x_ (X3 ⟨y,rfl,X3 (k _ ?_ (Z0 ..))⟩));exact⟨_,YX _ hu (Obj.isFreed_of_fields (Obj.data_mapFields du _)),(Obj.cls_mapFields ..).trans cu,by rw[Obj.data_mapFields du];simp[rawInt]⟩
theorem Mq{j q:Addr}{i:Nat}{ys:Array Value}{Q:Value->Shared->Prop}(h0:A.handled=none)(hj:IsTupIter s.heap j q i)(hq:IsTup s.heap q ys)(hy:ys[i]?=none)
  (k:∀ h' e,Heap.ExtBut j s.heap h'->(∃ o,h'.get? e=some o/\o.cls=.type "StopIteration")->E (.ref e) {s with heap:=h' }):wpAny (model prog w) A (Builtin.SmallTypes.nextOf (.ref j)) Q E s:=by
 obtain⟨u,hu,cu,du⟩:=id hj;obtain⟨v,hv,_,n,dv⟩:=hq;unfold Builtin.SmallTypes.nextOf;refine kS (Ze (name:=Str.ofString "__next__") hj.typeIs slot_tupleiter_next (Zt slot_tupleiter_next hj.typeIs entry_tupleiter_next ?_ (args_tupleiter_next _)));show wpAny _ _ (field (.ref j) 0 >>= _) _ _ s;refine kS (YQ hu du (x:=.ref q) rfl ?_)
 show wpAny _ _ (if(Value.ref q == Value.none)=true then _ else _) _ _ s
 rw[if_neg (show ¬((Value.ref q == Value.none)=true)from YC)];show wpAny _ _ (field (.ref j) 1 >>= _) _ _ s;refine kS (YQ hu du (x:=.int i 0) rfl ?_);show wpAny _ _ (seqItems? (.ref q) >>= _) _ _ s;refine kS (Zc hv dv ?_);simp only[hy,Yx];refine kS (wpAny_rule (kS (wpAny_setField hu du x_ ?_)));show wpAny _ _ (newExc (.type "StopIteration") [] >>= _) _ _ {s with heap:=_};refine kS ?_;simp only[newExc,newTuple]
 refine kS (ZI ?_ (by size_fits));refine kS (m:=firstArgMember _ _) (wpAny_of_eq (a:=Value.none) (by first|rfl|(simp only[firstArgMember];rfl)) ?_);refine ZI ?_ (by size_fits)
 simp only[raiseNew]
 refine kS (wpAny_handled ?_);first|rw[show A.in1.handled=none from h0] | rw[h0]
 refine kS (X3 (wpAny_throw ?_));exact k _ _ (((Z0 ..).extBut.push _).push _) ⟨_,X5 _ rfl,rfl⟩
theorem Sk.draw{k:Sk}{j a:Addr}{i:Nat}{ys:Array Value}{y:Value}{Q:Value->Shared->Prop}(hj:k.At s.heap j a i)(ha:k.Sq s.heap a ys)(hy:ys[i]?=some y)
  (q:∀h',k.At h' j a (i+1)->Heap.SameBut j s.heap h'->Q y {s with heap:=h' }):wpAny (model prog w) A (Builtin.SmallTypes.nextOf (.ref j)) Q E s:=by
 cases k with
 |l=>exact wpAny_nextOf_list_item hj ha hy q
 |t=>exact Ph hj ha hy q
theorem Sk.drawE{k:Sk}{j a:Addr}{i:Nat}{ys:Array Value}{Q:Value->Shared->Prop}(h0:A.handled=none)(hj:k.At s.heap j a i)(ha:k.Sq s.heap a ys)(hy:ys[i]?=none)
  (q:∀ h' e,Heap.ExtBut j s.heap h'->(∃ o,h'.get? e=some o/\o.cls=.type "StopIteration")->E (.ref e) {s with heap:=h' }):wpAny (model prog w) A (Builtin.SmallTypes.nextOf (.ref j)) Q E s:=by
 cases k with
 |l=>exact wpAny_nextOf_list_end h0 hj ha hy q
 |t=>exact Mq h0 hj ha hy q
end
abbrev dh(h:Heap)(T:Addr)(xs:List Value):Prop:=h.get? T=some {cls:=.type "tuple",data:=.seq xs.toArray}
noncomputable abbrev Zi:=Sk×Addr×Addr
noncomputable def Zi.ofs(js:List Zi):List Addr:=js.map (·.2.1)
structure ZA (z I O:Addr) (js:List Zi):Prop where
 nd:(z::I::O::Zi.ofs js).Nodup
 src:∀p∈js,p.2.2∉z::O::Zi.ofs js
structure U6 (z I O:Addr) (js:List Zi) (f:Value) (i:Nat) (h:Heap):Prop where
 hz:IsZip h z I O f
 hI:dh h I ((Zi.ofs js).map .ref)
 hO:∃os,os.length=js.length/\dh h O os
 at':∀p∈js,p.1.At h p.2.1 p.2.2 i
def we(z O:Addr)(js:List Zi)(h h':Heap):Prop:=∀c o,c∉z::O::Zi.ofs js->h.get? c=some o->h'.get? c=some o
structure Mr (z I O:Addr) (js:List Zi) (xs:List Value) (i j:Nat) (h₀ h:Heap):Prop where
 hz:IsZip h z I O .ellipsis
 hO:∃os,os.length=js.length/\dh h O os/\os.take j=xs.take j
 ahead:∀m p,m<j->js[m]?=some p->p.1.At h p.2.1 p.2.2 (i+1)
 behind:∀m p,j<=m->js[m]?=some p->p.1.At h p.2.1 p.2.2 i
 keep:we z O js h₀ h
 sz:h.objs.size=h₀.objs.size
theorem fz{js:List Zi}{p:Zi}(h:p∈js):p.2.1∈Zi.ofs js:=XY.mpr ⟨p,h,rfl⟩
theorem ZA.zO{z I O:Addr}{js:List Zi}(D:ZA z I O js):z≠O:=λe=>by have:=D.nd;simp[e]at this
theorem ZA.zj{z I O:Addr}{js:List Zi}(D:ZA z I O js){p:Zi}(hp:p∈js):p.2.1≠z/\p.2.1≠O:=by have n:=D.nd;have m:=fz hp;simp only[Yr,XW,not_or]at n;exact⟨λe=>n.1.2.2 (e ▸ m),λe=>n.2.2.1 (e ▸ m)⟩
theorem ZA.Iz{z I O:Addr}{js:List Zi}(D:ZA z I O js):I∉z::O::Zi.ofs js:=by have n:=D.nd;simp only[Yr,XW,not_or]at n ⊢;exact⟨YE n.1.1,n.2.1.1,n.2.1.2⟩
theorem ZA.inj{z I O:Addr}{js:List Zi}(D:ZA z I O js){m m':Nat}{p p':Zi}(h:js[m]?=some p)(h':js[m']?=some p')(e:p.2.1=p'.2.1):m=m':=by
 have n:=D.nd;simp only[Yr]at n;obtain⟨hm,e1⟩:=tu.mp h;obtain⟨hm',e2⟩:=tu.mp h';have key:=List.pairwise_iff_getElem.mp n.2.2.2;have q:∀k (hk:k<js.length),(Zi.ofs js)[k]'(by simpa[Zi.ofs]using hk)=js[k].2.1:=λk hk=>by simp[Zi.ofs]
 have hl:(Zi.ofs js).length=js.length:=by simp[Zi.ofs]
 rcases Nat.lt_trichotomy m m' with g|g|g
 . exact absurd (by rw[q m hm,q m' hm',e1,e2,e]) (key m m' xL xL g)
 . exact g
 . exact absurd (by rw[q m hm,q m' hm',e1,e2,e]) (key m' m xL xL g)
section
variable{prog:Program}{w:World}{A:Around}{E:Value->Shared->Prop}{s:Shared}{z I O:Addr}{js:List Zi}{i:Nat}
theorem Mr.next(D:ZA z I O js){xs os:List Value}{j:Nat}{p:Zi}{x:Value}{h₀ h h1:Heap}(hj:js[j]?=some p)(hx:xs[j]?=some x)(M:Mr z I O js xs i j h₀ h)(a1:p.1.At h1 p.2.1 p.2.2 (i+1))(s1:Heap.SameBut p.2.1 h h1)
  (ol:os.length=js.length) (ho1:dh h1 O os) (ht:os.take j=xs.take j):Mr z I O js xs i (j+1) h₀ (h1.update O (Obj.mapSeq (·.setIfInBounds j x))):=by
 have pm:p∈js:=X4 hj;have jl:j<js.length:=(tu.mp hj).1;have s2:Heap.SameBut O h1 (h1.update O (Obj.mapSeq (·.setIfInBounds j x))):=Z0 ..;have ho2:dh (h1.update O (Obj.mapSeq (·.setIfInBounds j x))) O (os.set j x):=by show Heap.get? _ _=_;rw[YX _ ho1 rfl];simp[Obj.mapSeq]
 have k2:∀c o,c≠O->c≠p.2.1->h.get? c=some o->(h1.update O (Obj.mapSeq (·.setIfInBounds j x))).get? c=some o:=λc o n1 n2 e=>s2.extBut _ _ n1 (s1.extBut _ _ n2 e);refine⟨k2 _ _ D.zO (YE (D.zj pm).1) M.hz,⟨os.set j x,by simp[ol],ho2,?_⟩,λm q hm hq=>?_,λm q hm hq=>?_,λc o hc e=>?_,by rw[s2.1,s1.1];exact M.sz⟩
 . have hxl:j<xs.length:=(tu.mp hx).1;rw[Z6,Z6,Zw xL,hx,List.take_set_of_le (XZ _),ht]
 .
  have qm:q∈js:=X4 hq;rcases Nat.lt_or_ge m j with h|h
  .
   have ne:q.2.1≠p.2.1:=λe=>by have:=D.inj hq hj e;omega
   exact(M.ahead m q h hq).to λo e=>k2 _ o (D.zj qm).2 ne e
  .
   have:m=j:=by omega
   subst this;rw[hj]at hq;cases hq;exact a1.to λo e=>s2.extBut _ _ (D.zj pm).2 e
 .
  have qm:q∈js:=X4 hq;have ne:q.2.1≠p.2.1:=λe=>by have:=D.inj hq hj e;omega
  exact(M.behind m q xL hq).to λo e=>k2 _ o (D.zj qm).2 ne e
 . have n:=hc;simp only[XW,not_or]at n;exact k2 c o n.2.1 (λq=>n.2.2 (q ▸ fz pm)) (M.keep c o hc e)
theorem rY{α:Type}{xs:List α}{j:Nat}{x:α×Nat}{r:List (α×Nat)}(e:xs.zipIdx.drop j=x::r):x.2=j/\xs[j]?=some x.1/\xs.zipIdx.drop (j+1)=r:=by
 have h0:(xs.zipIdx.drop j)[0]?=some x:=by rw[e];rfl
 rw[Z7,Nat.add_zero,List.getElem?_zipIdx]at h0;have h2:xs.zipIdx.drop (j+1)=r:=by rw[<- List.drop_drop,e];rfl
 cases h:xs[j]? with
 |none=>rw[h]at h0;cases h0
 | some y =>
  rw[h]at h0;simp only[Option.map_some,Nat.zero_add,Yo]at h0;subst h0;exact⟨rfl,rfl,h2⟩
theorem U7{n:Nat}(h:n<=8):n<=sizeLine:=X0 h xp
theorem IJ(D:ZA z I O js)(st:U6 z I O js .none i s.heap){xs:List Value}(hl:xs.length=js.length)(h1:js≠[])(h8:js.length<=8)(hv:∀(j:Nat) (p:Zi) (x:Value),js[j]?=some p->xs[j]?=some x->∃ys,p.1.Sq s.heap p.2.2 ys/\ys[i]?=some x){Q:Value->Shared->Prop}
  (hQ:∀h',U6 z I O js (rawInt s.heap.objs.size) (i+1) h'->dh h' s.heap.objs.size xs->h'.objs.size=s.heap.objs.size+1->we z O js s.heap h'->Q (.ref s.heap.objs.size) {s with heap:=h' }) :
  wpAny (model prog w) A (Builtin.«zip.__next__» ⟨[.ref z],[]⟩) (λr s'=>∃v,r=.done (.ret v)/\Q v s') E s:=by
 obtain⟨hz,hI,⟨os,ol,hO⟩,at'⟩:=st
 have hIe:((Zi.ofs js).map Value.ref).toArray.isEmpty=false:=by
  cases js with
  |nil=>exact absurd rfl h1
  |cons p r=>rfl
 show wpAny _ _ (field (.ref z) 2 >>= _) _ _ s;refine kS (YQ hz rfl (x:=.bool false) rfl ?_);show wpAny _ _ (field (.ref z) 3 >>= _) _ _ s;refine kS (YQ hz rfl (x:=.ref I) rfl ?_);refine kS (Zc hI rfl ?_)
 show wpAny _ _ (if(_:Array Value).isEmpty=true then _ else _) _ _ s
 rw[if_neg (by rw[hIe];exact YC)];show wpAny _ _ (Builtin.SmallTypes.ownedTupleIsFree (.ref z) >>= _) _ _ s;refine kS ?_;unfold Builtin.SmallTypes.ownedTupleIsFree;refine kS (YQ hz rfl (x:=.none) rfl (X3 ?_));simp only[Zh];refine kS (wpAny_rule (kS (YQ hz rfl (x:=.ref O) rfl ?_)));refine kS (Y7 hz x_ λh₁ hz₁ hs₁=>?_);have M0:Mr z I O js xs i 0 s.heap h₁:=by refine⟨hz₁,⟨os,ol,hs₁.extBut _ _ (YE D.zO) hO,x_⟩,λm p hm=>by omega,λm p _ hp=>(at' p (X4 hp)).to λo e=>hs₁.extBut _ _ (D.zj (X4 hp)).1 e,λc o hc e=>?_,hs₁.1⟩;exact hs₁.extBut _ _ (λq=>hc (by simp[q])) e
 refine kS (wpAny_forIn_list _ (λdi b s1=>∃j,((Zi.ofs js).map Value.ref).zipIdx.drop j=di/\b=(none,())/\j<=js.length/\Mr z I O js xs i j s.heap s1.heap/\s1={s with heap:=s1.heap}) _ ?_ ?_ _ _ ⟨0,rfl,rfl,YO _,M0,rfl⟩)
 .
  rintro x di b s1 ⟨j,er,rfl,hjl,M,es⟩;obtain⟨e1,e2,e3⟩:=rY er;rw[X1]at e2;obtain⟨y,e4,e5⟩:=YG.mp e2;unfold Zi.ofs at e4;rw[X1]at e4;obtain⟨p,hp,e6⟩:=YG.mp e4;have jl:j<js.length:=(tu.mp hp).1;obtain⟨x1,x2⟩:=x;have e1:=e1.symm
  (try dsimp only at e1 e5)
  subst e1 e6 e5
  (try dsimp only at er e2)
  obtain⟨ys,sq,hy⟩:=hv j p xs[j] hp (gV xL);have pm:p∈js:=X4 hp;refine kS (wpAny_onRaise ?_);show wpAny _ _ (Builtin.SmallTypes.nextOf (.ref p.2.1) >>= _) _ _ s1;refine kS (Sk.draw (M.behind j p (XZ _) hp) (sq.to λo e=>M.keep _ o (D.src p pm) e) hy λh1 a1 k1=>X3 ?_);obtain⟨os1,ol1,ho,ht⟩:=M.hO;have ho1:dh h1 O os1:=k1.extBut _ _ (YE (D.zj pm).2) ho;refine kS (Zc ho1 rfl ?_);refine kS (ZL ho1 rfl ?_ (by simp;exact U7 xL) (by simp;exact X0 (U7 xL) (aas _)));refine kS (wpAny_letGo (X3 ?_))
  exact⟨j+1,e3,rfl,jl,M.next D hp (gV xL) a1 k1 ol1 ho1 ht,by rw[es]⟩
 .
  rintro b s1 ⟨j,er,rfl,hjl,M,es⟩;have jn:j=js.length:=by have:=Zy List.length er;simp[Zi.ofs]at this;omega
  subst jn;obtain⟨os1,ol1,ho,ht⟩:=M.hO;have eo:os1=xs:=by rw[Yy xL,Yy xL]at ht;exact ht
  subst eo;refine kS (Zc ho rfl ?_);refine kS (wpAny_newTuple ?_ (by simp;exact U7 xL));have hz1:IsZip (s1.heap.push {cls:=.type "tuple",data:=.seq os1.toArray}) z I O .ellipsis:=p4 _ M.hz;show wpAny _ _ (Builtin.SmallTypes.ownedTupleHandOut (.ref z) (.ref s1.heap.objs.size) >>= _) _ _ {s1 with heap:=_};refine kS ?_;unfold Builtin.SmallTypes.ownedTupleHandOut;refine kS (Y7 hz1 x_ λh2 hz2 k2=>?_);replace hz2:IsZip h2 z I O (rawInt s1.heap.objs.size):=hz2;refine Y7 hz2 x_ λh3 hz3 k3=>?_;replace hz3:IsZip h3 z I O (rawInt s1.heap.objs.size):=hz3;have up:∀c o,c≠z->s1.heap.get? c=some o->h3.get? c=some o:=λc o n e=>k3.extBut _ _ n (k2.extBut _ _ n (p4 _ e));have zl:z<s1.heap.objs.size:=X2 M.hz;have T:dh h3 s1.heap.objs.size os1:=k3.extBut _ _ (aat zl) (k2.extBut _ _ (aat zl) (X5 _ rfl));have sz:h3.objs.size=s1.heap.objs.size+1:=by rw[k3.1,k2.1,Heap.size_push]
  have es1:=M.sz;rw[es1]at hz3 T sz;refine X3 ⟨_,rfl,?_⟩;show Q (.ref s1.heap.objs.size) _;rw[es1,es];have Iz:=D.Iz;simp only[XW,not_or]at Iz;refine hQ h3 ⟨hz3,up _ _ Iz.1 (M.keep _ _ D.Iz hI),⟨os1,ol1,up _ _ (YE D.zO) ho⟩,λp hp=>?_⟩ T sz λc o hc e=>up c o (λq=>hc (by simp[q])) (M.keep c o hc e);obtain⟨m,hm,e⟩:=Zk.mp hp;exact(M.ahead m p hm (by rw[gV hm,e])).to λo q=>up _ o (D.zj hp).1 q
theorem IK(D:ZA z I O js)(st:U6 z I O js .none i s.heap)(h0:A.handled=none)(h1:js≠[])(h8:js.length<=8)(Y:Zi->Array Value)(hv:∀p∈js,p.1.Sq s.heap p.2.2 (Y p))(he:∃p∈js,(Y p)[i]?=none){Q:Fin->Shared->Prop}
  (hE:∀ h' e,we z O js s.heap h'->(∃ o,h'.get? e=some o/\o.cls=.type "StopIteration")->E (.ref e) {s with heap:=h' }) :
  wpAny (model prog w) A (Builtin.«zip.__next__» ⟨[.ref z],[]⟩) Q E s:=by
 obtain⟨hz,hI,⟨os,ol,hO⟩,at'⟩:=st
 have hIe:((Zi.ofs js).map Value.ref).toArray.isEmpty=false:=by
  cases js with
  |nil=>exact absurd rfl h1
  |cons p r=>rfl
 show wpAny _ _ (field (.ref z) 2 >>= _) _ _ s;refine kS (YQ hz rfl (x:=.bool false) rfl ?_);show wpAny _ _ (field (.ref z) 3 >>= _) _ _ s;refine kS (YQ hz rfl (x:=.ref I) rfl ?_);refine kS (Zc hI rfl ?_)
 show wpAny _ _ (if(_:Array Value).isEmpty=true then _ else _) _ _ s
 rw[if_neg (by rw[hIe];exact YC)];show wpAny _ _ (Builtin.SmallTypes.ownedTupleIsFree (.ref z) >>= _) _ _ s;refine kS ?_;unfold Builtin.SmallTypes.ownedTupleIsFree;refine kS (YQ hz rfl (x:=.none) rfl (X3 ?_));simp only[Zh];refine kS (wpAny_rule (kS (YQ hz rfl (x:=.ref O) rfl ?_)));refine kS (Y7 hz x_ λh₁ hz₁ hs₁=>?_);have M0:Mr z I O js (js.map λp=>(Y p)[i]?.getD .none) i 0 s.heap h₁:=by refine⟨hz₁,⟨os,ol,hs₁.extBut _ _ (YE D.zO) hO,x_⟩,λm p hm=>by omega,λm p _ hp=>(at' p (X4 hp)).to λo e=>hs₁.extBut _ _ (D.zj (X4 hp)).1 e,λc o hc e=>?_,hs₁.1⟩;exact hs₁.extBut _ _ (λq=>hc (by simp[q])) e
 refine kS (wpAny_forIn_list _ (λdi b s1=>∃j,((Zi.ofs js).map Value.ref).zipIdx.drop j=di/\b=(none,())/\j<=js.length/\Mr z I O js (js.map λp=>(Y p)[i]?.getD .none) i j s.heap s1.heap/\s1={s with heap:=s1.heap}/\∀m p,m<j->js[m]?=some p->(Y p)[i]?≠none) _ ?_ ?_ _ _ ⟨0,rfl,rfl,YO _,M0,rfl,λm p hm=>by omega⟩)
 .
  rintro x di b s1 ⟨j,er,rfl,hjl,M,es,had⟩;obtain⟨e1,e2,e3⟩:=rY er;rw[X1]at e2;obtain⟨y,e4,e5⟩:=YG.mp e2;unfold Zi.ofs at e4;rw[X1]at e4;obtain⟨p,hp,e6⟩:=YG.mp e4;have jl:j<js.length:=(tu.mp hp).1;obtain⟨x1,x2⟩:=x;have e1:=e1.symm
  (try dsimp only at e1 e5)
  subst e1 e6 e5
  (try dsimp only at er e2)
  have pm:p∈js:=X4 hp;have sq:=hv p pm;refine kS (wpAny_onRaise ?_);show wpAny _ _ (Builtin.SmallTypes.nextOf (.ref p.2.1) >>= _) _ _ s1
  cases hy:(Y p)[i]? with
  | none =>
   refine kS (Sk.drawE h0 (M.behind j p (XZ _) hp) (sq.to λo e=>M.keep _ o (D.src p pm) e) hy λh1 e k1 ho=>?_);obtain⟨oe,he,ce⟩:=ho;have hz2:IsZip h1 z I O .ellipsis:=k1 _ _ (YE (D.zj pm).1) M.hz;have ne:e≠z:=λx=>by subst x;rw[hz2]at he;cases he;simp at ce
   refine Y7 hz2 x_ λh3 _ k3=>?_;rw[es];refine hE h3 e (λc o hc q=>?_) ⟨oe,k3.extBut _ _ ne he,ce⟩;have hc':=hc;simp only[XW,not_or]at hc';exact k3.extBut _ _ hc'.1 (k1 _ _ (λq=>hc'.2.2 (q ▸ fz pm)) (M.keep c o hc q))
  |some v =>
  refine kS (Sk.draw (M.behind j p (XZ _) hp) (sq.to λo e=>M.keep _ o (D.src p pm) e) hy λh1 a1 k1=>X3 ?_);obtain⟨os1,ol1,ho,ht⟩:=M.hO;have ho1:dh h1 O os1:=k1.extBut _ _ (YE (D.zj pm).2) ho;refine kS (Zc ho1 rfl ?_);refine kS (ZL ho1 rfl ?_ (by simp;exact U7 xL) (by simp;exact X0 (U7 xL) (aas _)));refine kS (wpAny_letGo (X3 ?_))
  refine⟨j+1,e3,rfl,jl,M.next D hp (by rw[X1,hp,Option.map_some,hy];rfl) a1 k1 ol1 ho1 ht,by rw[es],λm q hm hq=>?_⟩
  rcases Nat.lt_or_ge m j with g|g
  . exact had m q g hq
  .
   have:m=j:=by omega
   subst this;rw[hp]at hq;cases hq;rw[hy];exact λz=>nomatch z
 .
  rintro b s1 ⟨j,er,rfl,hjl,M,es,had⟩;have jn:j=js.length:=by have:=Zy List.length er;simp[Zi.ofs]at this;omega
  obtain⟨p,hp,hn⟩:=he;obtain⟨m,hm,e⟩:=Zk.mp hp;exact absurd hn (had m p xL (by rw[gV hm,e]))
theorem IL(D:ZA z I O js)(st:U6 z I O js .none i s.heap){xs:List Value}(hl:xs.length=js.length)(h1:js≠[])(h8:js.length<=8)(hv:∀(j:Nat) (p:Zi) (x:Value),js[j]?=some p->xs[j]?=some x->∃ys,p.1.Sq s.heap p.2.2 ys/\ys[i]?=some x){Q:Option Value->Shared->Prop}
  (hQ:∀h',U6 z I O js (rawInt s.heap.objs.size) (i+1) h'->dh h' s.heap.objs.size xs->h'.objs.size=s.heap.objs.size+1->we z O js s.heap h'->Q (some (.ref s.heap.objs.size)) {s with heap:=h' }) :
  wpAny (model prog w) A (pyNext (.ref z)) Q E s:=by
 have ty:s.TypeIs (.ref z) "zip":=⟨_,st.hz,rfl⟩;unfold pyNext;exact kS (aax (Ze (name:=Str.ofString "__next__") ty ZJ (Zt ZJ ty F.entry_zip_next (IJ D st hl h1 h8 hv λh' a1 a2 a3 a4=>X3 (hQ h' a1 a2 a3 a4)) (F.args_zip_next_1 _))))
theorem FD(D:ZA z I O js)(st:U6 z I O js .none i s.heap)(h0:A.handled=none)(h1:js≠[])(h8:js.length<=8)(Y:Zi->Array Value)(hv:∀p∈js,p.1.Sq s.heap p.2.2 (Y p))(he:∃p∈js,(Y p)[i]?=none){Q:Option Value->Shared->Prop}
  (hQ:∀h',we z O js s.heap h'->Q none {s with heap:=h' }):wpAny (model prog w) A (pyNext (.ref z)) Q E s:=by
 have ty:s.TypeIs (.ref z) "zip":=⟨_,st.hz,rfl⟩;unfold pyNext;refine kS (aax (Ze (name:=Str.ofString "__next__") ty ZJ (Zt ZJ ty F.entry_zip_next (IK (A:=A.in1) D st h0 h1 h8 Y hv he λh' e k he=>?_) (F.args_zip_next_1 _))));obtain⟨o,ho,hc⟩:=he;refine kS (wpAny_isInstance (T:="StopIteration") (b:=true) ⟨o,ho,hc⟩ isSubtype_stop (X3 (hQ _ k)))
end
noncomputable def Sk.nm:Sk->String
 |.l=>"list_iterator"
 |.t=>"tuple_iterator"
noncomputable abbrev Sk.itO(k:Sk)(a:Addr):Obj:={cls:=.type k.nm,data:=.fields #[.ref a,.int 0 0] }
section
variable{prog:Program}{w:World}{A:Around}{E:Value->Shared->Prop}{s:Shared}
theorem Sk.iter{k:Sk}{a:Addr}{ys:Array Value}{Q:Value->Shared->Prop}(h:k.Sq s.heap a ys)(hQ:Q (.ref s.heap.objs.size) {s with heap:=s.heap.push (k.itO a) }):wpAny (model prog w) A (pyIter (.ref a)) Q E s:=by
 cases k with
 |l=>exact wpAny_pyIter_list h hQ
 |t=>exact iter_tuple h hQ
end
theorem Sk.itAt{k:Sk}{h:Heap}{j a:Addr}(e:h.get? j=some (k.itO a)):k.At h j a 0:=by
 cases k with
 |l=>exact⟨_,e,rfl,rfl⟩
 |t=>exact⟨_,e,rfl,rfl⟩
noncomputable abbrev zA(h:Heap)(k:Sk)(a:Addr):Heap:=h.push (k.itO a)
noncomputable abbrev zT(h:Heap)(vs:List Value):Heap:=h.push {cls:=.type "tuple",data:=.seq vs.toArray}
noncomputable abbrev zZ(h:Heap)(I O:Addr):Heap:=h.push {cls:=.type "zip",data:=.fields #[.none,.bool false,.bool false,.ref I,.ref O] }
noncomputable abbrev U8(h:Heap)(k m:Sk)(a b:Addr):Heap:=zT (zA (zA h k a) m b) [.ref h.objs.size,.ref (zA h k a).objs.size]
noncomputable abbrev U9(h:Heap)(k m:Sk)(a b:Addr):Heap:=zT (U8 h k m a b) [.none,.none]
noncomputable abbrev Va(h:Heap)(k m:Sk)(a b:Addr):Heap:=zZ (U9 h k m a b) (zA (zA h k a) m b).objs.size (U8 h k m a b).objs.size
theorem IM(k m:Sk)(a b:Addr)(xs ys:Array Value):Meets (Builtin.«zip.__new__» ⟨[.type "zip",.ref a,.ref b],[]⟩) (λ_ R s=>k.Sq s.heap a xs/\m.Sq s.heap b ys/\R (.ok (.ret (.ref (U9 s.heap k m a b).objs.size))) {s with heap:=Va s.heap k m a b}) :=
 .of_wp λprog w A R s q=>by
  obtain⟨hp,g,d,tk,os⟩:=s;obtain⟨q1,q2,q⟩:=q;have hsub:=sub_zip;have p1:Sk.Sq k (Shared.heap ⟨hp,g,d,tk,os⟩) a xs:=q1;have p2:Sk.Sq m (Shared.heap ⟨hp.push (k.itO a),g,d,tk,os⟩) b ys:=q2.to λo e=>p4 _ e
  wp_walk using Sk.iter p1,Sk.iter p2
  exact⟨_,rfl,q⟩
structure Zq where
 k:Sk
 it:Addr
 a:Addr
 c:List V
noncomputable def Zq.zi(q:Zq):Zi:=(q.k,q.it,q.a)
def Vb(K:W.Frag)(H:Hp):Sk->Addr->List V->Prop
 |.l,a,xs=>Tz K H a xs
 |.t,a,xs=>TB K H a xs
section
variable{X:Cx}{ab:List (Addr×Obj)}{σ:St}{H:Hp}{s:Shared}
theorem Tp.sqk{k:Sk}{a:Addr}{xs:List V}(I:Tp X ab σ H s)(h:Vb X.K H k a xs):∃its:List Value,cw xs its/\k.Sq s.heap a its.toArray:=by
 cases k with
 |l=>obtain⟨its,r,p,_⟩:=I.list h;exact⟨its,r,p.isList⟩
 |t=>obtain⟨its,r,p,_⟩:=I.tuple h;exact⟨its,r,p⟩
theorem Tp.sq_fp{k:Sk}{a:Addr}{xs:List V}(I:Tp X ab σ H s)(h:Vb X.K H k a xs)(f:BN X ab H a):False:=by
 have key:∀o,X.K.lookup a=some o->False:=λo e=>by
  have b:=I.ok.mod.kin a o e;rcases f.2.2.2.1 with g|g
  . exact I.ok.noex a o b g
  . exact absurd (X2 (I.ok.bs a o b).1) (Nat.not_lt.mpr g)
 cases k with
 | l =>
  rcases h with(h|⟨o,h⟩)|⟨o,_,_,e,_⟩
  . rw[f.1]at h;cases h
  . rw[f.1]at h;cases h
  . exact key o e
 | t =>
  rcases h with(h|⟨o,h⟩)|⟨o,_,_,e,_⟩
  . rw[f.1]at h;cases h
  . rw[f.1]at h;cases h
  . exact key o e
end
noncomputable def Vc(K:W.Frag)(qs:List Zq):It :=
 ⟨λi H=>∀q∈qs,Vb K H q.k q.a q.c/\i<q.c.length,λi H v H'=>∃p,v=.ref p/\H p=none/\H'=Te H p (.tup (qs.map λq=>q.c.getD i .non)),λi H=>(∀q∈qs,Vb K H q.k q.a q.c)/\∃q∈qs,q.c.length<=i⟩
open Classical in
theorem jB{α β:Type}[Inhabited β]{P:α->β->Prop}{l:List α}(h:∀x∈l,∃y,P x y):∃f:α->β,∀x∈l,P x (f x) :=
 ⟨λx=>if hx:x∈l then Classical.choose (h x hx)else default,λx hx=>by
  dsimp only;rw[dif_pos hx]
  exact Classical.choose_spec (h x hx)⟩
theorem o8{α β γ:Type}{F:β->γ->Prop}{f:α->β}{g:α->γ}:∀{l:List α},(∀x∈l,F (f x) (g x))->Paired F (l.map f) (l.map g)
 |[],_=>.nil
 |x::l,h=>.cons (h x XU) (o8 λy hy=>h y (p3 _ hy))
theorem Zq.zis_at{qs:List Zq}{j:Nat}{p:Zi}(h:(qs.map Zq.zi)[j]?=some p):∃q,qs[j]?=some q/\p=q.zi:=by rw[X1]at h;obtain⟨q,e,e2⟩:=YG.mp h;exact⟨q,e,e2.symm⟩
theorem RZ{X:Cx}{ab:List (Addr×Obj)}{σ:St}{H:Hp}{s:Shared}{z I0 O:Addr}{qs:List Zq}(I:Tp X ab σ H s)(hf:∀b∈z::I0::O::Zi.ofs (qs.map Zq.zi),BN X ab H b)(hs:∀q∈qs,Vb X.K H q.k q.a q.c)(nd:(z::I0::O::Zi.ofs (qs.map Zq.zi)).Nodup):ZA z I0 O (qs.map Zq.zi) :=
 ⟨nd,λp hp hm=>by
  obtain⟨q,hq,rfl⟩:=XY.mp hp;refine I.sq_fp (hs q hq) (hf _ ?_);rcases XW.mp hm with e|hm
  . rw[show q.zi.2.2=q.a from rfl]at e;rw[e];exact XU
  .
   exact p3 _ (p3 _ hm)⟩
theorem FE{P:Program}{w:World}{K:W.Frag}{es:List Expr}{k:Nat}{pos:Pos}(z I0 O:Addr)(qs:List Zq)(nd:(z::I0::O::Zi.ofs (qs.map Zq.zi)).Nodup)(h1:qs≠[])(h8:qs.length<=8) :
  HG P w K (.Tuple es k pos) (Vc K qs) (z::I0::O::Zi.ofs (qs.map Zq.zi)) z (λi h=>U6 z I0 O (qs.map Zq.zi) .none i h) where
 mem:=XU
 obj:=λi h st b hb=>by
  obtain⟨hz,hI,⟨os,ol,hO⟩,at'⟩:=st;rcases XW.mp hb with rfl|hb
  .
   exact⟨_,hz,λv z=>by
    have z':Data.fields _=Data.cell v:=z
    cases z'⟩
  rcases XW.mp hb with rfl|hb
  .
   exact⟨_,hI,λv z=>by
    have z':Data.seq _ _=Data.cell v:=z
    cases z'⟩
  rcases XW.mp hb with rfl|hb
  .
   exact⟨_,hO,λv z=>by
    have z':Data.seq _ _=Data.cell v:=z
    cases z'⟩
  . obtain⟨p,hp,rfl⟩:=XY.mp hb;obtain⟨o,e,n,_⟩:=(at' p hp).obj;exact⟨o,e,n⟩
 keep:=λi h h' st kk=>by obtain⟨hz,hI,⟨os,ol,hO⟩,at'⟩:=st;exact⟨kk z x_ _ hz,kk I0 x_ _ hI,⟨os,ol,kk O x_ _ hO⟩,λp hp=>(at' p hp).to λo e=>kk _ (p3 _ (p3 _ (p3 _ (fz hp)))) o e⟩
 item:=by
  intro X hP hw hK hc i ab s σ H E I hf st hg;subst hP hw hK;have D:=RZ I hf (λq hq=>(hg q hq).1) nd;obtain⟨Y,hY⟩:=jB (β:=List Value) λq (hq:q∈qs)=>I.sqk (hg q hq).1;have get:∀q∈qs,∃u,(Y q)[i]?=some u/\cQ (q.c.getD i .non) u:=λq hq=>by obtain⟨u,hu,ru⟩:=(hY q hq).1.get (i:=i) (x:=q.c[i]'(hg q hq).2) (gV _);refine⟨u,hu,?_⟩;rw[k4,gV (hg q hq).2];exact ru
  have vs:cw (qs.map λq=>q.c.getD i .non) (qs.map λq=>((Y q)[i]?).getD .none):=o8 λq hq=>by obtain⟨u,hu,ru⟩:=get q hq;rw[hu];exact ru
  refine IL D st (xs:=qs.map λq=>((Y q)[i]?).getD .none) x_ (by simpa using h1) (by simpa using h8) (λj p x hp hx=>?_) λh' st' hT hsz hk=>?_
  . obtain⟨q,hq,rfl⟩:=Zq.zis_at hp;rw[X1,hq]at hx;simp only[Option.map_some,Yo]at hx;obtain⟨u,hu,_⟩:=get q (X4 hq);refine⟨_,(hY q (X4 hq)).2,?_⟩;rw[hu]at hx;subst hx;simpa using hu
  .
   refine⟨.ref s.heap.objs.size,rfl,wpAny_letOwnedTupleGo_zip (s:={s with heap:=h' }) st'.hz λh'' hz'' hs''=>?_⟩
   have lt:∀b∈z::I0::O::Zi.ofs (qs.map Zq.zi),b<s.heap.objs.size:=λb hb=>by
    rcases XW.mp hb with rfl|hb
    . exact X2 st.hz
    rcases XW.mp hb with rfl|hb
    . exact X2 st.hI
    rcases XW.mp hb with rfl|hb
    . obtain⟨os,_,hO⟩:=st.hO;exact X2 hO
    . obtain⟨p,hp,rfl⟩:=XY.mp hb;obtain⟨o,e,_⟩:=(st.at' p hp).obj;exact X2 e
   have I1:Tp X ab σ (Te H s.heap.objs.size (.tup (qs.map λq=>q.c.getD i .non))) {s with heap:=s.heap.push {cls:=.type "tuple",data:=.seq (qs.map λq=>((Y q)[i]?).getD .none).toArray},toks:=s.toks} :=
    I.laid (λb ob q=>p4 _ q) (XZ _) ⟨by simp;exact U7 h8,_,vs,⟨_,X5 _ rfl,rfl,_,rfl⟩⟩
   have hf1:∀b∈z::I0::O::Zi.ofs (qs.map Zq.zi),BN X ab (Te H s.heap.objs.size (.tup (qs.map λq=>q.c.getD i .non))) b:=λb hb=>by refine⟨?_,(hf b hb).2⟩;rw[aT (Yi (lt b hb))];exact(hf b hb).1
   have I2:=I1.turnedL (h':=h'') (t':=s.toks) (fp:=z::I0::O::Zi.ofs (qs.map Zq.zi)) (λb o hb e=>by
    simp only[XW,not_or]at hb;refine(hs''.2 b hb.1).trans ?_;rcases Heap.get?_push_cases e with⟨rfl,rfl⟩|e
    . exact hT
    .
     exact hk b o (by simp only[XW,not_or];exact⟨hb.1,hb.2.2⟩) e) hf1
   have up:∀c o,c≠z->h'.get? c=some o->h''.get? c=some o:=λc o n e=>hs''.extBut _ _ n e;obtain⟨os,ol,hO⟩:=st'.hO;have Iz:=D.Iz;simp only[XW,not_or]at Iz;exact⟨.ref s.heap.objs.size,_,I2,rfl,⟨_,rfl,I.fresh,rfl⟩,⟨hz'',up _ _ Iz.1 st'.hI,⟨os,ol,up _ _ (YE D.zO) hO⟩,λp hp=>(st'.at' p hp).to λo e=>up _ o (D.zj hp).1 e⟩,λb hb=>(hf1 b hb).1⟩
 done:=by
  intro X hP hw hK hc i ab s σ H E I hf st hg;subst hP hw hK;have D:=RZ I hf hg.1 nd;obtain⟨Y,hY⟩:=jB (β:=List Value) λq (hq:q∈qs)=>I.sqk (hg.1 q hq);obtain⟨Z,hZ⟩:=jB (β:=Array Value) (P:=λp ys=>∃q∈qs,p=Zq.zi q/\p.1.Sq s.heap p.2.2 ys/\ys=(Y q).toArray) (l:=qs.map Zq.zi) λp hp=>by obtain⟨q,hq,rfl⟩:=XY.mp hp;exact⟨_,q,hq,rfl,(hY q hq).2,rfl⟩
  obtain⟨q,hq,hl⟩:=hg.2;refine FD D st (I.ok.hd hc) (by simpa using h1) (by simpa using h8) Z (λp hp=>by obtain⟨_,_,_,h,_⟩:=hZ p hp;exact h) ⟨q.zi,XY.mpr ⟨q,hq,rfl⟩,?_⟩ λh' hk=>⟨rfl,?_⟩
  .
   obtain⟨q',hq',e,h3,e2⟩:=hZ q.zi (XY.mpr ⟨q,hq,rfl⟩);have a:=(hY q hq).2;have b:=(hY q' hq').1.length;have b':=(hY q hq).1.length;rw[e2]at h3
   have ea:(Y q').toArray=(Y q).toArray:=by
    have ek:q.k=q'.k:=Zy Prod.fst e;have eadr:q.a=q'.a:=Zy (·.2.2) e;have h3':q.k.Sq s.heap q.a (Y q').toArray:=h3;clear h3
    revert a h3'
    cases q.k with
    | l =>
     rintro⟨o1,x1,_,_,d1⟩ ⟨o2,x2,_,_,d2⟩;rw[x1]at x2;cases x2;exact(Data.seq.inj (d2.symm.trans d1)).1
    | t =>
     rintro⟨o1,x1,_,_,d1⟩ ⟨o2,x2,_,_,d2⟩;rw[x1]at x2;cases x2;exact(Data.seq.inj (d2.symm.trans d1)).1
   rw[e2,ea];simp;omega
  .
   exact I.turnedL (t':=s.toks) (fp:=z::I0::O::Zi.ofs (qs.map Zq.zi)) (λb o hb e=>hk b o (λq=>hb (by
    rcases XW.mp q with rfl|q
    . exact XU
    .
     exact p3 _ (p3 _ q))) e) hf
 self:=λ_ _ _ _ _ st h=>wpAny_pyIter_zip st.hz h
theorem wg{K:W.Frag}{H:Hp}{α:Type}{f:α->V}{g:α->D}:∀{l:List α},(∀x∈l,Us K H (f x) (g x))->bV K H (l.map f) (l.map g)
 |[],_=>.nil
 |x::l,h=>.cons (h x XU) (wg λy hy=>h y (p3 _ hy))
def Vd(K:W.Frag)(H:Hp):Sk->Addr->List V->Prop
 |.l,a,xs=>Ur K H a xs
 |.t,a,xs=>TB K H a xs
theorem Vd.pres{K:W.Frag}{H H':Hp}{k:Sk}{a:Addr}{xs:List V}(p:yq H H')(h:Vd K H k a xs):Vb K H' k a xs:=by
 cases k with
 |l=>exact(Ur.pres p h).l
 |t=>exact TB.pres p h
noncomputable def Sk.mk:Sk->List D->D
 |.l,xs=>.lst xs
 |.t,xs=>.tup xs
theorem Sk.rep{K:W.Frag}{H:Hp}{k:Sk}{v:V}{xs:List D}(r:Us K H v (k.mk xs)):∃a vs,v=.ref a/\Vd K H k a vs/\bV K H vs xs:=by
 cases k with
 | l=>cases r with
  |lst h rs=>exact⟨_,_,rfl,h,rs⟩
 | t=>cases r with
  |tup h rs=>exact⟨_,_,rfl,h,rs⟩
theorem Dl{K:W.Frag}{H:Hp}{qs:List (Zq×List D)}{n:Nat}(hq:∀q∈qs,Vd K H q.1.k q.1.a q.1.c/\bV K H q.1.c q.2)(hn:∀q∈qs,n<=q.2.length)(he:∃q∈qs,q.2.length=n) :
  vX K H (Vc K (qs.map (·.1))) ((List.range n).map λi=>.tup (qs.map λq=>q.2.getD i .non)):=λH' p=>by
 refine⟨λi x e=>?_,⟨λq hm=>?_,?_⟩⟩
 .
  rw[X1]at e;obtain⟨j,e1,e2⟩:=YG.mp e;obtain⟨hj,e3⟩:=tu.mp e1;rw[YV]at e3;subst e3;rw[X6]at hj;refine⟨λq hm=>?_,λv H2 ⟨q,ev,hn',eH⟩=>?_⟩
  . obtain⟨q0,hq0,rfl⟩:=XY.mp hm;obtain⟨a1,a2⟩:=hq q0 hq0;exact⟨a1.pres p,by rw[a2.length];exact XX hj (hn q0 hq0)⟩
  . subst ev eH e2;refine⟨.inr ⟨_,_,hn',rfl⟩,.tup (.inl (.inl (cb ..))) ?_⟩;rw[Yd];refine wg λq0 hq0=>?_;obtain⟨a1,a2⟩:=hq q0 hq0;have hl:i<q0.2.length:=XX hj (hn q0 hq0);obtain⟨v,ev,rv⟩:=a2.get (i:=i) (gV hl);rw[k4,gV hl];show Us K _ (q0.1.c.getD i .non) _;rw[k4,ev];exact(rv.pres p).new hn'
 . obtain⟨q0,hq0,rfl⟩:=XY.mp hm;exact(hq q0 hq0).1.pres p
 . obtain⟨q0,hq0,e⟩:=he;refine⟨q0.1,XY.mpr ⟨q0,hq0,rfl⟩,?_⟩;rw[(hq q0 hq0).2.length];simp[e]
theorem rZ(xs ys:List D):((List.range (min xs.length ys.length)).map λi=>D.tup [xs.getD i .non,ys.getD i .non])=o5 xs ys:=by
 refine YH (by simp[o5]) λi h1 h2=>?_;have:i<min xs.length ys.length:=by simpa using h1
 simp only[YT,YV,o5,ZC];rw[k4,k4,gV xL,gV xL];rfl
section
variable{prog:Program}{w:World}{A:Around}{E:Value->Shared->Prop}{s:Shared}
theorem vn{k m:Sk}{a b:Addr}{xs ys:Array Value}{Q:Value->Shared->Prop}(ha:k.Sq s.heap a xs)(hb:m.Sq s.heap b ys)
  (h:∀h',U6 (s.heap.objs.size+4) (s.heap.objs.size+2) (s.heap.objs.size+3) [(k,s.heap.objs.size,a),(m,s.heap.objs.size+1,b)] .none 0 h'->(∀c o,s.heap.get? c=some o->h'.get? c=some o)->Q (.ref (s.heap.objs.size+4)) {s with heap:=h' }) :
  wpAny (model prog w) A (call (.type "zip") [.ref a,.ref b]) Q E s:=by
 refine callType_new F.called_zip xp (F.typeCall_zip_2 _ _) (F.newCall_zip_2 _ _) (λobj=>F.args_object_init_3 obj _ _) F.entry_zip_new (IM k m a b xs ys) ⟨ha,hb,?_⟩;have z1:(zA s.heap k a).objs.size=s.heap.objs.size+1:=Heap.size_push ..;have z2:(zA (zA s.heap k a) m b).objs.size=s.heap.objs.size+2:=by rw[Heap.size_push,z1]
 have z3:(U8 s.heap k m a b).objs.size=s.heap.objs.size+3:=by rw[Heap.size_push,z2]
 have z4:(U9 s.heap k m a b).objs.size=s.heap.objs.size+4:=by rw[Heap.size_push,z3]
 have g5:(Va s.heap k m a b).get? (U9 s.heap k m a b).objs.size=some _:=X5 _ rfl;have g4:(Va s.heap k m a b).get? (U8 s.heap k m a b).objs.size=some _:=p4 _ (X5 _ rfl);have g3:(Va s.heap k m a b).get? (zA (zA s.heap k a) m b).objs.size=some _:=p4 _ (p4 _ (X5 _ rfl));have g2:(Va s.heap k m a b).get? (zA s.heap k a).objs.size=some _:=p4 _ (p4 _ (p4 _ (X5 _ rfl)));have g1:(Va s.heap k m a b).get? s.heap.objs.size=some _:=p4 _ (p4 _ (p4 _ (p4 _ (X5 _ rfl))));show _/\_;rw[z2,z3,z4]at g5;rw[z1,z2]at g3;rw[z3]at g4;rw[z1]at g2;rw[z4];refine⟨⟨_,g5,rfl⟩,h _ ⟨g5,g3,⟨_,x_,g4⟩,λp hp=>?_⟩ λc o x=>p4 _ (p4 _ (p4 _ (p4 _ (p4 _ x))))⟩;simp only[XW,YD,ZU]at hp;rcases hp with rfl|rfl
 . exact Sk.itAt g1
 . exact Sk.itAt g2
end
def Pi(d:D)(k:Sk->List D->Prop):Prop:=match d with
 |.lst xs=>k .l xs
 |.tup xs=>k .t xs
 |_=>False
theorem wj{d:D}{k:Sk->List D->Prop}(h:Pi d k):∃s xs,d=Sk.mk s xs/\k s xs:=by
 unfold Pi at h;split at h
 . exact⟨.l,_,rfl,h⟩
 . exact⟨.t,_,rfl,h⟩
 . exact h.elim
def KM(d d2:D)(k:List D->Prop):Prop:=Pi d λ_ xs=>Pi d2 λ_ ys=>k (o5 xs ys)
def Ms(t u:W L):W (List D):=λρ kz=>t ρ λr ρ1=>Uy r λd=>u ρ1 λr2 ρ2=>Uy r2 λd2=>KM d d2 λzs=>kz zs ρ2
section
variable{X:Cx}{a b:Expr}{es:List Expr}{pos p apos:Pos}
theorem IP{k:Nat}{t u:W L} (hg:Gl X "zip") (hm:X.mg "zip"=none) (ha:PL X a t) (hb:PL X b u) (hs:autoParam (starEach [a,b] X.env=[(false,eval a X.env),(false,eval b X.env)]) acE) (hs2:autoParam (starEach [b] X.env=[(false,eval b X.env)]) acE) :
  UJ X (.Tuple es k apos) (.Call (.Name "zip" p) [a,b] [] pos) (Ms t u):=by
 intro ab s σ H Pr ρ kz I E h;refine Call_ (fk I hg hm boot_zip (Yp (Tu (af (aA ha) (af (aA hb) ag hs2) (by rw[hs,hs2]) pos ab s σ H Pr ρ (λls ρ1=>UZ ls λd d2=>KM d d2 λzs=>kz zs ρ1) I E ?_) λus s1 h_=>h_.on λvs H1 ls ρ1 I1 r1 hl hb E1 _ q1=>?_) (by rw[hs,hs2]) (by rw[hs2];rfl)))
 .
  show t ρ _
  have e:(λr ρ1=>Uy r λd=>u ρ1 λr2 ρ2=>Uy r2 λd2=>KM d d2 λzs=>kz zs ρ2)
    = (λr ρ1=>Uy r λx=>ar (bp u) aH ρ1 λxs ρ2=>UZ (L.d x::xs) λd d2=>KM d d2 λzs=>kz zs ρ2):=by
   funext r ρ1
   refine Zy (Uy r) (funext λx=>?_);show u ρ1 _=u ρ1 _;refine Zy (u ρ1) (funext λr2=>funext λρ2=>?_);show Uy r2 _=Uy r2 _;exact Zy (Uy r2) (funext λd2=>(KJ x d2 (λd d2=>KM d d2 λzs=>kz zs ρ2)).symm)
  rw[<- e];exact h
 .
  obtain⟨d,d2,rfl,q1⟩:=q1
  .
   (skip)
   obtain⟨k1,xs,ed,q2⟩:=wj q1;obtain⟨k2,ys,ed2,q3⟩:=wj q2;subst ed ed2;clear q1 q2;obtain⟨v,v2,rfl⟩:=Rb (show vs.length=2 by simpa using hl)
   .
    obtain⟨_,e1,p1⟩:=aG.head_d (σ:=some v2::σ) (ρ:=.d (k2.mk ys)::ρ1) E1;cases e1;obtain⟨_,e1,p2⟩:=aG.head_d (σ:=σ) (ρ:=ρ1) (aG.tail (σ:=some v2::σ) (ρ:=.d (k2.mk ys)::ρ1) E1);cases e1;obtain⟨a1,vs1,rfl,f1,rs1⟩:=Sk.rep p1;obtain⟨a2,vs2,rfl,f2,rs2⟩:=Sk.rep p2;obtain⟨u1,u2,rfl,ru,ru2⟩:=r1.two;cases ru;cases ru2;obtain⟨its,rv,sq1⟩:=I1.sqk (Vd.pres (λ_ _ _ e=>e) f1);obtain⟨its2,rv2,sq2⟩:=I1.sqk (Vd.pres (λ_ _ _ e=>e) f2);refine vn sq1 sq2 λh' st hk=>?_;refine wpAny_pyIter_zip (s:={s1 with heap:=h' }) st.hz ?_;have E1':aG X.K Pr H1 (some _::some _::σ) (.d _::.d _::ρ1):=E1;have E2:aG X.K Pr H1 σ ρ1:=E1'.tail.tail;have nd:((s1.heap.objs.size+4)::(s1.heap.objs.size+2)::(s1.heap.objs.size+3)::Zi.ofs ([(⟨k1,s1.heap.objs.size,a1,vs1⟩:Zq),⟨k2,s1.heap.objs.size+1,a2,vs2⟩].map Zq.zi)).Nodup:=by simp[Zi.ofs,Zq.zi]
    have gv:=Dl (K:=X.K) (H:=H1) (qs:=[(⟨k1,s1.heap.objs.size,a1,vs1⟩,xs),(⟨k2,s1.heap.objs.size+1,a2,vs2⟩,ys)]) (n:=min xs.length ys.length) (λq hq=>by
     simp only[XW,YD,ZU]at hq;rcases hq with rfl|rfl
     . exact⟨f1,rs1⟩
     .
      exact⟨f2,rs2⟩) (λq hq=>by
     simp only[XW,YD,ZU]at hq;rcases hq with rfl|rfl
     . exact Nat.min_le_left _ _
     .
      exact Nat.min_le_right _ _) (by
     rcases Nat.le_total xs.length ys.length with g|g
     . exact⟨_,XU,(aaa g).symm⟩
     .
      exact⟨_,p3 _ XU,(Nat.min_eq_right g).symm⟩)
    have ez:=rZ xs ys;simp only[X7,Zv]at gv;rw[ez]at gv;refine⟨s1.heap.objs.size+4,_,_,_,H1,_,ρ1,rfl,I1.kept (t':=s1.toks) hk,FE _ _ _ _ nd x_ x_,st,λb hb=>?_,E2,gv,q3⟩
    have hb':s1.heap.objs.size<=b:=by
     simp only[XW,YD,ZU,Zi.ofs,Zq.zi,X7,Zv]at hb;rcases hb with rfl|rfl|rfl|rfl|rfl
     . exact Y2 _ _
     . exact Y2 _ _
     . exact Y2 _ _
     . exact XZ _
     . exact Y2 _ _
    exact I1.fpOk hb' (I1.hok.fresh hb')
end
abbrev QG(h:Heap)(z I O:Addr)(f:Value)(b:Bool):Prop:=h.get? z=some {cls:=.type "zip",dict:=none,data:=.fields #[f,.bool b,.bool false,.ref I,.ref O],slots:=#[] }
theorem yO{M:Model}{A:Around}{E:Value->Shared->Prop}{s:Shared}{α β:Type}(f:α->β->Sem (ForInStep β))(J:List α->β->Shared->Prop)(Q:β->Shared->Prop)
  (turn:∀x di b s,J (x::di) b s->wpAny M A (f x b) (λr s'=>match r with | .yield b'=>J di b' s' | .done b'=>Q b' s') E s) (Tw:∀b s,J [] b s->Q b s) (xs:Array α) (b:β) (h:J xs.toList b s):wpAny M A (forIn xs b f) Q E s:=by
 rw[<- Array.forIn_toList];exact wpAny_forIn_list f J Q turn Tw _ b h
section
variable{prog:Program}{w:World}{A:Around}{E:Value->Shared->Prop}{s:Shared}{z I O:Addr}{js:List Zi}{i:Nat}
theorem IQ{a:Addr}{Q:Option Obj->Shared->Prop}(h:Q (s.heap.get? a) s):wpAny (model prog w) A (loadIfAlive a) Q E s:=λΓ p hΓ=>by show Sem.wp _ Γ (.loadIfAlive a .pure) _ _ p s;rw[Sem.wp_loadIfAlive];exact h
theorem Cc{f:Value}{b:Bool}{Q:Bool->Shared->Prop}(hz:QG s.heap z I O f b)(hf:f=.none∨∃T:Nat,f=rawInt T)(h1:Q true s)(h2:∀h' b',QG h' z I O f b'->Heap.SameBut z s.heap h'->Q false {s with heap:=h' }) :
  wpAny (model prog w) A (Builtin.SmallTypes.ownedTupleIsFree (.ref z)) Q E s:=by
 unfold Builtin.SmallTypes.ownedTupleIsFree;refine kS (YQ hz rfl (x:=f) rfl ?_);rcases hf with rfl|⟨T,rfl⟩
 . exact X3 h1
 .
  show wpAny _ _ (loadIfAlive (T:Int).toNat >>= _) _ _ s;refine kS (IQ ?_)
  cases hT:s.heap.get? (T:Int).toNat with
  |none=>exact X3 h1
  | some o =>
   show wpAny _ _ (field (.ref z) 1 >>= _) _ _ s;refine kS (YQ hz rfl (x:=.bool b) rfl ?_)
   cases b with
   |true=>exact X3 (h2 s.heap true hz ⟨rfl,λ_ _=>rfl⟩)
   | false =>
    show wpAny _ _ (setField (.ref z) 1 (.bool true) >>= _) _ _ s;exact kS (Y7 hz x_ λh' hz' hs'=>X3 (h2 h' true hz' hs'))
structure Ve (zo:Obj) (z O:Addr) (js:List Zi) (xs:List Value) (i j:Nat) (h₀ h:Heap):Prop where
 hz:h.get? z=some zo
 hO:∃os,os.length=js.length/\dh h O os/\os.take j=xs.take j
 ahead:∀m p,m<j->js[m]?=some p->p.1.At h p.2.1 p.2.2 (i+1)
 behind:∀m p,j<=m->js[m]?=some p->p.1.At h p.2.1 p.2.2 i
 keep:we z O js h₀ h
 sz:h.objs.size=h₀.objs.size
theorem Ve.next(D:ZA z I O js){zo:Obj}{xs os:List Value}{j:Nat}{p:Zi}{x:Value}{h₀ h h1:Heap}(hj:js[j]?=some p)(hx:xs[j]?=some x)(M:Ve zo z O js xs i j h₀ h)(a1:p.1.At h1 p.2.1 p.2.2 (i+1))(s1:Heap.SameBut p.2.1 h h1)
  (ol:os.length=js.length) (ho1:dh h1 O os) (ht:os.take j=xs.take j):Ve zo z O js xs i (j+1) h₀ (h1.update O (Obj.mapSeq (·.setIfInBounds j x))):=by
 have pm:p∈js:=X4 hj;have jl:j<js.length:=(tu.mp hj).1;have s2:Heap.SameBut O h1 (h1.update O (Obj.mapSeq (·.setIfInBounds j x))):=Z0 ..;have ho2:dh (h1.update O (Obj.mapSeq (·.setIfInBounds j x))) O (os.set j x):=by show Heap.get? _ _=_;rw[YX _ ho1 rfl];simp[Obj.mapSeq]
 have k2:∀c o,c≠O->c≠p.2.1->h.get? c=some o->(h1.update O (Obj.mapSeq (·.setIfInBounds j x))).get? c=some o:=λc o n1 n2 e=>s2.extBut _ _ n1 (s1.extBut _ _ n2 e);refine⟨k2 _ _ D.zO (YE (D.zj pm).1) M.hz,⟨os.set j x,by simp[ol],ho2,?_⟩,λm q hm hq=>?_,λm q hm hq=>?_,λc o hc e=>?_,by rw[s2.1,s1.1];exact M.sz⟩
 . have hxl:j<xs.length:=(tu.mp hx).1;rw[Z6,Z6,Zw xL,hx,List.take_set_of_le (XZ _),ht]
 .
  have qm:q∈js:=X4 hq;rcases Nat.lt_or_ge m j with h|h
  .
   have ne:q.2.1≠p.2.1:=λe=>by have:=D.inj hq hj e;omega
   exact(M.ahead m q h hq).to λo e=>k2 _ o (D.zj qm).2 ne e
  .
   have:m=j:=by omega
   subst this;rw[hj]at hq;cases hq;exact a1.to λo e=>s2.extBut _ _ (D.zj pm).2 e
 .
  have qm:q∈js:=X4 hq;have ne:q.2.1≠p.2.1:=λe=>by have:=D.inj hq hj e;omega
  exact(M.behind m q xL hq).to λo e=>k2 _ o (D.zj qm).2 ne e
 . have n:=hc;simp only[XW,not_or]at n;exact k2 c o n.2.1 (λq=>n.2.2 (q ▸ fz pm)) (M.keep c o hc e)
structure Vf (z I O:Addr) (js:List Zi) (i:Nat) (h:Heap):Prop where
 hz:∃f b,(f=.none∨∃T:Nat,f=rawInt T)/\QG h z I O f b
 hI:dh h I ((Zi.ofs js).map .ref)
 hO:∃os,os.length=js.length/\dh h O os
 at':∀p∈js,p.1.At h p.2.1 p.2.2 i
structure Vg (zo:Obj) (z O:Addr) (js:List Zi) (i j:Nat) (h₀ h:Heap):Prop where
 hz:h.get? z=some zo
 hO:∃os,os.length=js.length/\dh h O os
 ahead:∀m p,m<j->js[m]?=some p->p.1.At h p.2.1 p.2.2 (i+1)
 behind:∀m p,j<=m->js[m]?=some p->p.1.At h p.2.1 p.2.2 i
 keep:we z O js h₀ h
 sz:h.objs.size=h₀.objs.size
theorem Vg.next(D:ZA z I O js){zo:Obj}{j:Nat}{p:Zi}{h₀ h h1:Heap}(hj:js[j]?=some p)(M:Vg zo z O js i j h₀ h)(a1:p.1.At h1 p.2.1 p.2.2 (i+1))(s1:Heap.SameBut p.2.1 h h1):Vg zo z O js i (j+1) h₀ h1:=by
 have pm:p∈js:=X4 hj;obtain⟨os,ol,ho⟩:=M.hO;have k2:∀c o,c≠p.2.1->h.get? c=some o->h1.get? c=some o:=λc o n e=>s1.extBut _ _ n e;refine⟨k2 _ _ (YE (D.zj pm).1) M.hz,⟨os,ol,k2 _ _ (YE (D.zj pm).2) ho⟩,λm q hm hq=>?_,λm q hm hq=>?_,λc o hc e=>?_,by rw[s1.1];exact M.sz⟩
 .
  rcases Nat.lt_or_ge m j with h|h
  .
   have ne:q.2.1≠p.2.1:=λe=>by have:=D.inj hq hj e;omega
   exact(M.ahead m q h hq).to λo e=>k2 _ o ne e
  .
   have:m=j:=by omega
   subst this;rw[hj]at hq;cases hq;exact a1
 .
  have ne:q.2.1≠p.2.1:=λe=>by have:=D.inj hq hj e;omega
  exact(M.behind m q xL hq).to λo e=>k2 _ o ne e
 . have n:=hc;simp only[XW,not_or]at n;exact k2 c o (λq=>n.2.2 (q ▸ fz pm)) (M.keep c o hc e)
theorem KN{x:Value×Nat}{di:List (Value×Nat)}{j:Nat}(er:((Zi.ofs js).map Value.ref).zipIdx.drop j=x::di):∃p,js[j]?=some p/\x=(.ref p.2.1,j)/\((Zi.ofs js).map Value.ref).zipIdx.drop (j+1)=di:=by obtain⟨e1,e2,e3⟩:=rY er;rw[X1]at e2;obtain⟨y,e4,e5⟩:=YG.mp e2;unfold Zi.ofs at e4;rw[X1]at e4;obtain⟨p,hp,e6⟩:=YG.mp e4;exact⟨p,hp,Prod.ext (by rw[<- e5,<- e6]) e1,e3⟩
noncomputable abbrev QH(I O:Addr)(b:Bool):Obj:={cls:=.type "zip",dict:=none,data:=.fields #[.ellipsis,.bool b,.bool false,.ref I,.ref O],slots:=#[] }
noncomputable abbrev QI(I O:Addr)(f:Value)(b:Bool):Obj:={cls:=.type "zip",dict:=none,data:=.fields #[f,.bool b,.bool false,.ref I,.ref O],slots:=#[] }
theorem FF{x:Value}{di:List Value}{j:Nat}(er:((Zi.ofs js).map Value.ref).drop j=x::di):∃p,js[j]?=some p/\x=.ref p.2.1/\((Zi.ofs js).map Value.ref).drop (j+1)=di:=by
 have h0:(((Zi.ofs js).map Value.ref).drop j)[0]?=some x:=by rw[er];rfl
 rw[Z7,Nat.add_zero,X1]at h0;obtain⟨y,e4,e5⟩:=YG.mp h0;unfold Zi.ofs at e4;rw[X1]at e4;obtain⟨p,hp,e6⟩:=YG.mp e4;exact⟨p,hp,by rw[<- e5,<- e6],by rw[<- List.drop_drop,er];rfl⟩
theorem Vg.put(D:ZA z I O js){zo:Obj}{j k:Nat}{x:Value}{os:List Value}{h₀ h:Heap}(M:Vg zo z O js i j h₀ h)(hk:k<js.length)(ho:dh h O os)(ol:os.length=js.length):Vg zo z O js i j h₀ (h.update O (Obj.mapSeq (·.setIfInBounds k x))):=by have s2:Heap.SameBut O h (h.update O (Obj.mapSeq (·.setIfInBounds k x))):=Z0 ..;refine⟨s2.extBut _ _ D.zO M.hz,⟨os.set k x,by simp[ol],?_⟩,λm p hm hp=>(M.ahead m p hm hp).to λo e=>s2.extBut _ _ (D.zj (X4 hp)).2 e,λm p hm hp=>(M.behind m p hm hp).to λo e=>s2.extBut _ _ (D.zj (X4 hp)).2 e,λc o hc e=>s2.extBut _ _ (λq=>hc (by simp[q])) (M.keep c o hc e),by rw[s2.1];exact M.sz⟩;show Heap.get? _ _=_;rw[YX _ ho rfl];simp[Obj.mapSeq]
theorem Pj(h1:js≠[]):((Zi.ofs js).map Value.ref).toArray.isEmpty=false:=by
 cases js with
 |nil=>exact absurd rfl h1
 |cons p r=>rfl
theorem Mt(D:ZA z I O js)(st:Vf z I O js i s.heap){xs:List Value}(hl:xs.length=js.length)(h1:js≠[])(h8:js.length<=8)(hv:∀(j:Nat) (p:Zi) (x:Value),js[j]?=some p->xs[j]?=some x->∃ys,p.1.Sq s.heap p.2.2 ys/\ys[i]?=some x){Q:Value->Shared->Prop}
  (hQ:∀h',Vf z I O js (i+1) h'->dh h' s.heap.objs.size xs->we z O js s.heap h'->Q (.ref s.heap.objs.size) {s with heap:=h' }) :
  wpAny (model prog w) A (Builtin.«zip.__next__» ⟨[.ref z],[]⟩) (λr s'=>∃v,r=.done (.ret v)/\Q v s') E s:=by
 obtain⟨⟨f,b,hf,hz⟩,hI,⟨os,ol,hO⟩,at'⟩:=st;have Iz:=D.Iz;simp only[XW,not_or]at Iz;show wpAny _ _ (field (.ref z) 2 >>= _) _ _ s;refine kS (YQ hz rfl (x:=.bool false) rfl ?_);show wpAny _ _ (field (.ref z) 3 >>= _) _ _ s;refine kS (YQ hz rfl (x:=.ref I) rfl ?_);refine kS (Zc hI rfl ?_)
 show wpAny _ _ (if(_:Array Value).isEmpty=true then _ else _) _ _ s
 rw[if_neg (by rw[Pj h1];exact YC)];show wpAny _ _ (Builtin.SmallTypes.ownedTupleIsFree (.ref z) >>= _) _ _ s;refine kS (Cc hz hf ?_ λh₁ b' hz₁ hs₁=>?_)
 .
  simp only[Zh];refine kS (wpAny_rule (kS (YQ hz rfl (x:=.ref O) rfl ?_)));refine kS (Y7 hz x_ λh₁ hz₁ hs₁=>?_);have M0:Ve (QH I O b) z O js xs i 0 s.heap h₁:=by refine⟨hz₁,⟨os,ol,hs₁.extBut _ _ (YE D.zO) hO,x_⟩,λm p hm=>by omega,λm p _ hp=>(at' p (X4 hp)).to λo e=>hs₁.extBut _ _ (D.zj (X4 hp)).1 e,λc o hc e=>?_,hs₁.1⟩;exact hs₁.extBut _ _ (λq=>hc (by simp[q])) e
  refine kS (wpAny_forIn_list _ (λdi bb s1=>∃j,((Zi.ofs js).map Value.ref).zipIdx.drop j=di/\bb=(none,())/\j<=js.length/\Ve (QH I O b) z O js xs i j s.heap s1.heap/\s1={s with heap:=s1.heap}) _ ?_ ?_ _ _ ⟨0,rfl,rfl,YO _,M0,rfl⟩)
  .
   rintro x di bb s1 ⟨j,er,rfl,hjl,M,es⟩;obtain⟨p,hp,rfl,e3⟩:=KN er;have jl:j<js.length:=(tu.mp hp).1;obtain⟨ys,sq,hy⟩:=hv j p xs[j] hp (gV xL);have pm:p∈js:=X4 hp;refine kS (wpAny_onRaise ?_);show wpAny _ _ (Builtin.SmallTypes.nextOf (.ref p.2.1) >>= _) _ _ s1;refine kS (Sk.draw (M.behind j p (XZ _) hp) (sq.to λo e=>M.keep _ o (D.src p pm) e) hy λh1 a1 k1=>X3 ?_);obtain⟨os1,ol1,ho,ht⟩:=M.hO;have ho1:dh h1 O os1:=k1.extBut _ _ (YE (D.zj pm).2) ho;refine kS (Zc ho1 rfl ?_);refine kS (ZL ho1 rfl ?_ (by simp;exact U7 xL) (by simp;exact X0 (U7 xL) (aas _)));refine kS (wpAny_letGo (X3 ?_))
   exact⟨j+1,e3,rfl,jl,M.next D hp (gV xL) a1 k1 ol1 ho1 ht,by rw[es]⟩
  .
   rintro bb s1 ⟨j,er,rfl,hjl,M,es⟩;have jn:j=js.length:=by have:=Zy List.length er;simp[Zi.ofs]at this;omega
   subst jn;obtain⟨os1,ol1,ho,ht⟩:=M.hO;have eo:os1=xs:=by rw[Yy xL,Yy xL]at ht;exact ht
   subst eo;refine kS (Zc ho rfl ?_);refine kS (wpAny_newTuple ?_ (by simp;exact U7 xL));have hz1:=p4 {cls:=.type "tuple",data:=.seq os1.toArray} M.hz;show wpAny _ _ (Builtin.SmallTypes.ownedTupleHandOut (.ref z) (.ref s1.heap.objs.size) >>= _) _ _ {s1 with heap:=_};refine kS ?_;unfold Builtin.SmallTypes.ownedTupleHandOut;refine kS (Y7 hz1 x_ λh2 hz2 k2=>?_);refine Y7 hz2 x_ λh3 hz3 k3=>?_;replace hz3:QG h3 z I O (rawInt s1.heap.objs.size) false:=hz3;have up:∀c o,c≠z->s1.heap.get? c=some o->h3.get? c=some o:=λc o n e=>k3.extBut _ _ n (k2.extBut _ _ n (p4 _ e));have zl:z<s1.heap.objs.size:=X2 M.hz;have T:dh h3 s1.heap.objs.size os1:=k3.extBut _ _ (aat zl) (k2.extBut _ _ (aat zl) (X5 _ rfl));have es1:=M.sz;rw[es1]at hz3 T;refine X3 ⟨_,rfl,?_⟩;show Q (.ref s1.heap.objs.size) _;rw[es1,es];refine hQ h3 ⟨⟨_,_,.inr ⟨_,rfl⟩,hz3⟩,up _ _ Iz.1 (M.keep _ _ D.Iz hI),⟨os1,ol1,up _ _ (YE D.zO) ho⟩,λp hp=>?_⟩ T λc o hc e=>up c o (λq=>hc (by simp[q])) (M.keep c o hc e);obtain⟨m,hm,e⟩:=Zk.mp hp;exact(M.ahead m p hm (by rw[gV hm,e])).to λo q=>up _ o (D.zj hp).1 q
 .
  simp only[YL,ZH];have M0:Vg (QI I O f b') z O js i 0 s.heap h₁:=by refine⟨hz₁,⟨os,ol,hs₁.extBut _ _ (YE D.zO) hO⟩,λm p hm=>by omega,λm p _ hp=>(at' p (X4 hp)).to λo e=>hs₁.extBut _ _ (D.zj (X4 hp)).1 e,λc o hc e=>?_,hs₁.1⟩;exact hs₁.extBut _ _ (λq=>hc (by simp[q])) e
  refine kS (yO _ (λdi bb s1=>∃j,((Zi.ofs js).map Value.ref).drop j=di/\bb=(none,(xs.take j).toArray)/\j<=js.length/\Vg (QI I O f b') z O js i j s.heap s1.heap/\s1={s with heap:=s1.heap}) _ ?_ ?_ _ _ ⟨0,x_,x_,YO _,M0,rfl⟩)
  .
   rintro x di bb s1 ⟨j,er,rfl,hjl,M,es⟩;obtain⟨p,hp,rfl,e3⟩:=FF er;have jl:j<js.length:=(tu.mp hp).1;obtain⟨ys,sq,hy⟩:=hv j p xs[j] hp (gV xL);have pm:p∈js:=X4 hp;refine kS (Zm ?_);show wpAny _ _ (Builtin.SmallTypes.nextOf (.ref p.2.1) >>= _) _ _ s1;refine kS (Sk.draw (M.behind j p (XZ _) hp) (sq.to λo e=>M.keep _ o (D.src p pm) e) hy λh1 a1 k1=>X3 ?_)
   refine X3 ⟨j+1,e3,?_,jl,M.next D hp a1 k1,by rw[es]⟩
   rw[Z6,gV xL];simp
  .
   rintro bb s1 ⟨j,er,rfl,hjl,M,es⟩;have jn:j=js.length:=by have:=Zy List.length er;simp[Zi.ofs]at this;omega
   subst jn;rw[Yy xL];obtain⟨os1,ol1,ho⟩:=M.hO;refine kS (wpAny_newTuple ?_ (by simp;exact U7 xL));have es1:=M.sz;refine X3 ⟨_,rfl,?_⟩;show Q (.ref s1.heap.objs.size) _;have up:∀ c o,s1.heap.get? c=some o->(s1.heap.push {cls:=.type "tuple",data:=.seq xs.toArray}).get? c=some o:=λc o e=>p4 _ e;have T:dh (s1.heap.push {cls:=.type "tuple",data:=.seq xs.toArray}) s1.heap.objs.size xs:=X5 _ rfl;rw[es1]at T;rw[es1,es];refine hQ _ ⟨⟨_,_,hf,up _ _ M.hz⟩,up _ _ (M.keep _ _ D.Iz hI),⟨os1,ol1,up _ _ ho⟩,λp hp=>?_⟩ T λc o hc e=>up c o (M.keep c o hc e);obtain⟨m,hm,e⟩:=Zk.mp hp;exact(M.ahead m p hm (by rw[gV hm,e])).to λo q=>up _ o q
theorem Mu(D:ZA z I O js)(st:Vf z I O js i s.heap)(h0:A.handled=none)(h1:js≠[])(h8:js.length<=8)(Y:Zi->Array Value)(hv:∀p∈js,p.1.Sq s.heap p.2.2 (Y p))(he:∃p∈js,(Y p)[i]?=none){Q:Fin->Shared->Prop}
  (hE:∀ h' e,we z O js s.heap h'->(∃ o,h'.get? e=some o/\o.cls=.type "StopIteration")->E (.ref e) {s with heap:=h' }) :
  wpAny (model prog w) A (Builtin.«zip.__next__» ⟨[.ref z],[]⟩) Q E s:=by
 obtain⟨⟨f,b,hf,hz⟩,hI,⟨os,ol,hO⟩,at'⟩:=st;obtain⟨p0,hp0,hn0⟩:=he;obtain⟨m0,hm0,em0⟩:=Zk.mp hp0;show wpAny _ _ (field (.ref z) 2 >>= _) _ _ s;refine kS (YQ hz rfl (x:=.bool false) rfl ?_);show wpAny _ _ (field (.ref z) 3 >>= _) _ _ s;refine kS (YQ hz rfl (x:=.ref I) rfl ?_);refine kS (Zc hI rfl ?_)
 show wpAny _ _ (if(_:Array Value).isEmpty=true then _ else _) _ _ s
 rw[if_neg (by rw[Pj h1];exact YC)];show wpAny _ _ (Builtin.SmallTypes.ownedTupleIsFree (.ref z) >>= _) _ _ s;refine kS (Cc hz hf ?_ λh₁ b' hz₁ hs₁=>?_)
 .
  simp only[Zh];refine kS (wpAny_rule (kS (YQ hz rfl (x:=.ref O) rfl ?_)));refine kS (Y7 hz x_ λh₁ hz₁ hs₁=>?_);have M0:Vg (QH I O b) z O js i 0 s.heap h₁:=by refine⟨hz₁,⟨os,ol,hs₁.extBut _ _ (YE D.zO) hO⟩,λm p hm=>by omega,λm p _ hp=>(at' p (X4 hp)).to λo e=>hs₁.extBut _ _ (D.zj (X4 hp)).1 e,λc o hc e=>?_,hs₁.1⟩;exact hs₁.extBut _ _ (λq=>hc (by simp[q])) e
  refine kS (wpAny_forIn_list _ (λdi bb s1=>∃j,((Zi.ofs js).map Value.ref).zipIdx.drop j=di/\bb=(none,())/\j<=js.length/\Vg (QH I O b) z O js i j s.heap s1.heap/\s1={s with heap:=s1.heap}/\j<=m0) _ ?_ ?_ _ _ ⟨0,rfl,rfl,YO _,M0,rfl,YO _⟩)
  .
   rintro x di bb s1 ⟨j,er,rfl,hjl,M,es,hj0⟩;obtain⟨p,hp,rfl,e3⟩:=KN er;have jl:j<js.length:=(tu.mp hp).1;have pm:p∈js:=X4 hp;have sq:=hv p pm;refine kS (wpAny_onRaise ?_);show wpAny _ _ (Builtin.SmallTypes.nextOf (.ref p.2.1) >>= _) _ _ s1
   cases hy:(Y p)[i]? with
   | none =>
    refine kS (Sk.drawE h0 (M.behind j p (XZ _) hp) (sq.to λo e=>M.keep _ o (D.src p pm) e) hy λh1 e k1 ho=>?_);obtain⟨oe,he,ce⟩:=ho;have hz2:=k1 _ _ (YE (D.zj pm).1) M.hz;have ne:e≠z:=λx=>by subst x;rw[hz2]at he;cases he;simp at ce
    refine Y7 hz2 x_ λh3 _ k3=>?_;rw[es];refine hE h3 e (λc o hc q=>?_) ⟨oe,k3.extBut _ _ ne he,ce⟩;have hc':=hc;simp only[XW,not_or]at hc';exact k3.extBut _ _ hc'.1 (k1 _ _ (λq=>hc'.2.2 (q ▸ fz pm)) (M.keep c o hc q))
   |some v =>
   have nj:j≠m0:=λq=>by subst q;rw[gV jl,em0]at hp;cases hp;rw[hn0]at hy;cases hy
   refine kS (Sk.draw (M.behind j p (XZ _) hp) (sq.to λo e=>M.keep _ o (D.src p pm) e) hy λh1 a1 k1=>X3 ?_)
   have M1:=M.next D hp a1 k1
   obtain⟨os1,ol1,ho1⟩:=M1.hO;refine kS (Zc ho1 rfl ?_);refine kS (ZL ho1 rfl ?_ (by simp;exact U7 xL) (by simp;exact X0 (U7 xL) (aas _)));refine kS (wpAny_letGo (X3 ?_));refine⟨j+1,e3,rfl,jl,M1.put D (tu.mp hp).1 ho1 ol1,by rw[es],xL⟩
  .
   rintro bb s1 ⟨j,er,rfl,hjl,M,es,hj0⟩;have jn:j=js.length:=by have:=Zy List.length er;simp[Zi.ofs]at this;omega
   omega
 .
  simp only[YL,ZH];have M0:Vg (QI I O f b') z O js i 0 s.heap h₁:=by refine⟨hz₁,⟨os,ol,hs₁.extBut _ _ (YE D.zO) hO⟩,λm p hm=>by omega,λm p _ hp=>(at' p (X4 hp)).to λo e=>hs₁.extBut _ _ (D.zj (X4 hp)).1 e,λc o hc e=>?_,hs₁.1⟩;exact hs₁.extBut _ _ (λq=>hc (by simp[q])) e
  refine kS (yO _ (λdi bb s1=>∃j,((Zi.ofs js).map Value.ref).drop j=di/\bb.1=none/\j<=js.length/\Vg (QI I O f b') z O js i j s.heap s1.heap/\s1={s with heap:=s1.heap}/\j<=m0) _ ?_ ?_ _ _ ⟨0,x_,rfl,YO _,M0,rfl,YO _⟩)
  .
   rintro x di bb s1 ⟨j,er,hbb,hjl,M,es,hj0⟩;obtain⟨p,hp,rfl,e3⟩:=FF er;have jl:j<js.length:=(tu.mp hp).1;have pm:p∈js:=X4 hp;have sq:=hv p pm;refine kS (Zm ?_);show wpAny _ _ (Builtin.SmallTypes.nextOf (.ref p.2.1) >>= _) _ _ s1
   cases hy:(Y p)[i]? with
   | none =>
    refine kS (Sk.drawE h0 (M.behind j p (XZ _) hp) (sq.to λo e=>M.keep _ o (D.src p pm) e) hy λh1 e k1 ho=>?_);rw[es];refine hE h1 e (λc o hc q=>?_) ho;have hc':=hc;simp only[XW,not_or]at hc';exact k1 _ _ (λq=>hc'.2.2 (q ▸ fz pm)) (M.keep c o hc q)
   |some v =>
   have nj:j≠m0:=λq=>by subst q;rw[gV jl,em0]at hp;cases hp;rw[hn0]at hy;cases hy
   refine kS (Sk.draw (M.behind j p (XZ _) hp) (sq.to λo e=>M.keep _ o (D.src p pm) e) hy λh1 a1 k1=>X3 ?_)
   exact X3 ⟨j+1,e3,rfl,jl,M.next D hp a1 k1,by rw[es],xL⟩
  .
   rintro bb s1 ⟨j,er,hbb,hjl,M,es,hj0⟩;have jn:j=js.length:=by have:=Zy List.length er;simp[Zi.ofs]at this;omega
   omega
end
theorem Dm:typeLookup (.type "zip") "__len__"=pure none:=by rw[aaw,ZM]; kernel_rfl
theorem AH:typeLookup (.type "zip") "__length_hint__"=pure none:=by rw[aaw,ZM]; kernel_rfl
section
variable{prog:Program}{w:World}{A:Around}{s:Shared}{R:Result->Shared->Prop}{z I O S:Addr}{js:List Zi}
structure LZ (z I O S:Addr) (js:List Zi) (Y:Zi->Array Value) (row:Nat->List Value) (i:Nat) (acc:Array Value) (h:Heap):Prop where
 st:Vf z I O js i h
 src:∀p∈js,p.1.Sq h p.2.2 (Y p)
 lst:∃ c,h.get? S=some {cls:=.type "list",dict:=none,data:=.seq acc c,slots:=#[] }
 size:acc.size=i
 its:∀m,m<i->∃T,acc[m]?=some (.ref T)/\dh h T (row m)/\T∉z::O::Zi.ofs js/\S<T
theorem IR{h:Heap}(st:Vf z I O js i h):h.objs.size∉z::O::Zi.ofs js:=λhm=>by
 obtain⟨f,b,_,hz⟩:=st.hz;obtain⟨os,_,hO⟩:=st.hO;rcases XW.mp hm with e|hm
 . exact absurd (X2 hz) (by rw[<- e];exact Y1 _)
 rcases XW.mp hm with e|hm
 . exact absurd (X2 hO) (by rw[<- e];exact Y1 _)
 . obtain⟨p,hp,e⟩:=XY.mp hm;obtain⟨o,eo,_⟩:=(st.at' p hp).obj;exact absurd (X2 eo) (by rw[e];exact Y1 _)
theorem Mv(D:ZA z I O js)(hS:S∉z::I::O::Zi.ofs js)(hSs:∀p∈js,p.2.2≠S)(h0:A.handled=none)(h1:js≠[])(h8:js.length<=8)(Y:Zi->Array Value)(row:Nat->List Value){n:Nat}(hn:n<=sizeLine)(hr:∀m,m<n->(row m).length=js.length/\∀(j:Nat) (p:Zi) (x:Value),js[j]?=some p->(row m)[j]?=some x->(Y p)[m]?=some x)
  (he:∃p∈js,(Y p)[n]?=none) (res:Value):∀(k i:Nat)(s:Shared)(acc:Array Value),n-i=k->i<=n->LZ z I O S js Y row i acc s.heap ->
  (∀ h' acc',LZ z I O S js Y row n acc' h'∨True->(∃ c,h'.get? S=some {cls:=.type "list",dict:=none,data:=.seq acc' c,slots:=#[] })->acc'.size=n->(∀ m,m < n->∃ T,acc'[m]?=some (.ref T)/\dh h' T (row m)/\S < T)->(∀ c o,c∉S::z::O::Zi.ofs js->s.heap.get? c=some o->h'.get? c=some o)->R (.ok (.ret res)) {s with heap:=h' }) ->
  codeAny (model prog w) A (.builtin "list.extend.loop" ⟨[.ref S,.ref z,res],[]⟩) R s:=by
 have nS:S∉z::O::Zi.ofs js:=λq=>hS (by
  rcases XW.mp q with e|q
  . rw[e];exact XU
  .
   exact p3 _ (p3 _ q))
 intro k
 induction k with
 | zero =>
  intro i s acc hk hi L hR;have:i=n:=by omega
  subst this;refine codeAny_builtin F.entry_extend_loop ?_;rw[Around.under_plainId aap _];show wpAny _ A.in1 (pyNext (.ref z) >>= _) _ _ s;obtain⟨f,b,hf,hz⟩:=L.st.hz;have ty:s.TypeIs (.ref z) "zip":=⟨_,hz,rfl⟩;refine kS ?_;unfold pyNext;refine kS (aax (Ze (name:=Str.ofString "__next__") ty ZJ (Zt ZJ ty F.entry_zip_next (Mu (A:=A.in1.in1) D L.st h0 h1 h8 Y L.src he λh' e k he=>?_) (F.args_zip_next_1 _))));obtain⟨o,ho,hc⟩:=he;refine kS (wpAny_isInstance (T:="StopIteration") (b:=true) ⟨o,ho,hc⟩ isSubtype_stop (X3 (X3 ?_)));obtain⟨c,hc⟩:=L.lst;refine hR h' acc (.inr trivial) ⟨c,k _ _ nS hc⟩ L.size (λm hm=>?_) λc o hc e=>k c o (λq=>hc (p3 _ q)) e;obtain⟨T,t1,t2,t3,t4⟩:=L.its m hm;exact⟨T,t1,k _ _ t3 t2,t4⟩
 | succ k ih =>
  intro i s acc hk hi L hR;have lt:i<n:=by omega
  obtain⟨rl,rv⟩:=hr i lt;refine codeAny_builtin F.entry_extend_loop ?_;rw[Around.under_plainId aap _];show wpAny _ A.in1 (pyNext (.ref z) >>= _) _ _ s;obtain⟨f,b,hf,hz⟩:=L.st.hz;have ty:s.TypeIs (.ref z) "zip":=⟨_,hz,rfl⟩;refine kS ?_;unfold pyNext;refine kS (aax (Ze (name:=Str.ofString "__next__") ty ZJ (Zt ZJ ty F.entry_zip_next (Mt D L.st rl h1 h8 (λj p x hp hx=>⟨Y p,L.src p (X4 hp),rv j p x hp hx⟩) λh' st' hT hk'=>X3 ?_) (F.args_zip_next_1 _))));obtain⟨c,hc⟩:=L.lst;have hc':=hk' _ _ nS hc;have sl:S<s.heap.objs.size:=X2 hc;show wpAny _ A.in1 (updateSeq S (·.push (.ref s.heap.objs.size)) >>= _) _ _ {s with heap:=h' };refine kS (ZL hc' rfl (X3 ⟨plainId_quiet aap _,ih (i+1) _ (acc.push (.ref s.heap.objs.size)) xL lt ?_ λh'' acc' hz'' q1 q2 q3 q4=>?_⟩) (by rw[L.size];omega) (by show(acc.push _).size<=sizeLine+1;rw[Array.size_push,L.size];omega))
  .
   have s2:Heap.SameBut S h' (h'.update S (Obj.mapSeq (·.push (.ref s.heap.objs.size)))):=Z0 ..;have up:∀c o,c≠S->h'.get? c=some o->(h'.update S (Obj.mapSeq (·.push (.ref s.heap.objs.size)))).get? c=some o:=λc o n e=>s2.extBut _ _ n e;have hS':=hS;simp only[XW,not_or]at hS';obtain⟨⟨f',b',hf',hz'⟩,hI',⟨os,ol,hO'⟩,at'⟩:=st';refine⟨⟨⟨f',b',hf',up _ _ (YE hS'.1) hz'⟩,up _ _ (YE hS'.2.1) hI',⟨os,ol,up _ _ (YE hS'.2.2.1) hO'⟩,λp hp=>(at' p hp).to λo e=>up _ o (λq=>hS'.2.2.2 (q ▸ fz hp)) e⟩,λp hp=>?_,⟨_,YX _ hc' rfl⟩,by rw[Array.size_push,L.size],λm hm=>?_⟩
   . exact((L.src p hp).to λo e=>hk' _ _ (D.src p hp) e).to λo e=>up _ o (hSs p hp) e
   .
    rcases Nat.lt_or_ge m i with g|g
    . obtain⟨T,t1,t2,t3,t4⟩:=L.its m g;refine⟨T,?_,up _ _ (aat t4) (hk' _ _ t3 t2),t3,t4⟩;rw[Array.getElem?_push_lt (by rw[L.size];exact g),<- Array.getElem?_eq_getElem];exact t1
    .
     have:m=i:=by omega
     subst this;refine⟨s.heap.objs.size,?_,up _ _ (aat sl) hT,IR L.st,sl⟩;rw[<- L.size,Array.getElem?_push_size]
  . refine hR h'' acc' hz'' q1 q2 q3 λc o hcc e=>q4 c o hcc ?_;have hcc':=hcc;simp only[XW,not_or]at hcc';show(h'.update S _).get? c=some o;exact(Zu _ _ (λh:S=c=>hcc'.1 h.symm)).trans (hk' c o (by simp only[XW,not_or];exact hcc'.2) e)
theorem FG(D:ZA z I O js)(hS:S∉z::I::O::Zi.ofs js)(hSs:∀p∈js,p.2.2≠S)(h0:A.handled=none)(h1:js≠[])(h8:js.length<=8)(Y:Zi->Array Value)(row:Nat->List Value){n c0:Nat}(hn:n<=sizeLine)(hr:∀m,m<n->(row m).length=js.length/\∀(j:Nat) (p:Zi) (x:Value),js[j]?=some p->(row m)[j]?=some x->(Y p)[m]?=some x)
  (he:∃ p∈js,(Y p)[n]?=none) (res:Value) (st:Vf z I O js 0 s.heap) (src:∀ p∈js,p.1.Sq s.heap p.2.2 (Y p)) (hl:s.heap.get? S=some {cls:=.type "list",data:=.seq #[] c0})
  (hR:∀ h' acc',(∃ c,h'.get? S=some {cls:=.type "list",dict:=none,data:=.seq acc' c,slots:=#[] })->acc'.size=n->(∀ m,m < n->∃ T,acc'[m]?=some (.ref T)/\dh h' T (row m)/\S < T)->(∀ c o,c∉S::z::O::Zi.ofs js->s.heap.get? c=some o->h'.get? c=some o)->R (.ok (.ret res)) {s with heap:=h' }) :
  wpAny (model prog w) A.in1 (Builtin.List.listExtendWith (.ref S) (.ref z) res) (λTw s'=>match Tw with | .done f=>R (.ok f) s' | .again c'=>c'.quiet=true/\codeAny (model prog w) A c' R s') (λe s'=>R (.error e) s') s:=by
 obtain⟨f,b,hf,hz⟩:=id st.hz;have ty:s.TypeIs (.ref z) "zip":=⟨_,hz,rfl⟩;have hS':=hS;simp only[XW,not_or]at hS';unfold Builtin.List.listExtendWith;refine kS (wpAny_typeOf ty ?_);have e1:Builtin.List.listSameRef (.ref S) (.ref z)=false:=by simp[Builtin.List.listSameRef,hS'.1]
 have e2:(Value.type "zip" == Value.type "list")=false:=by decide
 have e3:(Value.type "zip" == Value.type "tuple")=false:=by decide
 simp only[e1,e2,e3,Bool.or_false,YL,ZH];refine kS ?_;have it:∀{Q:Value->Shared->Prop}{E:Value->Shared->Prop},Q (.ref z) s->wpAny (model prog w) A.in1 (pyIter (.ref z)) Q E s:=λ{Q E} h=>by refine wpAny_pyIter_slot ty F.slot_zip_iter (Zt F.slot_zip_iter ty F.entry_zip_iter ?_ (F.args_zip_iter_1 _));show wpAny _ _ (ret (.ref z)) _ _ s;exact X3 ⟨_,rfl,"zip",_,ty,ZJ.lookup,h⟩
 refine it ?_;refine kS (Zm ?_);unfold Builtin.List.listLengthHint;refine kS (wpAny_specialOf ty Dm ?_);show wpAny _ A.in1 (specialOf (.ref z) (Str.ofString "__length_hint__") >>= _) _ _ s;refine kS (wpAny_specialOf ty AH ?_);refine X3 ?_;show wpAny _ A.in1 (rule "list.extend.makes-room" >>= λ_=>Builtin.List.listTouch (.ref S) >>= λ_=>again (.builtin "list.extend.loop" ⟨[.ref S,.ref z,res],[]⟩)) _ _ s;refine kS (wpAny_rule (kS ?_));show wpAny _ A.in1 (updateSeq S (·.push .none) >>= λ_=>updateSeq S (·.pop)) _ _ s;refine kS (ZL hl rfl ?_);have l2:=YX (Obj.mapSeq (·.push Value.none)) hl rfl;refine ZL (hz:=by seq_fits) l2 rfl ?_;have l3:=YX (Obj.mapSeq (·.pop)) l2 rfl;have oth:∀b o,b≠S->s.heap.get? b=some o->((s.heap.update S (Obj.mapSeq (·.push Value.none))).update S (Obj.mapSeq (·.pop))).get? b=some o:=λb o hb e=>(Zu _ _ (YE hb)).trans ((Zu _ _ (YE hb)).trans e);refine X3 ⟨plainId_quiet aap _,Mv D hS hSs h0 h1 h8 Y row hn hr he res n 0 _ #[] rfl (YO _) ⟨⟨⟨f,b,hf,oth _ _ (YE hS'.1) hz⟩,oth _ _ (YE hS'.2.1) st.hI,?_,λp hp=>(st.at' p hp).to λo e=>oth _ o (λq=>hS'.2.2.2 (q ▸ fz hp)) e⟩,λp hp=>(src p hp).to λo e=>oth _ o (hSs p hp) e,⟨_,l3⟩,rfl,λm hm=>by omega⟩ λh' acc' _ q1 q2 q3 q4=>hR h' acc' q1 q2 q3 λc o hc e=>q4 c o hc (oth c o (λq=>hc (by simp[q])) e)⟩;obtain⟨os,ol,hO⟩:=st.hO;exact⟨os,ol,oth _ _ (YE hS'.2.2.1) hO⟩
end
section
variable{prog:Program}{w:World}{A:Around}{E:Value->Shared->Prop}{s:Shared}{z I O:Addr}{js:List Zi}
theorem wm{Q:Value->Shared->Prop}(D:ZA z I O js)(h0:A.handled=none)(h1:js≠[])(h8:js.length<=8)(Y:Zi->Array Value)(row:Nat->List Value){n:Nat}(hn:n<=sizeLine)(hr:∀m,m<n->(row m).length=js.length/\∀(j:Nat) (p:Zi) (x:Value),js[j]?=some p->(row m)[j]?=some x->(Y p)[m]?=some x)
  (he:∃p∈js,(Y p)[n]?=none) (st:Vf z I O js 0 s.heap) (src:∀p∈js,p.1.Sq s.heap p.2.2 (Y p))
  (hQ:∀ h' acc',(∃ c,h'.get? s.heap.objs.size=some {cls:=.type "list",dict:=none,data:=.seq acc' c,slots:=#[] })->acc'.size=n->(∀ m,m < n->∃ T,acc'[m]?=some (.ref T)/\dh h' T (row m)/\s.heap.objs.size < T)->(∀ c o,c∉z::O::Zi.ofs js->s.heap.get? c=some o->h'.get? c=some o)->Q (.ref s.heap.objs.size) {s with heap:=h' }) :
  wpAny (model prog w) A (call (.type "list") [.ref z]) Q E s:=by
 have lt:∀b∈z::I::O::Zi.ofs js,b<s.heap.objs.size:=λb hb=>by
  obtain⟨f,b0,_,hz⟩:=st.hz;obtain⟨os,_,hO⟩:=st.hO;rcases XW.mp hb with rfl|hb
  . exact X2 hz
  rcases XW.mp hb with rfl|hb
  . exact X2 st.hI
  rcases XW.mp hb with rfl|hb
  . exact X2 hO
  . obtain⟨p,hp,rfl⟩:=XY.mp hb;obtain⟨o,e,_⟩:=(st.at' p hp).obj;exact X2 e
 have slt:∀p∈js,p.2.2<s.heap.objs.size:=λp hp=>by obtain⟨o,e,_⟩:=(src p hp).obj;exact X2 e
 refine callType_codes (Q₁:=λobj s₁=>obj=.ref s.heap.objs.size/\s₁={s with heap:=s.heap.push {cls:=.type "list",data:=.seq #[] } }) F.called_list (F.typeCall_list_1 _) F.entry_list_init (code_list_new _ ⟨rfl,rfl⟩) λobj s₁ h₁=>?_;obtain⟨rfl,rfl⟩:=h₁;have hS:(s.heap.push {cls:=.type "list",data:=.seq #[] }).get? s.heap.objs.size=some {cls:=.type "list",data:=.seq #[] }:=X5 _ rfl;refine⟨⟨_,hS,rfl⟩,F.args_list_init_2 _ _,?_⟩
 show wpAny _ A.in1.in1 (do let old <- Builtin.List.listItems (.ref s.heap.objs.size);Builtin.List.listUpdate (.ref s.heap.objs.size) (λ_=>#[]);letGo old.toList.reverse;Builtin.List.listExtendWith (.ref s.heap.objs.size) (.ref z) .none) _ _ {s with heap:=_}
 refine kS ?_;unfold Builtin.List.listItems;refine kS (Zc hS rfl (X3 ?_));show wpAny _ A.in1.in1 (updateSeq s.heap.objs.size (λ_=>#[]) >>= λ_=>letGo (#[]:Array Value).toList.reverse >>= λ_=>Builtin.List.listExtendWith (.ref s.heap.objs.size) (.ref z) .none) _ _ {s with heap:=_};refine kS (ZL hS rfl ?_);have hS2:=YX (Obj.mapSeq (λ_=>(#[]:Array Value))) hS rfl;have oth:∀ b o,b≠s.heap.objs.size->s.heap.get? b=some o->((s.heap.push {cls:=.type "list",data:=.seq #[] }).update s.heap.objs.size (Obj.mapSeq (λ_=>(#[]:Array Value)))).get? b=some o:=λb o hb e=>(Zu _ _ (YE hb)).trans (p4 _ e);refine kS (wpAny_letGo ?_);obtain⟨⟨f,b,hf,hz⟩,hI,⟨os,ol,hO⟩,at'⟩:=st;have ne:∀b∈z::I::O::Zi.ofs js,b≠s.heap.objs.size:=λb hb=>Yi (lt b hb);refine FG (A:=A.in1) D (λq=>absurd (lt _ q) (Y1 _)) (λp hp=>Yi (slt p hp)) h0 h1 h8 Y row hn hr he .none ⟨⟨f,b,hf,oth _ _ (ne _ x_) hz⟩,oth _ _ (ne _ x_) hI,⟨os,ol,oth _ _ (ne _ x_) hO⟩,λp hp=>(at' p hp).to λo e=>oth _ o (ne _ (by simp[fz hp])) e⟩ (λp hp=>(src p hp).to λo e=>oth _ o (Yi (slt p hp)) e) hS2 λh' acc' q1 q2 q3 q4=>?_;refine⟨rfl,hQ h' acc' q1 q2 q3 λc o hc e=>?_⟩;have hcl:c≠s.heap.objs.size:=Yi (X2 e);exact q4 c o (by simp only[XW,not_or]at hc ⊢;exact⟨hcl,hc⟩) (oth c o hcl e)
end
section
variable{K:W.Frag}{Pr H H':Hp}{σ:St}{ρ:Ev}
theorem aG.more(E:aG K Pr H σ ρ)(k:∀b u,H b=some u->H' b=some u):aG K Pr H' σ ρ :=
 ⟨λb u e=>k b u (E.sub b u e),E.nd,E.off,Paired.impMem E.sl λl hl s q=>q.pres (λb u _ e=>k b u e) l λa e=>by
  obtain⟨vs,e,_⟩:=E.at_own (ik.mpr ⟨l,hl,e⟩)
  rw[k _ _ e,e]⟩
theorem aG.own_more(E:aG K Pr H σ ρ)(k:∀b u,H b=some u->H' b=some u){p:Addr}{vs:List V}{xs:List D}(h:H p=none)(h':H' p=some (.lst vs))(r:bV K H' vs xs):aG K Pr H' (some (.ref p)::σ) (.own p xs::ρ):=by
 have E':=E.more k;refine⟨E'.sub,?_,λa ha=>?_,.cons ⟨rfl,vs,h',r⟩ E'.sl⟩
 . rw[aW];refine Yr.mpr ⟨λhm=>?_,E.nd⟩;obtain⟨us,e,_⟩:=E.at_own hm;rw[h]at e;cases e
 .
  rw[aW]at ha;rcases XW.mp ha with rfl|ha
  .
   cases q:Pr a with
   |none=>rfl
   |some u=>rw[E.sub a u q]at h;cases h
  . exact E.off a ha
end
open Classical in
noncomputable def laidT(H:Hp)(m:Nat)(S n:Nat)(T:Nat->Addr)(vs:List V)(row:Nat->List V):Hp:=λb =>
 if b<m then H b else if b=S then some (.lst vs)else if h:∃k,k<n/\T k=b then some (.tup (row (Classical.choose h)))else none
section
variable{X:Cx}{ab:List (Addr×Obj)}{σ:St}{H:Hp}{s:Shared}
open Classical in
theorem yP{m S n:Nat}{T:Nat->Addr}{vs:List V}{row:Nat->List V}{us:Nat->List Value}{h':Heap}(hT:∀k,k<n->m<=T k/\T k≠S/\dh h' (T k) (us k))(hv:∀k,k<n->cw (row k) (us k)){k:Nat}(hk:k<n):laidT H m S n T vs row (T k)=some (.tup (row k)):=by
 obtain⟨h1,h2,h3⟩:=hT k hk;have ex:∃j,j<n/\T j=T k:=⟨k,hk,rfl⟩;unfold laidT;rw[if_neg (Nat.not_lt.mpr h1),if_neg h2,dif_pos ex];obtain⟨c1,c2⟩:=Classical.choose_spec ex;have h4:=(hT _ c1).2.2;rw[c2]at h4;have e:us (Classical.choose ex)=us k:=by have:=h4.symm.trans h3;simp only[Yo,Obj.mk.injEq,Data.seq.injEq,true_and,and_true]at this;exact List.toArray_inj this
 have v1:=hv _ c1;rw[e]at v1;rw[v1.inj (hv k hk)]
open Classical in
theorem Tp.laidT{h':Heap}{S n:Nat}{T:Nat->Addr}{vs:List V}{us:List Value}{row:Nat->List V}{ur:Nat->List Value}{c:Nat}(I:Tp X ab σ H s)(k:∀ b u,s.heap.get? b=some u->h'.get? b=some u)(hS:s.heap.objs.size<=S) (hl:h'.get? S=some {cls:=.type "list",data:=.seq us.toArray c}) (hz:vs.length<=sizeLine) (hv:cw vs us)
  (hT:∀k,k<n->s.heap.objs.size<=T k/\T k≠S/\dh h' (T k) (ur k)) (hr:∀k,k<n->cw (row k) (ur k)) (h8:∀k,k<n->(row k).length<=sizeLine):Tp X ab σ (L2.laidT H s.heap.objs.size S n T vs row) {s with heap:=h' }:=by
 have old:∀b u,H b=some u->L2.laidT H s.heap.objs.size S n T vs row b=some u:=λb u e=>by unfold L2.laidT;rw[if_pos (I.hok.lt e)];exact e
 have hSa:L2.laidT H s.heap.objs.size S n T vs row S=some (.lst vs):=by unfold L2.laidT;rw[if_neg (Nat.not_lt.mpr hS),if_pos rfl]
 refine I.un (t':=s.toks) ⟨λb o e _ _ _=>k b o e,λb o e _ _ _=>⟨o.slots,k b o e⟩,λb o e hn _=>?_,λb o e _=>⟨o,k b o e⟩,λb xs e=>old b _ e,λb o u e=>old b _ e,λb ps e=>old b _ e⟩ λb u e=>?_
 . unfold L2.laidT;rw[if_pos (X2 e)];exact hn
 .
  by_cases hb:b<s.heap.objs.size
  .
   have e':H b=some u:=by unfold L2.laidT at e;rw[if_pos hb]at e;exact e
   exact(I.hok b u e').stay (λc v _ q=>k c v q) (λc q=>old c _ q) (λc xs q=>old c _ q) λc ob _ _ q=>old c _ q
  .
   by_cases hbS:b=S
   . subst hbS;rw[hSa]at e;cases e;exact⟨hz,us,c,hv,hl⟩
   .
    have e0:=e;unfold L2.laidT at e0;rw[if_neg hb,if_neg hbS]at e0;split at e0
    . rename_i ex;obtain⟨c1,c2⟩:=Classical.choose_spec ex;have e3:=yP (H:=H) (vs:=vs) hT hr c1;rw[c2]at e3;rw[e3]at e;cases e;obtain⟨_,_,q3⟩:=hT _ c1;rw[c2]at q3;exact⟨h8 _ c1,_,hr _ c1,⟨_,q3,rfl,_,rfl⟩⟩
    . cases e0
end
theorem Mw{z I O:Addr}{js:List Zi}{i:Nat}{h:Heap}(st:U6 z I O js .none i h):Vf z I O js i h:=⟨⟨.none,false,.inl rfl,st.hz⟩,st.hI,st.hO,st.at'⟩
def IS(t:W (List L)):W L:=λρ kz=>t ρ λls ρ1=>match ls with
 |[.d d,.d d2]=>KM d d2 λzs=>zs.length<=sizeLine/\∀a,kz (.own a zs) ρ1
 |_=>False
section
variable{X:Cx}{a b:Expr}{pos p pos0 p0:Pos}
theorem Mx{xs ys:List Value}{m j:Nat}{k1 k2:Sk}{i1 i2 a1 a2:Addr}{Y:Zi->Array Value}{q:Zi}{x:Value}(h1:m<xs.length)(h2:m<ys.length)(e1:Y (k1,i1,a1)=xs.toArray)(e2:Y (k2,i2,a2)=ys.toArray)(hq:[(k1,i1,a1),(k2,i2,a2)][j]?=some q)(hx:[xs[m],ys[m]][j]?=some x):(Y q)[m]?=some x:=by
 match j with
 | 0 =>
  simp only[List.getElem?_cons_zero,Yo]at hq hx;subst hq hx;rw[e1];simp[h1]
 | 1 =>
  simp only[ZF,List.getElem?_cons_zero,Yo]at hq hx;subst hq hx;rw[e2];simp[h2]
 |j+2=>simp at hq
theorem vo{bs:List (Option Nat)}{t:W (List L)} (hgl:Gl X "list") (hml:X.mg "list"=none) (hg:Gl X "zip") (hm:X.mg "zip"=none) (hc:X.calm=true) (ha:Uu X [a,b] bs t) (hs:autoParam (starEach [a,b] X.env=(false,eval a X.env)::starEach [b] X.env) acE) (hs2:autoParam ((backTo pos (starEach [b] X.env)).any (·.1)=false) acE)
  (hs0:autoParam (starEach [.Call (.Name "zip" p) [a,b] [] pos] X.env=[(false,eval (.Call (.Name "zip" p) [a,b] [] pos) X.env)]) acE) :
  PL X (.Call (.Name "list" p0) [.Call (.Name "zip" p) [a,b] [] pos] [] pos0) (IS t):=by
 intro ab s σ H Pr ρ kz I E h;refine ZQ (fk I hgl hml (show bootBuiltins "list"=some (.type "list") by decide +kernel) (Yp ?_ (by rw[hs0]; rfl) rfl));rw[hs0];show wpAny _ _ (spliced ((false,eval (.Call (.Name "zip" p) [a,b] [] pos) X.env)::[])) _ _ s;refine ZP (Call_ (fk I hg hm boot_zip (Yp (Tu (ha pos ab s σ H Pr ρ _ I E h) λus s1 jqz=>?_) hs hs2)));obtain⟨vs,H1,ls,ρ1,I1,r1,hl,hb,E1,_,q1⟩:=jqz
 have⟨d,d2,e0,q1⟩:∃d d2,ls=[.d d,.d d2]/\KM d d2 λzs=>zs.length<=sizeLine/\∀a,kz (.own a zs) ρ1:=by
  rcases ls with _|⟨l,_|⟨l2,_|⟨l3,ls⟩⟩⟩
  . exact q1.elim
  . cases l<;>exact q1.elim
  .
   cases l with
    | d d =>
     cases l2 with
     |d d2=>exact⟨d,d2,rfl,q1⟩
     |_=>exact q1.elim
    |_=>exact q1.elim
  .
   cases l with
    |d d=>cases l2<;>exact q1.elim
    |_=>exact q1.elim
 subst e0
 .
  obtain⟨k1,xs,ed,q2⟩:=wj q1;obtain⟨k2,ys,ed2,q3,q4⟩:=wj q2;subst ed ed2;clear q1 q2;obtain⟨v,v2,rfl⟩:=Rb (show vs.length=2 by simpa using hl)
  .
   have E1':aG X.K Pr H1 (some v::some v2::σ) (.d (k1.mk xs)::.d (k2.mk ys)::ρ1):=E1;obtain⟨_,e1,p1⟩:=E1'.head_d;cases e1;obtain⟨_,e1,p2⟩:=E1'.tail.head_d;cases e1;obtain⟨a1,vs1,rfl,f1,rs1⟩:=Sk.rep p1;obtain⟨a2,vs2,rfl,f2,rs2⟩:=Sk.rep p2;obtain⟨u1,u2,rfl,ru,ru2⟩:=r1.two;cases ru;cases ru2;obtain⟨its,rv,sq1⟩:=I1.sqk (Vd.pres (λ_ _ _ e=>e) f1);obtain⟨its2,rv2,sq2⟩:=I1.sqk (Vd.pres (λ_ _ _ e=>e) f2);have E2:aG X.K Pr H1 σ ρ1:=E1'.tail.tail;refine vn sq1 sq2 λh' st hk=>aah ?_;have lt1:a1<s1.heap.objs.size:=by obtain⟨o,e,_⟩:=sq1.obj;exact X2 e
   have lt2:a2<s1.heap.objs.size:=by obtain⟨o,e,_⟩:=sq2.obj;exact X2 e
   have D:ZA (s1.heap.objs.size+4) (s1.heap.objs.size+2) (s1.heap.objs.size+3) [(k1,s1.heap.objs.size,a1),(k2,s1.heap.objs.size+1,a2)]:=by
    refine⟨by simp[Zi.ofs],λq hq=>?_⟩;simp only[XW,YD,ZU]at hq;rcases hq with rfl|rfl
    . simp only[Zi.ofs,X7,Zv,XW,YD,ZU,not_or];refine⟨Yi (ZD _ lt1),Yi (ZD _ lt1),Yi lt1,Yi (ZD _ lt1)⟩
    . simp only[Zi.ofs,X7,Zv,XW,YD,ZU,not_or];refine⟨Yi (ZD _ lt2),Yi (ZD _ lt2),Yi lt2,Yi (ZD _ lt2)⟩
   have l1:=rv.length;have l2:=rv2.length;have m1:=rs1.length;have m2:=rs2.length
   have hsrc:∀q∈[(k1,s1.heap.objs.size,a1),(k2,s1.heap.objs.size+1,a2)],∃ys,q.1.Sq h' q.2.2 ys/\((q=(k1,s1.heap.objs.size,a1)->ys=its.toArray)/\(q=(k2,s1.heap.objs.size+1,a2)->ys=its2.toArray)):=λq hq=>by
    simp only[XW,YD,ZU]at hq;rcases hq with rfl|rfl
    . exact⟨_,sq1.to λo e=>hk _ o e,λ_=>rfl,λz=>by simp at z⟩
    . exact⟨_,sq2.to λo e=>hk _ o e,λz=>by simp at z,λ_=>rfl⟩
   obtain⟨Y,hY⟩:=jB hsrc;have y1:=(hY (k1,s1.heap.objs.size,a1) x_).2.1 rfl;have y2:=(hY (k2,s1.heap.objs.size+1,a2) x_).2.2 rfl;have zl:(o5 xs ys).length=min its.length its2.length:=by simp[o5];omega
   have sz':s1.heap.objs.size+5<=h'.objs.size:=Nat.succ_le_of_lt (X2 st.hz);refine wm (s:={s1 with heap:=h' }) D (I1.ok.hd hc) x_ x_ Y (λm=>[its.getD m .none,its2.getD m .none]) (n:=min its.length its2.length) (by rw[<- zl];exact q3) (λm hm=>⟨rfl,λj q x hq hx=>?_⟩) ?_ (Mw st) (λq hq=>(hY q hq).1) λh2 acc hl2 hsz hT hk2=>?_
   .
    have g1:m<its.length:=by omega
    have g2:m<its2.length:=by omega
    refine Mx g1 g2 y1 y2 hq ?_;rw[k4,k4,gV g1,gV g2]at hx;exact hx
   .
    rcases Nat.le_total its.length its2.length with g|g
    . exact⟨_,XU,by rw[y1,aaa g];simp⟩
    . exact⟨_,p3 _ XU,by rw[y2,Nat.min_eq_right g];simp⟩
   obtain⟨c,hl2⟩:=hl2;obtain⟨T,hT⟩:=jB (l:=List.range (min its.length its2.length)) (P:=λm (T:Addr)=>acc[m]?=some (.ref T)/\dh h2 T [its.getD m .none,its2.getD m .none]/\h'.objs.size<T) λm hm=>hT m (Yb.mp hm)
   have kp:∀b u,s1.heap.get? b=some u->h2.get? b=some u:=λb u e=>hk2 b u (by
    have lb:b<s1.heap.objs.size:=X2 e;simp only[Zi.ofs,X7,Zv,XW,YD,ZU,not_or]
    exact⟨Yi (ZD _ lb),Yi (ZD _ lb),Yi lb,Yi (ZD _ lb)⟩) (hk b u e)
   have hT':∀m,m<min its.length its2.length->acc[m]?=some (.ref (T m))/\dh h2 (T m) [its.getD m .none,its2.getD m .none]/\h'.objs.size<T m:=λm hm=>hT m (Yb.mpr hm)
   have ea:acc=((List.range (min its.length its2.length)).map λm=>Value.ref (T m)).toArray:=by
    refine Array.ext (by simp[hsz]) λm g1 g2=>?_;have g:m<min its.length its2.length:=by rw[<- hsz];exact g1
    have:=(hT' m g).1;rw[Array.getElem?_eq_getElem g1]at this;simpa using this
   subst ea
   have gr:∀m,m<min its.length its2.length->cw [vs1.getD m .non,vs2.getD m .non] [its.getD m .none,its2.getD m .none]:=λm hm=>by
    have g1:m<vs1.length:=by omega
    have g2:m<vs2.length:=by omega
    obtain⟨u1,e1,r1⟩:=rv.get (gV g1);obtain⟨u2,e2,r2⟩:=rv2.get (gV g2);rw[k4,k4,k4,k4,e1,e2,gV g1,gV g2];exact .cons r1 (.cons r2 .nil)
   have tt:∀m,m<min its.length its2.length->s1.heap.objs.size<=T m/\T m≠h'.objs.size/\dh h2 (T m) [its.getD m .none,its2.getD m .none]:=λm hm=>⟨X0 (X0 (Y2 _ 5) sz') (Za (hT' m hm).2.2),aat (hT' m hm).2.2,(hT' m hm).2.1⟩;have I2:=I1.laidT (vs:=(List.range (min its.length its2.length)).map λm=>V.ref (T m)) (row:=λm=>[vs1.getD m .non,vs2.getD m .non]) kp (X0 (Y2 _ 5) sz') hl2 (by rw[tv,X6,<- zl];exact q3) (o8 λm _=>rfl) tt gr (λm _=>(by show 2<=sizeLine;decide));have old:∀b u,H1 b=some u->L2.laidT H1 s1.heap.objs.size h'.objs.size (min its.length its2.length) T ((List.range (min its.length its2.length)).map λm=>V.ref (T m)) (λm=>[vs1.getD m .non,vs2.getD m .non]) b=some u:=λb u e=>by unfold L2.laidT;rw[if_pos (I1.hok.lt e)];exact e
   refine⟨.ref h'.objs.size,_,_,ρ1,I2,rfl,E2.own_more (vs:=(List.range (min its.length its2.length)).map λm=>V.ref (T m)) old (I1.hok.fresh (X0 (Y2 _ 5) sz')) ?_ ?_,q4 _⟩
   . unfold L2.laidT;rw[if_neg (Nat.not_lt.mpr (X0 (Y2 _ 5) sz')),if_pos rfl]
   .
    rw[<- rZ];have en:min xs.length ys.length=min its.length its2.length:=by omega
    rw[en];refine wg λm hm=>?_;have hm:=Yb.mp hm;have g1:m<xs.length:=by omega
    have g2:m<ys.length:=by omega
    refine .tup (TB.of (yP tt gr hm)) ?_;obtain⟨w1,e1,r1⟩:=rs1.get (gV g1);obtain⟨w2,e2,r2⟩:=rs2.get (gV g2);rw[k4,k4,k4,k4,e1,e2,gV g1,gV g2];exact .cons (r1.pres λb u _ e=>old b u e) (.cons (r2.pres λb u _ e=>old b u e) .nil)
end
noncomputable def Vh(K:W.Frag)(a:Addr)(xs:List V):It :=
 ⟨λi H=>Tz K H a xs/\i<xs.length,λi H v H'=>H'=H/\xs[xs.length-1-i]?=some v,λi H=>Tz K H a xs/\i=xs.length⟩
theorem IT{P:Program}{w:World}{K:W.Frag}{tg:Expr}(a j:Addr)(xs:List V):HG P w K tg (Vh K a xs) [j] j (λi h=>h.IsRevIter j a ((xs.length:Int)-1-i)) where
 mem:=by simp
 obj:=λi h st b hb=>by
  have e:b=j:=by simpa using hb
  subst e;obtain⟨o,e,c,d⟩:=st;exact⟨o,e,λv z=>by rw[d]at z;cases z⟩
 keep:=λi h h' st k=>st.at λo e=>k j x_ o e
 item:=by
  intro X hP hw hK hc i ab s σ H E I hf st hg;subst hP hw hK;obtain⟨hq,hi⟩:=hg;obtain⟨its,rv,p,hz⟩:=I.list hq;have hx:xs[xs.length-1-i]?=some (xs[xs.length-1-i]'(by omega)):=gV _;obtain⟨u,hu,ru⟩:=rv.get hx;obtain⟨f0,f1,f2,f3,f4,f5⟩:=hf j x_;have ei:(xs.length:Int)-1-i=((xs.length-1-i:Nat):Int):=by omega
  rw[ei]at st;refine wpAny_pyNext_rev_item st p.isList (x:=u) (by simpa using hu) λh' st' sb=>?_;have I1:Tp X ab σ H {s with heap:=h' }:=I.turned (t':=s.toks) (λb o hb e=>(sb.2 b hb).trans e) f0 f1 f3 f4 f5;obtain⟨o,e,c,d⟩:=id st';have ei2:((xs.length-1-i:Nat):Int)-1=(xs.length:Int)-1-((i+1:Nat):Int):=by omega
  rw[ei2]at st';exact⟨u,rfl,Ee (s:={s with heap:=h' }) e c d xp ⟨_,H,I1,ru,⟨rfl,hx⟩,st',λb hb=>(hf b hb).1⟩⟩
 done:=by
  intro X hP hw hK hc i ab s σ H E I hf st hg;subst hP hw hK;obtain⟨hq,hi⟩:=hg;obtain⟨f0,f1,f2,f3,f4,f5⟩:=hf j x_;have ei:(xs.length:Int)-1-i=-1:=by omega
  rw[ei]at st;exact wpAny_pyNext_rev_end (I.ok.hd hc) st λh' eb=>⟨rfl,I.turned (t':=s.toks) (λb o hb e=>eb b o hb e) f0 f1 f3 f4 f5⟩
 self:=λ_ _ _ _ _ st h=>wpAny_pyIter_revIter st h
theorem FH{K:W.Frag}{H:Hp}{a:Addr}{vs:List V}{xs:List D}(h:Ur K H a vs)(r:bV K H vs xs):vX K H (Vh K a vs) xs.reverse:=λH' p=>by
 have h':=(h.pres p).l;refine⟨λi x e=>?_,h',by rw[aan,r.length]⟩;have hi:i<xs.length:=by simpa using(tu.mp e).1
 rw[List.getElem?_reverse hi]at e;obtain⟨v,ev,rv⟩:=r.get e;refine⟨⟨h',by rw[r.length];exact hi⟩,λw H2 jqz=>?_⟩;obtain⟨e1,e2⟩:=jqz;subst e1;rw[r.length,ev]at e2;cases e2;exact⟨.inl rfl,rv.pres p⟩
def Mz(t:W L):W (List D):=λρ kz=>t ρ λr ρ1=>Uy r λd=>match d with
 |.lst xs=>kz xs.reverse ρ1
 |_=>False
section
variable{X:Cx}{a tg:Expr}{pos p:Pos}
theorem MA{t:W L} (hg:Gl X "reversed") (hm:X.mg "reversed"=none) (ha:PL X a t) (hs:autoParam (starEach [a] X.env=[(false,eval a X.env)]) acE):UJ X tg (.Call (.Name "reversed" p) [a] [] pos) (Mz t):=by
 intro ab s σ H Pr ρ kz I E h;refine Call_ (fk I hg hm (show bootBuiltins "reversed"=some (.type "reversed") by decide +kernel) (Yp ?_ (by rw[hs]; rfl) rfl));rw[hs];show wpAny _ _ (spliced ((false,eval a X.env)::[])) _ _ s;refine ZP (Tu (ha ab s σ H Pr ρ _ I E h) λv s1 q=>aah ?_)
 obtain⟨w,H1,d,ρ1,I1,r1,E1,q1⟩:=EL.frz (kz:=λd ρ1=>match d with
  |.lst xs=>kz xs.reverse ρ1
  |_=>False) q
 obtain⟨_,e1,p1⟩:=E1.head_d;cases e1
 cases p1 with
 | @lst _ vs0 _ hz rs =>
  cases r1;obtain⟨its,rv,pl,_⟩:=I1.list hz.l;have el:its.toArray.size=vs0.length:=by simp;exact rv.length.symm
  refine call_reversed_list pl.isList ?_;rw[el];refine wpAny_pyIter_revIter (s:={s1 with heap:=_}) ⟨_,X5 _ rfl,rfl,rfl⟩ ?_;refine⟨s1.heap.objs.size,[s1.heap.objs.size],_,_,H1,_,ρ1,rfl,I1.kept (t':=s1.toks) (λb o e=>p4 _ e),IT _ _ _,⟨_,X5 _ rfl,rfl,?_⟩,λb hb=>?_,E1.tail,FH hz rs,q1⟩
  . rw[show((vs0.length:Int)-1-((0:Nat):Int))=(vs0.length:Int)-1 by omega];rfl
  .
   have e:b=s1.heap.objs.size:=by simpa using hb
   subst e;exact I1.fpOk (XZ _) (I1.hok.fresh (XZ _))
 |_=>exact q1.elim
end
end L2
namespace L2
open PySem PySem.Spec PyProof.Rows
end L2
namespace L2
open PySem PySem.Spec PyProof.Rows PySem.W
section
structure Vi (h:Heap) (e:Addr) (cls:Value) (dx T:Option Addr):Prop where
 ex:∃vs sl,h.get? e=some ⟨cls,dx,.fields vs,sl⟩/\1<vs.size/\(match T with
  |none=>vs[1]?=some .none
  |some t=>vs[1]?=some (.ref t)/\t≠e/\∃ot ts,h.get? t=some ot/\ot.data=.fields ts/\ts[3]?=some .none)
end
noncomputable def Vj(H:Hp)(e:Addr):Hp:=λb=>if b=e then none else H b
theorem p8{H:Hp}{e b:Addr}(h:b≠e):Vj H e b=H b:=by unfold Vj;rw[if_neg h]
theorem Cd{H:Hp}{e:Addr}:Vj H e e=none:=by unfold Vj;rw[if_pos rfl]
theorem Vi.at{h h':Heap}{e:Addr}{cls:Value}{dx:Option Addr}(f:Vi h e cls dx none)(k:∀o,h.get? e=some o->h'.get? e=some o):Vi h' e cls dx none:=by obtain⟨vs,sl,he,hz,h1⟩:=f;exact⟨vs,sl,k _ he,hz,h1⟩
noncomputable def XO(e:Addr)(cls:Value)(dx:Option Addr):HO:=.ext λh=>Vi h e cls dx none
noncomputable def XD(d:Addr)(fs:List (Str×V)):HO:=.ext λh=>∃mA,h.Ns1 d mA/\(∀f,Qv (fs.lookup f) (mA f))/\PySem.Within mA (fs.map (·.1))
theorem XO.ok{P:Program}{w:World}{H:Hp}{h:Heap}{e:Addr}{cls:Value}{dx:Option Addr}(f:Vi h e cls dx none):fj P w H h e (XO e cls dx):=by obtain⟨vs,sl,he,hz,h1⟩:=f;exact⟨⟨vs,sl,he,hz,h1⟩,⟨_,he⟩,λh1 h2 p k=>p.at k⟩
theorem XD.ok{P:Program}{w:World}{H:Hp}{h:Heap}{d:Addr}{fs:List (Str×V)}{mA:Str->Option Value}(n:h.Ns1 d mA)(r:∀f,Qv (fs.lookup f) (mA f))(wi:PySem.Within mA (fs.map (·.1))):fj P w H h d (XD d fs) :=
 ⟨⟨mA,n,r,wi⟩,let ⟨o,_,_,e,_⟩:=n;⟨o,e⟩,λh1 h2 ⟨mA,n,r⟩ k=>⟨mA,n.at k,r⟩⟩
structure Xc where
 c:Str
 ns:List Str
 ds:List D
def Rh(K:Frag)(H:Hp)(cls:Value)(dx:Option Addr)(x:Xc):Prop:=∃C vs,cls=.ref C/\vb K x.c C=true/\(∀f∈x.ns,findIn K (.ref C) f=some none)/\XF H dx x.ns vs/\bV K H vs x.ds
theorem Rh.ext{K:Frag}{H H':Hp}{cls:Value}{dx:Option Addr}{x:Xc}(f:Rh K H cls dx x)(h:∀b o,H b=some o->H' b=some o):Rh K H' cls dx x:=by obtain⟨C,vs,e,s,fq,a,r⟩:=f;exact⟨C,vs,e,s,fq,a.pres λb o _ q=>h b o q,r.pres λb o _ q=>h b o q⟩
section
variable{H:Hp}
theorem Tf.there{P:Program}{w:World}{H:Hp}{h:Heap}(x:Tf P w H h){b:Addr}{o:HO}(e:H b=some o):∃u,h.get? b=some u:=by
 have lt:=x.lt e
 cases o with
 |lst xs=>obtain⟨_,_,_,_,e⟩:=x b _ e;exact⟨_,e⟩
 |tup xs=>obtain⟨_,_,_,o,e,_⟩:=x b _ e;exact⟨_,e⟩
 |dK kvs=>obtain⟨_,_,_,_,o,_,_,e,_⟩:=x b _ e;exact⟨_,e⟩
 |dT kvs=>obtain⟨_,_,_,_,o,_,_,e,_⟩:=x b _ e;exact⟨_,e⟩
 |set S n=>obtain⟨o,_,_,_,e,_⟩:=x b _ e;exact⟨_,e⟩
 |ins C dx fs=>obtain⟨_,_,_,e,_⟩:=x b _ e;exact⟨_,e⟩
 |own y=>obtain⟨_,e⟩:=x b _ e;exact⟨_,e⟩
 |xd fs=>obtain⟨_,⟨_,_,_,e,_⟩,_⟩:=x b _ e;exact⟨_,e⟩
 |rng lo hi=>obtain⟨_,_,_,e⟩:=x b _ e;exact⟨_,e⟩
 |frz ob u=>obtain⟨e,_⟩:=x b _ e;exact⟨_,e⟩
 |tbl t=>obtain⟨_,e,_⟩:=x b _ e;exact⟨_,e⟩
 |met f y=>exact⟨_,(show h.get? b=some _ from x b _ e)⟩
 |ext φ=>obtain⟨_,⟨_,e⟩,_⟩:=x b _ e;exact⟨_,e⟩
end
abbrev Vk:=List D->(L->Prop)->(Xc->Prop)->Prop
theorem aG.ds{K:Frag}{H:Hp}:∀{vs:List V}{ds:List D},bV K H vs ds->Paired (bZ K H) (vs.map some) (ds.map .d)
 |_,_,.nil=>.nil
 |_,_,.cons h t=>.cons ⟨_,rfl,h⟩ (aG.ds t)
end L2
namespace L2
open PySem PySem.Spec PyProof.Rows
section
variable{prog:Program}{w:World}{A:Around}{E:Value->Shared->Prop}{s:Shared}
theorem Dn{l:Addr}{o:Obj}{vs:List Value}{n:Nat}{Q:List Value->Shared->Prop}(ho:s.heap.get? l=some o) (hc:o.cls=.type "tuple") (hd:o.data=.seq vs.toArray n) (hz:vs.length<=sizeLine)
  (h:Q vs {s with heap:=(s.heap.push (seqObj "list" #[] 0)).update s.heap.objs.size (Obj.mapSeq (·++vs.toArray)) }):wpAny (model prog w) A (collect (.ref l)) Q E s:=by
 unfold collect;refine kS (wpAny_runValue (codeAny_builtin entry_proto_collect' ?_));refine kS (wpAny_newList (X3 ⟨Code.quiet_builtin _ y_,codeAny_builtin entry_list_iadd' (show wpAny _ _ (Builtin.List.listExtendWith (.ref s.heap.objs.size) (.ref l) (.ref s.heap.objs.size)) _ _ {s with heap:=s.heap.push (seqObj "list" #[] 0) }from ?_)⟩));have h1:(s.heap.push (seqObj "list" #[] 0)).get? l=some o:=p4 _ ho;have h2:(s.heap.push (seqObj "list" #[] 0)).get? s.heap.objs.size=some (seqObj "list" #[] 0):=X5 _ rfl;have tt:(Value.type "tuple" == Value.type "tuple")=true:=rfl;unfold Builtin.List.listExtendWith;refine kS (wpAny_typeOf (T:="tuple") ⟨o,h1,hc⟩ ?_);rw[if_pos (by rw[tt,Bool.or_true])];refine kS (listItems_at h1 hd (kS (listItems_at (xs:=#[]) (n:=0) h2 rfl ?_)));rw[if_neg (by simp)];refine kS (listUpdate_at (xs:=#[]) (n:=0) h2 rfl (X3 ?_) (YO _) (by show(#[]++vs.toArray).size<=sizeLine+1;simp;omega));refine kS (wpAny_load (get?_update_seq h2 _) ?_);show wpAny _ _ (pure ((#[]:Array Value)++vs.toArray).toList) Q E _;have e:((#[]:Array Value)++vs.toArray).toList=vs:=by simp
 rw[e];exact X3 h
theorem Do{l:Addr}{o:Obj}{vs:List Value}{n:Nat}{ns:List Int}{Q:Value->Shared->Prop}(ho:s.heap.get? l=some o) (hc:o.cls=.type "tuple") (hd:o.data=.seq vs.toArray n) (hI:IntsAre vs ns) (h64:vs.length < 64)
  (h:∀(out:Array Value)(ms:List Int),IntsAre out.toList ms->ms.Perm ns->ms.Pairwise (·<=·)->Q (.ref (s.heap.objs.size+1)) {s with heap:=sortedAll s.heap vs out}):wpAny (model prog w) A (call (.builtin "sorted") [.ref l]) Q E s:=by
 refine Calls.call_function_entry kind_sorted plain_sorted entry_sorted (args_sorted1 _) (show wpAny _ _ (Builtin.«sorted» _) _ _ _ from ?_);unfold Builtin.«sorted»;refine kS (m:=checkCount "sorted" 1 1 _) (X3 (kS (Dn ho hc hd (X0 (Za h64) xp) (kS (wpAny_newList ?_)))));have z:((s.heap.push (seqObj "list" #[] 0)).update s.heap.objs.size (Obj.mapSeq (·++vs.toArray))).objs.size=s.heap.objs.size+1:=by rw[Heap.size_update,size_push']
 have g:(((s.heap.push (seqObj "list" #[] 0)).update s.heap.objs.size (Obj.mapSeq (·++vs.toArray))).push (seqObj "list" vs.toArray 0)).get? (s.heap.objs.size+1)=some (seqObj "list" vs.toArray 0):=by rw[<- z];exact X5 _ rfl
 show wpAny _ _ _ _ _ {s with heap:=((s.heap.push (seqObj "list" #[] 0)).update s.heap.objs.size (Obj.mapSeq (·++vs.toArray))).push (seqObj "list" vs.toArray 0) };rw[z];exact kS (Zm (Zt slot_list_sort ⟨_,g,rfl⟩ entry_list_sort (list_sort_tree g hI h64 λout ms a1 a2 a3=>⟨_,rfl,X3 ⟨_,rfl,h out ms a1 a2 a3⟩⟩) (args_list_sort _)))
end
section
variable{X:Cx}
theorem r6:g8 X (.builtin "sorted") (λxs H Q=>∃(p:Addr)(ns:List Int),xs=[.ref p]/\TB X.K H p (ns.map V.int)/\ns.length < 64/\∀ l,H l=none->Q (.ref l) (Te H l (.lst ((W.sortI ns).map V.int)))):=by
 rintro ab s σ H xs us Q I r ⟨p,ns,rfl,hq,h64,q⟩;obtain⟨u,rfl,rx⟩:=rn r;cases rx;obtain⟨its,r',⟨o,ho,hc,n,hd⟩,hz⟩:=I.tuple hq;have hl:its.length=ns.length:=by have:=r'.length;simpa using this.symm
 refine Do ho hc hd (qY r') xL λout ms a1 a2 a3=>?_;have e:=W.eq_sortI a2 a3;subst e;obtain⟨k1,c,k2⟩:=rS (h:=s.heap) (vs:=its) (out:=out);refine⟨.ref (s.heap.objs.size+1),_,I.laid (t':=s.toks) k1 (aas _) (show fj X.prog X.w _ _ _ (.lst ((W.sortI ns).map V.int))from⟨?_,out.toList,c,AF a1,by simpa using k2⟩),rfl,q _ (I.hok.fresh (aas _))⟩;rw[tv,(W.sortI_perm ns).length_eq];exact X0 (Za h64) xp
def AI:UM:=λds k=>∃ns:List Int,ds=[.tup (ns.map D.int)]/\ns.length<64/\∀a,k (.own a ((W.sortI ns).map D.int))
theorem Ce:eB X (.builtin "sorted") AI:=eB.of r6 λσ H Pr ρ vs ds kz E ps ⟨ns,e,h64,h⟩=>by subst e;obtain⟨v,rfl,r⟩:=oY ps;obtain⟨_,_,rfl,hz,rs⟩:=Us.inv_tup r;have:=fZ rs;subst this;exact⟨_,ns,rfl,hz,h64,λl hl=>⟨_,E.cons_own hl (nu _),h l⟩⟩
end
section
variable{κ:Type}[DecidableEq κ]
theorem KV.any{kvs:List (κ×V)}{vs:List (κ×Value)}(r:KV kvs vs)(k:κ):(kvs.any λkv=>decide (kv.1=k))=vs.any λkv=>decide (kv.1=k):=by
 unfold KV at r
 induction r with
 |nil=>rfl
 |cons h t ih=>rw[ZS,ZS,ih,h.1]
theorem KV.length{kvs:List (κ×V)}{vs:List (κ×Value)}(r:KV kvs vs):kvs.length=vs.length:=Paired.length r
end
abbrev DR(K:W.Frag)(H:Hp):List (Td×V)->List (Td×D)->Prop:=Paired λ(p:Td×V) (q:Td×D)=>p.1=q.1/\Us K H p.2 q.2
theorem DR.any{K:W.Frag}{H:Hp}{k:Td}:∀{vs:List (Td×V)}{kvs:List (Td×D)},DR K H vs kvs->(vs.any λp=>decide (p.1=k))=kvs.any λp=>decide (p.1=k)
 |_,_,.nil=>rfl
 |p::vs,q::kvs,.cons h t=>by rw[ZS,ZS,DR.any t,h.1]
theorem DR.pres{K:W.Frag}{H H':Hp}(p:yq H H'){vs:List (Td×V)}{kvs:List (Td×D)}(h:DR K H vs kvs):DR K H' vs kvs:=Paired.mapP h λ_ _ z=>⟨z.1,z.2.pres p⟩
section
variable{X:Cx}
noncomputable def Pk:D->Bool
 |.int _=>true
 |.str _=>true
 |.bl _=>true
 |.non=>true
 |_=>false
inductive Vl (X:Cx):List (Option Expr)->List Expr->List (Td×D)->Prop where
 |nil:Vl X [] [] []
 |int {k v:Expr} {ks:List (Option Expr)} {vs:List Expr} {i:Int} {d:D} {kvs:List (Td×D)} (hk:PL X k (wC (.int i))) (hv:PL X v (wC d)) (hf:Pk d=true) (t:Vl X ks vs kvs):Vl X (some k::ks) (v::vs) ((.inl i,d)::kvs)
 |str {k v:Expr} {ks:List (Option Expr)} {vs:List Expr} {y:Str} {d:D} {kvs:List (Td×D)} (hk:PL X k (wC (.str y))) (hv:PL X v (wC d)) (hf:Pk d=true) (t:Vl X ks vs kvs):Vl X (some k::ks) (v::vs) ((.inr y,d)::kvs)
theorem Vl.len:∀{ks:List (Option Expr)}{vs:List Expr}{kvs:List (Td×D)},Vl X ks vs kvs->ks.all (·.isSome)=true/\ks.length=vs.length/\ks.length=kvs.length
 |_,_,_,.nil=>⟨rfl,rfl,rfl⟩
 | _,_,_,.int _ _ _ t=>by obtain⟨h1,h2,h3⟩:=t.len;simp[h1,h2,<- h3]
 | _,_,_,.str _ _ _ t=>by obtain⟨h1,h2,h3⟩:=t.len;simp[h1,h2,<- h3]
end
end L2
namespace L2
open PySem PySem.Spec PyProof.Rows PySem.SeqAt
mutual
noncomputable def Cf:Nat->D->Bool
 |_,.non=>true
 |_,.bl _=>true
 |_,.int _=>true
 |_,.str _=>true
 |n+1,.tup xs=>AJ n xs
 |n+1,.lst xs=>AJ n xs
 |n+1,.dct m=>m == 0
 |_,_=>false
noncomputable def AJ:Nat->List D->Bool
 |_,[]=>true
 |n,x::xs=>Cf n x && AJ n xs
end
mutual
noncomputable def Dp:D->Nat
 |.int _=>602
 |.str x=>10*x.length+2
 |.tup xs=>yQ xs+3
 |.lst xs=>yQ xs+3
 |_=>6
noncomputable def yQ:List D->Nat
 |[]=>0
 |x::xs=>Dp x+2+yQ xs
end
mutual
theorem FI:∀d:D,(UK d).leavesShort 601=true->(UK d).shown.length<=Dp d
 |.non,_=>by decide
 |.bl b,_=>by cases b<;>decide
 | .int i,h=>by
  have e:(PyData.shown (.int i)).length<=601:=by simpa only[UK,PyData.leavesShort,Zz]using h
  exact Nat.le_succ_of_le e
 | .str x,h=>by
  have hx:∀c∈x.cps.toList,c<16^8:=by simpa only[UK,PyData.leavesShort,List.all_eq_true,Zz]using h
  have e:=PySem.StrLaws.reprText_len x hx
  simp only[UK,PyData.shown,Dp]
  omega
 | .tup xs,h=>by
  have h1:=AK xs (by simpa only[UK,PyData.leavesShort]using h)
  have h2:=tupleText_len_le (PyData.shownAll (fg xs))
  have h3:=PyData.shownAll_length (fg xs)
  simp only[UK,PyData.shown,Dp]
  omega
 | .lst xs,h=>by
  have h1:=AK xs (by simpa only[UK,PyData.leavesShort]using h)
  have h2:=listText_len_le (PyData.shownAll (fg xs))
  have h3:=PyData.shownAll_length (fg xs)
  simp only[UK,PyData.shown,Dp]
  omega
 |.dct _,_=>by simp only[UK,Dp];decide
 |.exc _ _ _,_=>by simp only[UK,Dp];decide
 |.fn _ _,_=>by simp only[UK,Dp];decide
 |.dk _ _,_=>by simp only[UK,Dp];decide
 |.gf _,_=>by simp only[UK,Dp];decide
theorem AK:∀ds:List D,PyData.leavesShortAll 601 (fg ds)=true->((PyData.shownAll (fg ds)).map (·.length)).sum+2*(fg ds).length<=yQ ds
 |[],_=>by simp only[fg,PyData.shownAll,Zv,List.sum_nil,List.length_nil,yQ];omega
 | d::ds,h=>by
  have h':(UK d).leavesShort 601=true/\PyData.leavesShortAll 601 (fg ds)=true:=by simpa only[fg,PyData.leavesShortAll,YI]using h
  have h1:=FI d h'.1
  have h2:=AK ds h'.2
  simp only[fg,PyData.shownAll,X7,List.sum_cons,Y3,yQ]
  omega
end
structure Ri (d:D):Prop where
 ok:UW 40 d=true
 sh:gh d=true
 ln:(UK d).shown.length<=sizeLine
theorem B9.l{d:D}(h:B9 d):Ri d:=⟨h.ok,h.sh,h.len⟩
end L2
namespace L2
open PySem PySem.Spec PyProof.Rows
end L2
namespace L2
open PySem PySem.Spec PyProof.Rows PySem.W
theorem IU:typeLookup (.type "list_reverseiterator") "__len__"=pure none:=by rw[aaw,ZM]; kernel_rfl
theorem MB:typeLookup (.type "list_reverseiterator") "__length_hint__"=pure (some (.builtin "list_reverseiterator.__length_hint__")):=by rw[aaw,ZM]; kernel_rfl
section
variable{prog:Program}{w:World}{A:Around}{E:Value->Shared->Prop}{s:Shared}{r:Addr}
theorem MC{Q:Bool->Shared->Prop} (hT:s.TypeIs (.ref r) "list_reverseiterator") (h:Q false s):wpAny (model prog w) A (Builtin.List.listLengthHint (.ref r)) Q E s:=by
 unfold Builtin.List.listLengthHint;refine kS (wpAny_specialOf hT IU ?_);show wpAny _ A (specialOf (Value.ref r) (Str.ofString "__length_hint__") >>= _) _ _ _;refine kS (wpAny_specialOf hT MB ?_);generalize hid:("list_reverseiterator.__length_hint__" : String)=id0
 wp_delta
 rw[show splitId id0=some ("list_reverseiterator","__length_hint__")from by subst hid; decide +kernel];subst hid;refine kS (wpAny_isInstance (T:="list_reverseiterator") (b:=true) hT (by rw[isSubtype_type]; kernel_rfl) ?_);refine wpAny_ite_split (λhab=>absurd hab xp) (λ_=>?_);refine wpAny_ite_split (λ_=>?_) (λhab=>absurd y_ hab);refine wpAny_ite_split (λhab=>absurd hab y_) (λ_=>?_);exact X3 h
end
section
variable{prog:Program}{w:World}{A:Around}{s:Shared}{R:Result->Shared->Prop}
variable{I:Addr}{fp wr:List Addr}{G:Array GenState->Array GenState->Prop}{n:Nat}{P:Nat->Value->Prop}{St:Nat->Shared->Prop}
theorem FJ(W:WalksS prog w A.in1 I fp wr G n P St) (hT:∀ i s,St i s->s.TypeIs (.ref I) "list_reverseiterator") (S:Addr) (res:Value) (c₀:Nat) (hst:St 0 s) (hSf:S∉fp) (hI:I∈fp)
  (hS:s.heap.get? S=some {cls:=.type "list",data:=.seq #[] c₀})
  (hR:∀ s' acc' c',Moved (S::wr) G s s'->s'.heap.get? S=some {cls:=.type "list",dict:=none,data:=.seq acc' c',slots:=#[] }->ItemsOf P acc' n->R (.ok (.ret res)) s') (hn:n<=sizeLine) :
  wpAny (model prog w) A.in1 (Builtin.List.listExtendWith (.ref S) (.ref I) res)
   (λTw s'=>match Tw with | .done f=>R (.ok f) s' | .again c'=>c'.quiet=true/\codeAny (model prog w) A c' R s') (λe s'=>R (.error e) s') s:=by
 have hSI:S≠I:=λe=>hSf (e ▸ hI);unfold Builtin.List.listExtendWith;refine kS (wpAny_typeOf (hT 0 _ hst) ?_);have h1:Builtin.List.listSameRef (.ref S) (.ref I)=false:=by simp[Builtin.List.listSameRef,hSI]
 have h2:(Value.type "list_reverseiterator" == Value.type "list")=false:=by decide
 have h3:(Value.type "list_reverseiterator" == Value.type "tuple")=false:=by decide
 simp only[h1,h2,h3,Bool.or_false,YL,ZH];refine kS (W.self 0 _ _ _ hst ?_);refine kS (Zm (MC (hT 0 _ hst) ?_));refine wpAny_ite_split (λhab=>absurd hab xp) (λ_=>?_);exact X3 ⟨plainId_quiet aap _,codeAny_extend_loopS W hn _ hSf _ n 0 _ _ _ rfl (YO _) hst hS (ItemsOf.nil P) λs' acc' c' hm hS' hacc=>hR s' acc' c' hm hS' hacc⟩
theorem MD(W:WalksS prog w A.in1 I fp wr G n P St) (hT:∀ i s,St i s->s.TypeIs (.ref I) "list_reverseiterator") (S:Addr) (hst:St 0 s) (hSf:S∉fp) (hI:I∈fp)
  (hS:s.heap.get? S=some {cls:=.type "list",data:=.seq #[] })
  (hR:∀ s' acc' c',Moved (S::wr) G s s'->s'.heap.get? S=some {cls:=.type "list",dict:=none,data:=.seq acc' c',slots:=#[] }->ItemsOf P acc' n->R (.ok (.ret .none)) s') (hn:n<=sizeLine) :
  wpAny (model prog w) A.in1 (Builtin.«list.__init__» ⟨[.ref S,.ref I],[]⟩)
   (λTw s'=>match Tw with | .done f=>R (.ok f) s' | .again c'=>c'.quiet=true/\codeAny (model prog w) A c' R s') (λe s'=>R (.error e) s') s:=by
 show wpAny _ A.in1 (do let old <- Builtin.List.listItems (.ref S);Builtin.List.listUpdate (.ref S) (λ_=>#[]);letGo old.toList.reverse;Builtin.List.listExtendWith (.ref S) (.ref I) .none) _ _ s
 refine kS ?_;unfold Builtin.List.listItems;refine kS (Zc hS rfl (X3 ?_));show wpAny _ A.in1 (updateSeq S (λ_=>#[]) >>= λ_=>letGo (#[]:Array Value).toList.reverse >>= λ_=>Builtin.List.listExtendWith (.ref S) (.ref I) .none) _ _ s;refine kS (ZL hS rfl ?_);have hS2:=YX (Obj.mapSeq (λ_=>(#[]:Array Value))) hS rfl
 have oth:∀b o,b≠S->s.heap.get? b=some o->(s.heap.update S (Obj.mapSeq (λ_=>(#[]:Array Value)))).get? b=some o :=
  λb o hb e=>(Zu _ _ (YE hb)).trans e
 refine kS (wpAny_letGo ?_);refine FJ (hn:=hn) W hT S .none _ (W.frame 0 s _ s.toks hst (XZ _) λb hb o e=>oth b o (λh=>hSf (h ▸ hb)) e) hSf hI hS2 λs' acc' c' hm hS' hacc=>?_;exact hR s' acc' c' (Moved.trans W.gtrans ((Moved.refl W.grefl).then_heap (XZ _) λb o hb e=>oth b o (λh=>hb (h ▸ XU)) e) hm) hS' hacc
end
section
variable{prog:Program}{w:World}{A:Around}{E:Value->Shared->Prop}{s:Shared}
variable{I:Addr}{fp wr:List Addr}{G:Array GenState->Array GenState->Prop}{n:Nat}{P:Nat->Value->Prop}{St:Nat->Shared->Prop}
theorem AL{Q:Value->Shared->Prop}(W:WalksS prog w A.in1.in1 I fp wr G n P St) (hT:∀ i s,St i s->s.TypeIs (.ref I) "list_reverseiterator") (hst:St 0 s) (hfp:∀ b∈fp,b < s.heap.objs.size) (hI:I∈fp)
  (hQ:∀ s' acc' c',Moved (s.heap.objs.size::wr) G {s with heap:=s.heap.push {cls:=.type "list",data:=.seq #[] } } s' ->
   s'.heap.get? s.heap.objs.size=some {cls:=.type "list",dict:=none,data:=.seq acc' c',slots:=#[] }->ItemsOf P acc' n->Q (.ref s.heap.objs.size) s') (hn:n<=sizeLine) :
  wpAny (model prog w) A (call (.type "list") [.ref I]) Q E s:=by
 have hSf:s.heap.objs.size∉fp:=λhm=>Y1 _ (hfp _ hm)
 refine callType_codes (Q₁:=λobj s₁=>obj=.ref s.heap.objs.size/\s₁={s with heap:=s.heap.push {cls:=.type "list",data:=.seq #[] } }) F.called_list (F.typeCall_list_1 _) F.entry_list_init
  (code_list_new _ ⟨rfl,rfl⟩) λobj s₁ h₁=>?_
 obtain⟨rfl,rfl⟩:=h₁;have hS:(s.heap.push {cls:=.type "list",data:=.seq #[] }).get? s.heap.objs.size=some {cls:=.type "list",data:=.seq #[] }:=X5 _ rfl;refine⟨⟨_,hS,rfl⟩,F.args_list_init_2 _ _,MD (hn:=hn) W hT _ (W.frame 0 s _ s.toks hst (XZ _) λb _ o e=>p4 _ e) hSf hI hS λs' acc' c' hm hS' hacc=>?_⟩;exact⟨rfl,hQ s' acc' c' hm hS' hacc⟩
end
def ME(t:W L):W L:=λρ kz=>t ρ λr ρ1=>Uy r λd=>match d with
 |.lst xs=>∀a,kz (.own a xs.reverse) ρ1
 |_=>False
section
variable{X:Cx}{a:Expr}{p p0 pos pos0:Pos}{t:W L}
theorem Dq (hgl:Gl X "list") (hml:X.mg "list"=none) (hg:Gl X "reversed") (hm:X.mg "reversed"=none) (hc:X.calm=true) (ha:PL X a t) (hs:autoParam (starEach [a] X.env=[(false,eval a X.env)]) acE)
  (hs0:autoParam (starEach [.Call (.Name "reversed" p) [a] [] pos] X.env=[(false,eval (.Call (.Name "reversed" p) [a] [] pos) X.env)]) acE):PL X (.Call (.Name "list" p0) [.Call (.Name "reversed" p) [a] [] pos] [] pos0) (ME t):=by
 intro ab s σ H Pr ρ kz I E h;refine ZQ (fk I hgl hml (show bootBuiltins "list"=some (.type "list") by decide +kernel) (Yp ?_ (by rw[hs0]; rfl) rfl));rw[hs0];show wpAny _ _ (spliced ((false,eval (.Call (.Name "reversed" p) [a] [] pos) X.env)::[])) _ _ s;refine ZP (Call_ (fk I hg hm (show bootBuiltins "reversed"=some (.type "reversed") by decide +kernel) (Yp ?_ (by rw[hs]; rfl) rfl)));rw[hs];show wpAny _ _ (spliced ((false,eval a X.env)::[])) _ _ s;refine ZP (Tu (ha ab s σ H Pr ρ _ I E h) λv s1 q=>aah ?_)
 obtain⟨w,H1,d,ρ1,I1,r1,E1,q1⟩:=EL.frz (kz:=λd ρ1=>match d with
  |.lst xs=>∀a,kz (.own a xs.reverse) ρ1
  |_=>False) q
 obtain⟨_,e1,p1⟩:=E1.head_d;cases e1
 cases p1 with
 | @lst l vs0 xs hz rs =>
  cases r1;obtain⟨its,rv,pl,hz'⟩:=I1.list hz.l;have el:its.toArray.size=vs0.length:=by simp;exact rv.length.symm
  have lt:l<s1.heap.objs.size:=by obtain⟨o,e,_⟩:=pl.isList;exact X2 e
  refine call_reversed_list pl.isList ?_;refine aah ?_;have st0:0<=its.toArray.size/\(s1.heap.push (revObj l ((its.toArray.size:Int)-1))).IsRevIter s1.heap.objs.size l ((its.toArray.size:Int)-1-((0:Nat):Int))/\(s1.heap.push (revObj l ((its.toArray.size:Int)-1))).IsList l its.toArray:=by refine⟨YO _,⟨_,X5 _ rfl,rfl,?_⟩,pl.isList.at λo e=>p4 _ e⟩;rw[show((its.toArray.size:Int)-1-((0:Nat):Int))=(its.toArray.size:Int)-1 by omega];rfl
  have W:=(Walks.listRev (prog:=X.prog) (w:=X.w) (A:=X.A.in1.in1) (I1.ok.hd hc) s1.heap.objs.size l (Yi lt) its.toArray).toS;have sz:s1.heap.objs.size<(s1.heap.push (revObj l ((its.toArray.size:Int)-1))).objs.size:=by show _<(s1.heap.objs.push _).size;rw[Array.size_push];exact Nat.lt_succ_self _
  refine AL (s:={s1 with heap:=s1.heap.push (revObj l ((its.toArray.size:Int)-1)) }) W (λi s st=>st.2.1.typeIs) st0 (λb hb=>?_) XU (λs' acc c hmv hS hacc=>?_) (by rw[el];exact hz')
  .
   rcases XW.mp hb with e|hb
   . rw[e];exact sz
   . rw[YB.mp hb];exact Nat.lt_trans lt sz
  .
   have hv:cw vs0.reverse acc.toList:=by
    have:acc.toList=its.reverse:=by
     refine YH (by simp[hacc.1]) λj g1 g2=>?_;have g1':j<acc.size:=by simpa using g1
     have e:=hacc.2 j acc[j] (Array.getElem?_eq_getElem g1');have hj:j<its.length:=by simpa using g2
     rw[List.getElem_reverse];have e':its[its.length-1-j]?=some acc[j]:=by simpa using e
     rw[gV xL]at e';simpa using(YN e').symm
    rw[this];exact rv.reverse
   rw[Moved.eq_with hmv]
   have kp:∀b o,s1.heap.get? b=some o->s'.heap.get? b=some o:=λb o e=>by
    have lb:=X2 e;refine hmv.heap b o (λhmem=>?_) (p4 _ (p4 _ e));rcases XW.mp hmem with e' | hmem
    . rw[e']at lb;exact Nat.lt_asymm lb sz
    . rw[YB.mp hmem]at lb;exact Y1 _ lb
   have I2:=I1.laid (t':=s'.toks) (o:=.lst vs0.reverse) kp (Za sz) ⟨by rw[aan];exact hz',acc.toList,c,hv,by simpa using hS⟩;exact⟨.ref _,_,_,ρ1,I2,rfl,E1.tail.cons_own (I1.hok.fresh (Za sz)) rs.reverse,q1 _⟩
 |_=>exact q1.elim
end
end L2
namespace L2
open PySem PySem.Spec PyProof.Rows
theorem r9 {env:Env} {scope:Scope} {x:Str} (h:scope.names.lookup x=some .cell):(relabel scope env).names.lookup x=some .cell:=by
 have key:∀(names:List (Str×NameKind)),names.lookup x=some .cell→(names.map fun (n,k)=>if (k == NameKind.free && env.scope.kind == .function && env.kindOf n == some .cell) then (n,NameKind.cell) else (n,k)).lookup x=some .cell:=by
  intro names
  induction names with
  | nil=>intro h;simp at h
  | cons p r ih =>
   obtain ⟨n,k⟩:=p
   intro h
   rw [YJ] at h
   rw [X7]
   dsimp only
   cases hb:x == n with
   | true =>
    rw [hb] at h
    cases h
    have:(if (NameKind.cell == NameKind.free && env.scope.kind == .function && env.kindOf n == some .cell)=true then (n,NameKind.cell) else (n,NameKind.cell))=(n,NameKind.cell):=by split<;>rfl
    rw [this,YJ,hb]
   | false =>
    rw [hb] at h
    split
    .
     rw [YJ,hb];exact ih h
    .
     rw [YJ,hb];exact ih h
 exact key _ h
theorem Pl {scope o:Scope} {env:Env} (h:∀x∈scope.names,x.2=.free→o.names.lookup x.1=some .cell∨o.names.lookup x.1=some .free):∀x∈scope.names,x.2=.free→(relabel o env).names.lookup x.1=some .cell∨(relabel o env).names.lookup x.1=some .free:=fun x hx hf=>by
 rcases h x hx hf with e|e
 .
  exact .inl (r9 e)
 .
  exact c7 e
end L2
namespace L2
open PySem PySem.Spec PyProof.Rows PySem.SeqAt
mutual
noncomputable def Vm:D->Bool
 |.dct n=>n == 0
 |.exc _ _ _=>false
 |.fn _ _=>false
 |.dk _ _=>false
 |.gf _=>false
 |.tup xs=>MF xs
 |.lst xs=>MF xs
 |.str x=>PyData.strOk x
 |_=>true
noncomputable def MF:List D->Bool
 |[]=>true
 |x::xs=>Vm x && MF xs
end
mutual
theorem se:∀d:D,Vm d=true->gh d=true->(UK d).leavesShort 601=true
 |.non,_,_=>rfl
 |.bl _,_,_=>rfl
 |.dct _,_,_=>rfl
 |.exc _ _ _,h,_=>by simp[Vm]at h
 |.fn _ _,h,_=>by simp[Vm]at h
 |.dk _ _,h,_=>by simp[Vm]at h
 |.gf _,h,_=>by simp[Vm]at h
 | .int i,_,h=>by
  have:=(q5 (.int i) h).1
  simpa only[UK,PyData.leavesShort,PyData.intsShort]using this
 |.str x,h,hs=>PyData.leavesShort_of_canLay0 601 (.str x) (by simpa only[Vm,PyData.canLay0]using h) (q5 (.str x) hs).1
 | .tup xs,h,hs=>by
  have:=o9 xs (by simpa only[Vm]using h) (by simpa only[gh]using hs)
  simpa only[UK,PyData.leavesShort]using this
 | .lst xs,h,hs=>by
  have:=o9 xs (by simpa only[Vm]using h) (by simpa only[gh]using hs)
  simpa only[UK,PyData.leavesShort]using this
theorem o9:∀ds:List D,MF ds=true->iC ds=true->PyData.leavesShortAll 601 (fg ds)=true
 |[],_,_=>rfl
 | d::ds,h,hs=>by
  simp only[MF,YI]at h
  simp only[iC,YI]at hs
  simp only[fg,PyData.leavesShortAll,se d h.1 hs.1,o9 ds h.2 hs.2,Bool.and_self]
end
structure R0 (d:D):Prop where
 ok:Vm d=true
 sh:gh d=true
 dp:(UK d).depth<=40
 sg:Dp d<=16777216
 ni:∀i,d≠.int i
theorem R0.len{d:D}(h:R0 d):(UK d).shown.length<=sizeLine:=by
 have e:sizeLine=16777216:=by decide
 rw[e];exact X0 (FI d (se d h.ok h.sh)) h.sg
end L2
namespace L2
open PySem PySem.Spec PyProof.Rows
section
def Pn(o:Option L)(i k:Nat)(ρ:Ev)(kz:L->Ev->Prop):Prop:=match o with
 |some (.bx none ls)=>∃l,ls[k]?=some l/\kz l (ρ.set i (.bx none (ls.set k .un)))
 |some (.d (.tup ds))=>∃d,ds[k]?=some d/\kz (.d d) ρ
 |_=>False
theorem IV(ls:List L)(i k:Nat)(ρ:Ev)(kz:L->Ev->Prop):Pn (some (.bx none ls)) i k ρ kz=∃l,ls[k]?=some l/\kz l (ρ.set i (.bx none (ls.set k .un))):=rfl
theorem MG(ds:List D)(i k:Nat)(ρ:Ev)(kz:L->Ev->Prop):Pn (some (.d (.tup ds))) i k ρ kz=∃d,ds[k]?=some d/\kz (.d d) ρ:=rfl
end
section
def Rj(r:L)(ρ:Ev)(kz:L->Ev->Prop):Prop:=match r with
 |.bx (some _) ls=>kz (.bx none ls) ρ
 |_=>False
theorem IW(a:Addr)(ls:List L)(ρ:Ev)(kz:L->Ev->Prop):Rj (.bx (some a) ls) ρ kz=kz (.bx none ls) ρ:=rfl
end
end L2
namespace L2
open PySem PySem.Spec PyProof.Rows PySem.W
theorem Un.one{P:Program}{w:World}{fs:List Addr}{H H':Hp}{h h':Heap}{c:Addr}{oc:Obj}(hc:H c=none)(gc:h.get? c=some oc)(cc:∀q,¬BK oc q)(u:Un fs [] (Te H c (.frz oc (.own c))) H' h h')(ok:Tf P w H' h') :
  Un fs [] H (Vj H' c) h h'/\Tf P w (Vj H' c) h':=by
 have zc:H' c=some (.frz oc (.own c)):=u.frzs c oc _ cb;have gc':h'.get? c=some oc:=(ok c _ zc).1;have nz:∀b o,H' b=some o->o≠.frz oc (.own c)->b≠c:=λb o e n z=>by subst z;rw[zc]at e;cases e;exact n rfl
 refine⟨⟨λb o e n hb hx=>?_,λb o e n hb hx=>?_,λb o e n hx=>?_,λb o e hx=>u.there b o e hx,λb xs e=>?_,λb o v e=>?_,λb t e=>?_⟩,λb o e=>?_⟩
 .
  by_cases z:b=c
  . subst z;rw[gc]at e;cases e;exact gc'
  . exact u.keep b o e (by rw[aT z];exact n) hb hx
 .
  by_cases z:b=c
  . subst z;rw[gc]at e;cases e;exact⟨oc.slots,gc'⟩
  . exact u.slot b o e (by rw[aT z];exact n) hb hx
 .
  by_cases z:b=c
  . subst z;exact Cd
  . rw[p8 z];exact u.free b o e (by rw[aT z];exact n) hx
 . have z:=bL e hc;rw[p8 z];exact u.tups b xs (by rw[aT z];exact e)
 . have z:=bL e hc;rw[p8 z];exact u.frzs b o v (by rw[aT z];exact e)
 . have z:=bL e hc;rw[p8 z];exact u.tbls b t (by rw[aT z];exact e)
 .
  have hb:b≠c:=λz=>by subst z;rw[Cd]at e;cases e
  rw[p8 hb]at e;refine(ok b o e).stay (λ_ _ _ z=>z) (λd z=>?_) (λd xs z=>?_) λd od q co z=>?_
  . rw[p8 (nz d _ z λy=>nomatch y)];exact z
  . rw[p8 (nz d _ z λy=>nomatch y)];exact z
  . rw[p8 (nz d _ z λy=>by cases y;exact cc q co)];exact z
end L2
namespace L2
open PySem PySem.W
end L2
namespace L2
open PySem PySem.Spec PyProof.Rows PySem.SeqAt
structure R1 (d:D):Prop where
 ok:Vm d=true
 sh:gh d=true
 dp:(UK d).depth<=40
 sg:Dp d<=16777216
theorem R1.len{d:D}(h:R1 d):(UK d).shown.length<=sizeLine:=by
 have e:sizeLine=16777216:=by decide
 rw[e];exact X0 (FI d (se d h.ok h.sh)) h.sg
end L2
namespace L2
open PySem PySem.Spec PyProof.Rows
def Vn(o q:Option L)(i j:Nat)(t:W L)(ρ:Ev)(kz:L->Ev->Prop):Prop:=match o,q with
 |some (.own _ xs),some (.own b _)=>i≠j/\fw i ρ=true/\t (ρ.set i (.d (.lst xs))) λr ρ'=>rR r=true/\∃zs,Ah zs=true/\ρ'=(ρ.set i (.d (.lst xs))).set j (.own b zs)/\kz r (ρ.set j (.own b zs))
 |_,_=>False
theorem MH(a b:Addr)(xs ys:List D)(i j:Nat)(t:W L)(ρ:Ev)(kz:L->Ev->Prop):Vn (some (.own a xs)) (some (.own b ys)) i j t ρ kz=(i≠j/\fw i ρ=true/\t (ρ.set i (.d (.lst xs))) λr ρ'=>rR r=true/\∃zs,Ah zs=true/\ρ'=(ρ.set i (.d (.lst xs))).set j (.own b zs)/\kz r (ρ.set j (.own b zs))):=rfl
def SL(o:Option L)(ρ:Ev)(kz:Bool->Ev->Prop):Prop:=match o with
 |some (.d (.lst xs))=>kz (!xs.isEmpty) ρ
 |_=>False
theorem IX(xs:List D)(ρ:Ev)(kz:Bool->Ev->Prop):SL (some (.d (.lst xs))) ρ kz=kz (!xs.isEmpty) ρ:=rfl
end L2
namespace HT
open PySem PySem.Spec PyProof.Rows
end HT
namespace L2
open PySem PySem.Spec PyProof.Rows
end L2
namespace L2
open PySem PySem.Spec PyProof.Rows PySem.W
end L2
namespace L2
open PySem PySem.Spec PyProof.Rows PySem.SeqAt
end L2
namespace PySem
open PySem.Spec
namespace F
end F
end PySem
namespace L2
open PySem PySem.Spec PyProof.Rows PySem.W
section
variable{key:Nat->Int}{n:Nat}{I:Shared->Prop}{cmp:Nat->Nat->(Bool->Shared->Prop)->Shared->Prop}
def IY(I:Shared->Prop)(cmp:Nat->Nat->(Bool->Shared->Prop)->Shared->Prop){α:Type}(t:KasT α)(P:α->Prop):Prop:=∀(Q:α->Shared->Prop)(s:Shared),I s->(∀a s',I s'->P a->Q a s')->t.kasWp cmp Q s
def R3(key:Nat->Int)(n:Nat)(I:Shared->Prop)(cmp:Nat->Nat->(Bool->Shared->Prop)->Shared->Prop):Prop:=∀(i j:Nat)(C:Bool->Shared->Prop)(s:Shared),i<n->j<n->i≠j->I s->(∀s',I s'->C (decide (key i<key j)) s')->cmp i j C s
noncomputable def kk(key:Nat->Int)(p:Array Nat)(i:Nat):Int:=key (p.getD i 0)
structure FK (n:Nat) (p:Array Nat):Prop where
 sz:p.size=n
 pm:p.toList.Perm (List.range n)
theorem FK.lt{p:Array Nat}(g:FK n p){i:Nat}(h:i<n):p.getD i 0<n:=by
 have hs:i<p.size:=by rw[g.sz];exact h
 have e:p.getD i 0=p[i]:=by simp[Array.getD,hs]
 rw[e];exact Yb.mp (g.pm.mem_iff.mp (by rw[<- Array.getElem_toList];exact X8 _))
theorem FK.ne{p:Array Nat}(g:FK n p){i j:Nat}(hi:i<n)(hj:j<n)(h:i≠j):p.getD i 0≠p.getD j 0:=by
 have hs:i<p.size:=by rw[g.sz];exact hi
 have ht:j<p.size:=by rw[g.sz];exact hj
 have nd:p.toList.Nodup:=g.pm.nodup_iff.mpr List.nodup_range;have e1:p.getD i 0=p.toList[i]'(by simpa using hs):=by simp[Array.getD,hs]
 have e2:p.getD j 0=p.toList[j]'(by simpa using ht):=by simp[Array.getD,ht]
 rw[e1,e2];intro z;exact h ((List.getElem_inj nd).mp z)
theorem IY.ask{α:Type}{i j:Nat}{k:Bool->KasT α}{P:α->Prop}(hc:R3 key n I cmp)(hi:i<n)(hj:j<n)(hn:i≠j)(h1:key i<key j->IY I cmp (k true) P)(h2:¬key i<key j->IY I cmp (k false) P):IY I cmp (.ask i j k) P:=λQ s hI hq=>by
 refine hc i j _ s hi hj hn hI λs' hI'=>?_;by_cases c:key i<key j
 . rw[Y6 c];exact h1 c Q s' hI' hq
 . rw[Yt c];exact h2 c Q s' hI' hq
theorem IY.at{α:Type}{p:Array Nat}{i j:Nat}{k:Bool->KasT α}{P:α->Prop}(hc:R3 key n I cmp)(hq:∀a b,a<n->b<n->key a=key b->a=b)(g:FK n p)(hi:i<n)(hj:j<n)(hn:i≠j)(h1:kk key p i<kk key p j->IY I cmp (k true) P)(h2:kk key p j<kk key p i->IY I cmp (k false) P):IY I cmp (.ask (p.getD i 0) (p.getD j 0) k) P:=by refine IY.ask hc (g.lt hi) (g.lt hj) (g.ne hi hj hn) h1 λc=>h2 ?_;have:kk key p i≠kk key p j:=λz=>g.ne hi hj hn (hq _ _ (g.lt hi) (g.lt hj) z);unfold kk at this ⊢;omega
end
theorem bV.at{K:Frag}{H:Hp}{vs:List V}{ds:List D}(r:bV K H vs ds){i:Nat}(h1:i<vs.length)(h2:i<ds.length):Us K H vs[i] ds[i]:=by obtain⟨v,e1,e2⟩:=r.get (gV h2);rw[gV h1]at e1;cases e1;exact e2
end L2
namespace L2
open PySem
theorem kL{g:Tg}{b:W Fl}{kz:Fl->Ev->Prop}:∀(xs:List D)(I:Nat->Ev->Prop)(ρ:Ev),I 0 ρ ->
  (∀j x ρ,xs[j]?=some x->I j ρ->∀Q:Fl->Ev->Prop,(∀ρ',I (j+1) ρ'->Q .nx ρ')->(∀ρ',I (j+1) ρ'->Q .ct ρ')->(∀ρ',kz .nx ρ'->Q .bk ρ')->(∀r ρ',kz (.rt r) ρ'->Q (.rt r) ρ')->g x ρ λρ1=>b ρ1 Q) ->
  (∀ρ,I xs.length ρ->kz .nx ρ)->eX g b xs ρ kz
 |[],I,ρ,h0,_,Tw=>Tw ρ h0
 | x::xs,I,ρ,h0,step,Tw=>by
  unfold eX;refine step 0 x ρ rfl h0 _ (λρ' h=>?_) (λρ' h=>?_) (λρ' h=>h) (λr ρ' h=>h)
  . exact kL xs (λj=>I (j+1)) ρ' h (λj y ρ e hi=>step (j+1) y ρ e hi) Tw
  . exact kL xs (λj=>I (j+1)) ρ' h (λj y ρ e hi=>step (j+1) y ρ e hi) Tw
theorem e8{α:Type}{enc:α->D}{g:Tg}{b:W Fl}{kz:Fl->Ev->Prop}(as:List α)(I:List α->Ev->Prop)(ρ:Ev)(h0:I [] ρ)
  (step:∀pre a suf ρ,as=pre++a::suf->I pre ρ->∀Q:Fl->Ev->Prop,(∀ρ',I (pre++[a]) ρ'->Q .nx ρ')->(∀ρ',I (pre++[a]) ρ'->Q .ct ρ')->(∀ρ',kz .nx ρ'->Q .bk ρ')->(∀r ρ',kz (.rt r) ρ'->Q (.rt r) ρ')->g (enc a) ρ λρ1=>b ρ1 Q)
  (Tw:∀ρ,I as ρ->kz .nx ρ):eX g b (as.map enc) ρ kz:=by
 refine kL _ (λj ρ=>I (as.take j) ρ) ρ h0 (λj x ρ e hi Q h1 h2 h3 h4=>?_) λρ h=>Tw ρ (by simpa using h);rw[X1]at e
 cases ea:as[j]? with
 |none=>rw[ea]at e;cases e
 | some a =>
  rw[ea]at e;cases e;obtain⟨hj,ea'⟩:=tu.mp ea;have es:as.take (j+1)=as.take j++[a]:=by rw[Z6,ea];rfl
  have ed:as=as.take j++a::as.drop (j+1):=by have:=(List.take_append_drop j as).symm;rw[List.drop_eq_getElem_cons hj,ea']at this;exact this
  rw[es]at h1 h2;exact step _ a _ ρ ed hi Q h1 h2 h3 h4
theorem Cg{g:Tg}{ti:W Bool}{te:W L}{k:List D->Ev->Prop}:∀(xs:List D)(I:Nat->Ev->List D->Prop)(ρ:Ev)(acc:List D),I 0 ρ acc ->
  (∀j x ρ acc,xs[j]?=some x->I j ρ acc->∀Q:Ev->List D->Prop,(∀ρ' acc',I (j+1) ρ' acc'->Q ρ' acc')->g x ρ λρ1=>ti ρ1 λb ρ2=>if b=true then te ρ2 λr ρ3=>Uy r λy=>Q ρ3 (acc++[y])else Q ρ2 acc) ->
  (∀ρ acc,I xs.length ρ acc->k acc ρ)->dG g ti te xs ρ acc k
 |[],I,ρ,acc,h0,_,Tw=>Tw ρ acc h0
 | x::xs,I,ρ,acc,h0,step,Tw=>by unfold dG;exact step 0 x ρ acc rfl h0 (λρ acc=>dG g ti te xs ρ acc k) λρ' acc' h=>Cg xs (λj=>I (j+1)) ρ' acc' h (λj y ρ acc e hi=>step (j+1) y ρ acc e hi) Tw
theorem fA{α:Type}{enc:α->D}{h:α->Option D}{caps:Ev}{ti:W Bool}{te:W L}{k:List D->Ev->Prop}:∀(as:List α)(acc:List D)(l:L),
  (∀a∈as,∀Q:Ev->Option D->Prop,Q (.d (enc a)::caps) (h a)->ti (.d (enc a)::caps) λb ρ2=>if b=true then te ρ2 λr ρ3=>Uy r λy=>Q ρ3 (some y)else Q ρ2 none) ->
  (∀l',k (acc++as.filterMap h) (l'::caps))->dG (aR 0) ti te (as.map enc) (l::caps) acc k
 |[],acc,l,_,Tw=>by have:=Tw l;simpa[dG]using this
 | a::as,acc,l,step,Tw=>by
  show dG (aR 0) ti te (enc a::as.map enc) (l::caps) acc k;unfold dG;show ti (.d (enc a)::caps) _
  refine step a XU (λρ o=>match o with|some y=>dG (aR 0) ti te (as.map enc) ρ (acc++[y]) k|none=>dG (aR 0) ti te (as.map enc) ρ acc k) ?_
  cases e:h a with
  |none=>exact fA as acc _ (λb hb=>step b (p3 _ hb)) (by simpa[Y0,e]using Tw)
  |some y=>exact fA as (acc++[y]) _ (λb hb=>step b (p3 _ hb)) (by simpa[Y0,e]using Tw)
theorem bc{α:Type}{enc:α->D}{h:α->D}{caps:Ev}{te:W L}{k:List D->Ev->Prop}(as:List α)(acc:List D)(l:L)
  (step:∀a∈as,∀Q:Ev->D->Prop,Q (.d (enc a)::caps) (h a)->te (.d (enc a)::caps) λr ρ3=>Uy r λy=>Q ρ3 y)
  (Tw:∀l',k (acc++as.map h) (l'::caps)):dG (aR 0) bW te (as.map enc) (l::caps) acc k:=by
 refine fA (h:=λa=>some (h a)) as acc l (λa ha Q q=>?_) (by simpa using Tw);simp only[bW,Zh];exact step a ha (λρ y=>Q ρ (some y)) q
theorem g9{α:Type}{e1 e2:α->D}{h:α->Option D}{caps:Ev}{ti:W Bool}{te:W L}{k:List D->Ev->Prop}:∀(as:List α)(acc:List D)(l m:L),
  (∀a∈as,∀Q:Ev->Option D->Prop,Q (.d (e1 a)::.d (e2 a)::caps) (h a)->ti (.d (e1 a)::.d (e2 a)::caps) λb ρ2=>if b=true then te ρ2 λr ρ3=>Uy r λy=>Q ρ3 (some y)else Q ρ2 none) ->
  (∀l' m',k (acc++as.filterMap h) (l'::m'::caps))->dG (dO [0,1]) ti te (as.map λa=>D.tup [e1 a,e2 a]) (l::m::caps) acc k
 |[],acc,l,m,_,Tw=>by have:=Tw l m;simpa[dG]using this
 | a::as,acc,l,m,step,Tw=>by
  show dG (dO [0,1]) ti te (D.tup [e1 a,e2 a]::as.map λa=>D.tup [e1 a,e2 a]) (l::m::caps) acc k;unfold dG;show ti (.d (e1 a)::.d (e2 a)::caps) _
  refine step a XU (λρ o=>match o with|some y=>dG (dO [0,1]) ti te (as.map λa=>D.tup [e1 a,e2 a]) ρ (acc++[y]) k|none=>dG (dO [0,1]) ti te (as.map λa=>D.tup [e1 a,e2 a]) ρ acc k) ?_
  cases e:h a with
  |none=>exact g9 as acc _ _ (λb hb=>step b (p3 _ hb)) (by simpa[Y0,e]using Tw)
  |some y=>exact g9 as (acc++[y]) _ _ (λb hb=>step b (p3 _ hb)) (by simpa[Y0,e]using Tw)
theorem fB{α:Type}{e1 e2:α->D}{h:α->D}{caps:Ev}{te:W L}{k:List D->Ev->Prop}(as:List α)(acc:List D)(l m:L)
  (step:∀a∈as,∀Q:Ev->D->Prop,Q (.d (e1 a)::.d (e2 a)::caps) (h a)->te (.d (e1 a)::.d (e2 a)::caps) λr ρ3=>Uy r λy=>Q ρ3 y)
  (Tw:∀l' m',k (acc++as.map h) (l'::m'::caps)):dG (dO [0,1]) bW te (as.map λa=>D.tup [e1 a,e2 a]) (l::m::caps) acc k:=by
 refine g9 (h:=λa=>some (h a)) as acc l m (λa ha Q q=>?_) (by simpa using Tw);simp only[bW,Zh];exact step a ha (λρ y=>Q ρ (some y)) q
theorem yR{α:Type}{x:α}{xs:List α}:Ud (x::xs) 0=some x:=gD (j:=0) rfl
theorem AM{α:Type}{x y:α}{xs:List α}:Ud (x::y::xs) 1=some y:=gD (j:=1) rfl
theorem Po{α:Type}{x y z:α}{xs:List α}:Ud (x::y::z::xs) 2=some z:=gD (j:=2) rfl
theorem Pp{α:Type}{x y z w:α}{xs:List α}:Ud (x::y::z::w::xs) 3=some w:=gD (j:=3) rfl
theorem Rk{α:Type}{x y z w v:α}{xs:List α}:Ud (x::y::z::w::v::xs) 4=some v:=gD (j:=4) rfl
theorem KO{α:Type}{xs:List α}{i:Int}{x:α}(h0:0<=i)(h:xs[i.toNat]?=some x):Ud xs i=some x:=by have:=gD h;rwa [Int.toNat_of_nonneg h0]at this
theorem cf{α:Type}{f:α->D}{xs:List α}{k:Nat}(h:k<xs.length):Ud (xs.map f) (k:Int)=some (f xs[k]):=gD (by rw[X1,gV h];rfl)
theorem SN:Uc 3 0=some 0:=by decide
theorem SO:Uc 3 1=some 1:=by decide
theorem SQ:Uc 3 2=some 2:=by decide
theorem cg(n:Nat):vh 0 n=(List.range n).map λ(i:Nat)=>D.int (i:Int):=by unfold vh;simp
theorem Ja{g:Tg}{b:W Fl}{kz:Fl->Ev->Prop}(lo:Int)(n:Nat)(I:Nat->Ev->Prop)(ρ:Ev)(h0:I 0 ρ)
  (step:∀j ρ,j<n->I j ρ->∀Q:Fl->Ev->Prop,(∀ρ',I (j+1) ρ'->Q .nx ρ')->(∀ρ',I (j+1) ρ'->Q .ct ρ')->(∀ρ',kz .nx ρ'->Q .bk ρ')->(∀r ρ',kz (.rt r) ρ'->Q (.rt r) ρ')->g (.int (lo+(j:Int))) ρ λρ1=>b ρ1 Q)
  (Tw:∀ρ,I n ρ->kz .nx ρ):eX g b (vh lo n) ρ kz:=by
 have hl:(vh lo n).length=n:=by simp[vh]
 refine kL _ I ρ h0 (λj x ρ hj hi Q h1 h2 h3 h4=>?_) λρ h=>Tw ρ (by rwa [hl]at h);have hj':j<n:=by rw[<- hl];exact(tu.mp hj).1
 have e:x=.int (lo+(j:Int)):=by unfold vh at hj;rw[X1,Yn hj']at hj;exact(YN hj).symm
 subst e;exact step j ρ hj' hi Q h1 h2 h3 h4
theorem FL{g:Tg}{b:W Fl}{kz:Fl->Ev->Prop}(n:Nat)(I:Nat->Ev->Prop)(ρ:Ev)(h0:I 0 ρ)
  (step:∀j ρ,j<n->I j ρ->∀Q:Fl->Ev->Prop,(∀ρ',I (j+1) ρ'->Q .nx ρ')->(∀ρ',I (j+1) ρ'->Q .ct ρ')->(∀ρ',kz .nx ρ'->Q .bk ρ')->(∀r ρ',kz (.rt r) ρ'->Q (.rt r) ρ')->g (.int (j:Int)) ρ λρ1=>b ρ1 Q)
  (Tw:∀ρ,I n ρ->kz .nx ρ):eX g b (vh 0 n) ρ kz :=
 Ja 0 n I ρ h0 (λj ρ hj hi Q h1 h2 h3 h4=>by rw[Int.zero_add];exact step j ρ hj hi Q h1 h2 h3 h4) Tw
theorem bG{i:Int}(h:i.natAbs<2^200):cy i:=XX h (X9 xp xp)
theorem ny{i:Int}{n:Nat}(h:i.natAbs<2^n)(hn:n<=1000000):cy i:=XX h (X9 xp hn)
theorem iD(x:Int){m:Int}(h:0<m):0<=x.fmod m/\x.fmod m<m:=by rw[Yl _ xL];exact⟨aad _ xL,Z5 _ h⟩
theorem AN{i:Int}{n:Nat}(h0:0<=i)(h:i<2^n)(hn:n<=1000000):cy i:=by
 have:i.natAbs<2^n:=by
  have e:((2^n:Nat):Int)=(2:Int)^n:=by simp
  omega
 exact XX this (X9 xp hn)
theorem Rl:(10:Int)^60<2^200:=by decide
theorem yS{i:Int}(h0:0<=i)(h:i<=10^60):i.natAbs<2^9000:=by
 have:i.natAbs<2^200:=by
  have:=Rl;have e:((2^200:Nat):Int)=(2:Int)^200:=by decide
  omega
 exact XX this (X9 xp xp)
theorem FM(p q:Rat):Rat.divInt (p.num*q.num) ((p.den:Int)*(q.den:Int))=p*q:=by rw[<- Rat.divInt_mul_divInt,Zf,Zf]
theorem RB.of_divInt{t b:Int}{n:Nat}(h:b≠0)(ht:t.natAbs<2^n)(hb:b.natAbs<2^n):RB n (Rat.divInt t b):=⟨Yc (KI h) ht,Yc (Ff h) hb⟩
theorem sf(p q:Rat):((p.den:Int)*(q.den:Int))≠0:=by have dp:=den_pos p;have dq:=den_pos q;exact aab xL xL
theorem nA(p q:Rat):((p.den:Int)*(q.den:Int)).natAbs=p.den*q.den:=by rw[Zj,Yh,Yh]
theorem RB.mul{m n:Nat}{p q:Rat}(hp:RB m p)(hq:RB n q):RB (m+n) (p*q):=by rw[<- FM];exact RB.of_divInt (sf p q) (by rw[Zj];exact bC hp.1 hq.1) (by rw[nA];exact bC hp.2 hq.2)
theorem Ci{q:Rat}(h:q≠0):q.num≠0:=λz=>h (Rat.num_eq_zero.mp z)
theorem mi(q:Rat):(q.den:Int)≠0:=by have:=den_pos q;omega
theorem FN(p:Rat){q:Rat}(h:q≠0):Rat.divInt (p.num*(q.den:Int)) ((p.den:Int)*q.num)=p / q:=by
 rw[aaq,<- Rat.divInt_mul_divInt,Zf]
 congr 1
 conv=>rhs;rw[<- Zf q,Rat.inv_divInt]
theorem RB.div{m n:Nat}{p q:Rat}(hp:RB m p)(hq:RB n q)(h:q≠0):RB (m+n) (p / q):=by
 rw[<- FN p h];refine RB.of_divInt (aab (mi p) (Ci h)) ?_ ?_
 . rw[Zj];exact bC hp.1 (by simpa using hq.2)
 . rw[Zj];exact bC (by simpa using hp.2) hq.1
theorem RB.zero:RB 1 0:=⟨xp,xp⟩
theorem Pq(p q:Rat):decide (p.num*(q.den:Int)<q.num*(p.den:Int))=decide (p<q):=by rw[YA,Rat.lt_iff]
structure Vo where
 nm:Str
 one:Nat
 other:Nat
 size:Rat
structure aD where
 rooms:List Rat
 asks:List Vo
noncomputable def aD.n(R:aD):Nat:=R.rooms.length
noncomputable def d6(a:Vo):D:=.tup [.str a.nm,.int a.one,.int a.other,UV a.size]
noncomputable def aX(R:aD):D:=.tup [.lst (R.rooms.map UV),.lst (R.asks.map d6)]
theorem FO(q:Rat):(q.num:Rat)=q*(q.den:Rat):=by
 have h:=Zf q;have hd:(q.den:Rat)≠0:=λw=>by have:=Z9.mpr q.den_pos;rw[w]at this;exact absurd this xp
 rw[Rat.divInt_eq_div]at h;have e:(((q.den:Nat):Int):Rat)=(q.den:Rat):=rfl;rw[e]at h;have e2:q*(q.den:Rat)=(q.num:Rat) / (q.den:Rat)*(q.den:Rat):=by rw[h]
 rw[e2,Rat.div_mul_cancel hd]
theorem yT{q:Rat}{V:Nat}(h0:0<=q)(hv:q<(V:Rat)):q.num.natAbs<V*q.den:=by
 have hd:(0:Rat)<(q.den:Rat):=Z9.mpr q.den_pos;have h1:q*(q.den:Rat)<(V:Rat)*(q.den:Rat):=Rat.mul_lt_mul_of_pos_right hv hd;rw[<- FO]at h1
 have h2:((q.num:Int):Rat)<(((V*q.den:Nat):Int):Rat):=by
  have e:(((V*q.den:Nat):Int):Rat)=(V:Rat)*(q.den:Rat):=by push_cast;rfl
  rw[e];exact h1
 have h3:q.num<((V*q.den:Nat):Int):=Rat.intCast_lt_intCast.mp h2;have h4:0<=q.num:=Rat.num_nonneg.mpr h0;omega
theorem RB.of_val{q:Rat}{d v:Nat}(h0:0<=q)(hd:q.den<2^d)(hv:q<((2^v:Nat):Rat)):RB (v+d) q:=by refine⟨XX (yT h0 hv) ?_,XX hd (X9 xp xL)⟩;rw[aar];exact Z1 _ (Za hd)
structure c8 (n:Nat) (a:Vo):Prop where
 one:a.one<n
 other:a.other<n
 ne:a.one≠a.other
 size:0<=a.size
 lt:a.size<((2^300:Nat):Rat)
 nm:PyData.strOk a.nm=true
structure aD.Ok (R:aD):Prop where
 lo:2<=R.n
 hi:R.n<=12
 few:R.asks.length<=20
 room:∀q∈R.rooms,0<q/\RB 80 q
 ask:∀a∈R.asks,c8 R.n a
 cd:∃D:Nat,0<D/\D<2^1240/\∀a∈R.asks,a.size.den∣D
theorem aD.Ok.rb{R:aD}(h:R.Ok){a:Vo}(ha:a∈R.asks):RB 1540 a.size:=by obtain⟨D,d0,d1,hd⟩:=h.cd;exact RB.of_val (v:=300) (d:=1240) (h.ask a ha).size (Yc (aam d0 (hd a ha)) d1) (h.ask a ha).lt
theorem wo{α:Type}{n:Nat}{f:α->D}:∀xs:List α,(∀x∈xs,UW n (f x)=true)->p7 n (xs.map f)=true
 |[],_=>rfl
 |x::xs,h=>by simp[p7,h x XU,wo xs λy hy=>h y (p3 _ hy)]
theorem KP(n:Nat)(q:Rat):UW (n+1) (UV q)=true:=by cases n<;>simp[UV,UW,p7]
theorem yU:∀(as bs:List Int),PyData.eqvAll (fg (as.map .int)) (fg (bs.map .int))=decide (as=bs)
 |[],[]=>by simp[v9]
 |[],b::bs=>by simp[fg,PyData.eqvAll]
 |a::as,[]=>by simp[fg,PyData.eqvAll]
 | a::as,b::bs=>by rw[X7,X7,jA,yU as bs,o4];simp
theorem Jb(as bs:List Int):UL (.lst (as.map .int)) (.lst (bs.map .int))=decide (as=bs):=by rw[Fj,yU]
def si(xs:List D):Prop:=∃(c sd:Int)(t:Bool),xs=[.int c,.int sd,.bl t]/\0<=sd/\sd<2147483647
theorem Cj{t b g:Int}(h:b≠0)(e:g=cT t b):D.tup [.int (t.fdiv g),.int (b.fdiv g)]=UV (Rat.divInt t b):=by subst e;rw[Fe h,Mb h];rfl
noncomputable def yV(qs:List Rat):Nat:=(qs.map (·.den)).foldr (·*·) 1
theorem nB:∀qs:List Rat,0<yV qs
 |[]=>Nat.one_pos
 |a::t=>Nat.mul_pos (den_pos a) (nB t)
noncomputable def df(qs:List Rat):Rat:=qs.foldl (·+·) 0
theorem FP(qs:List Rat):∀acc:Rat,qs.foldl (·+·) acc=acc+df qs:=by
 unfold df
 induction qs with
 |nil=>intro acc;simp[Rat.add_zero]
 |cons q qs ih=>intro acc;rw[aav,aav,ih,ih (0+q),aau,Rat.add_assoc]
theorem aS(q:Rat)(qs:List Rat):df (q::qs)=q+df qs:=by show(q::qs).foldl (·+·) 0=_;rw[aav,FP,aau]
theorem q8(as bs:List Rat):df (as++bs)=df as+df bs:=by
 induction as with
 |nil=>rw[Yk];show _=(0:Rat)+_;rw[aau]
 |cons a as ih=>rw[List.cons_append,aS,aS,ih,Rat.add_assoc]
theorem nC{α β:Type}(f:α->β)(xs:List α)(l u:Option Int):rM (xs.map f) l u=(rM xs l u).map f:=by unfold rM;rw[tv,<- List.map_drop,<- List.map_take]
theorem Jc{xs:List D}{i:Int}{k:L->Prop}:aI (.lst xs) (.int i) k=∃v,Ud xs i=some v/\k (.d v):=rfl
theorem Jd{xs:List D}{i:Int}{k:L->Prop}:aI (.tup xs) (.int i) k=∃v,Ud xs i=some v/\k (.d v):=rfl
theorem Je{z:Str}{i:Int}{k:L->Prop}:aI (.str z) (.int i) k=(z.length<=sizeLine/\∃c,Ud z.cps.toList i=some c/\k (.d (.str ⟨#[c]⟩))):=rfl
theorem Jf{R:aD}{k:L->Prop}:aI (aX R) (.int 0) k=k (.d (.lst (R.rooms.map UV))):=by show(∃v,Ud _ _=some v/\_)=_;simp only[yR,Yo,Zg]
theorem Jg{R:aD}{k:L->Prop}:aI (aX R) (.int 1) k=k (.d (.lst (R.asks.map d6))):=by show(∃v,Ud _ _=some v/\_)=_;simp only[AM,Yo,Zg]
theorem MI{a:Vo}{k:L->Prop}:aI (d6 a) (.int 0) k=k (.d (.str a.nm)):=by show(∃v,Ud _ _=some v/\_)=_;simp only[yR,Yo,Zg]
theorem MJ{a:Vo}{k:L->Prop}:aI (d6 a) (.int 1) k=k (.d (.int a.one)):=by show(∃v,Ud _ _=some v/\_)=_;simp only[AM,Yo,Zg]
theorem MK{a:Vo}{k:L->Prop}:aI (d6 a) (.int 2) k=k (.d (.int a.other)):=by show(∃v,Ud _ _=some v/\_)=_;simp only[Po,Yo,Zg]
theorem ML{a:Vo}{k:L->Prop}:aI (d6 a) (.int 3) k=k (.d (UV a.size)):=by show(∃v,Ud _ _=some v/\_)=_;simp only[Pp,Yo,Zg]
theorem Pu{q:Rat}{k:L->Prop}:aI (UV q) (.int 0) k=k (.d (.int q.num)):=by show(∃v,Ud _ _=some v/\_)=_;simp only[yR,Yo,Zg]
theorem Pv{q:Rat}{k:L->Prop}:aI (UV q) (.int 1) k=k (.d (.int (q.den:Int))):=by show(∃v,Ud _ _=some v/\_)=_;simp only[AM,Yo,Zg]
theorem KQ(q:Rat):U0 (UV q)=true:=by simp[UV,U0,Ah]
theorem rd{α:Type}{f:α->D}:∀(xs:List α),(∀x∈xs,U0 (f x)=true)->Ah (xs.map f)=true
 |[],_=>rfl
 |x::xs,h=>by simp[Ah,h x XU,rd xs λy hy=>h y (p3 _ hy)]
theorem Ck(qs:List Rat):Ah (qs.map UV)=true:=rd _ λq _=>KQ q
theorem FQ{α:Type}(f:α->Int)(xs:List α):Ah (xs.map λx=>D.int (f x))=true:=rd _ λ_ _=>rfl
theorem FR(R:aD):R.rooms.length=R.n:=rfl
noncomputable def oV(w:Bool):Str:=if w then "on" else "back"
theorem Cm:dj (.str "on"):=d5 (n:=0) y_ xp
theorem vp:dj (.str "back"):=d5 (n:=0) y_ xp
theorem yW(w:Bool):dj (.str (oV w)):=by
 cases w
 . exact vp
 . exact Cm
theorem Pw(w:Bool):(oV w="on")=(w=true):=by cases w <;> simp[oV] <;> decide
theorem Jh(w:Bool):(oV w="back")=(w=false):=by cases w <;> simp[oV] <;> decide
theorem FT{is:List Nat}{xs:List D}{ρ:Ev}{k:Ev->Prop}:dO is (.tup xs) ρ k=ir is xs ρ k:=rfl
theorem FU{is:List Nat}{a:Vo}{ρ:Ev}{k:Ev->Prop}:dO is (d6 a) ρ k=ir is [.str a.nm,.int a.one,.int a.other,UV a.size] ρ k:=rfl
theorem Ji{is:List Nat}{q:Rat}{ρ:Ev}{k:Ev->Prop}:dO is (UV q) ρ k=ir is [.int q.num,.int (q.den:Int)] ρ k:=rfl
theorem KR{α:Type}{xs:List α}{k:Nat}(h:k<=xs.length):rM xs none (some (k:Int))=xs.take k:=by unfold rM HT.sIx;simp only[if_neg (show ¬((k:Int)<0) by omega),List.drop_zero,Nat.sub_zero,Yx,aaa h]
theorem Cn{α:Type}{xs:List α}{k:Nat}(h:k<=xs.length):rM xs (some (k:Int)) none=xs.drop k:=by unfold rM HT.sIx;simp only[if_neg (show ¬((k:Int)<0) by omega),Yx,aaa h];rw[Yy];rw[YS];exact XZ _
theorem AO{xs:List D}{k:List D->Prop}:jy (.lst xs) k=k xs:=rfl
theorem AQ{xs:List D}{k:List D->Prop}:jy (.tup xs) k=k xs:=rfl
theorem Dr{q:Rat}{k:List D->Prop}:jy (UV q) k=k [.int q.num,.int (q.den:Int)]:=rfl
theorem FV{xs:List D}{k:L->Prop}:cn [.lst xs] k=k (.d (.int xs.length)):=rfl
theorem FW{xs:List D}{k:L->Prop}:cn [.tup xs] k=k (.d (.int xs.length)):=rfl
theorem FY{x:Str}{k:L->Prop}:cn [.str x] k=(x.length<=sizeLine/\k (.d (.int x.length))):=rfl
theorem Jj{q:Rat}{k:L->Prop}:cn [UV q] k=k (.d (.int 2)):=rfl
theorem Ds{R:aD}{k:L->Prop}:cn [aX R] k=k (.d (.int 2)):=rfl
theorem FZ{a:Vo}{k:L->Prop}:cn [d6 a] k=k (.d (.int 4)):=rfl
theorem AR(q:Rat):lh "tuple" (UV q)=true:=rfl
theorem AS(q:Rat):lh "list" (UV q)=false:=rfl
theorem AU(q:Rat):lh "int" (UV q)=false:=rfl
theorem yX(q:Rat):lh "bool" (UV q)=false:=rfl
theorem AV(q:Rat):lh "str" (UV q)=false:=rfl
theorem wq(R:aD):lh "tuple" (aX R)=true:=rfl
noncomputable def Vp(n:Nat)(f:Nat->Rat):List D:=(List.range n).map λ(t:Nat)=>UV (f t)
theorem MM(n:Nat)(f:Nat->Rat):(Vp n f).length=n:=by simp[Vp]
theorem KS{n:Nat}{f:Nat->Rat}{t:Nat}(h:t<n):Ud (Vp n f) (t:Int)=some (UV (f t)):=by refine gD ?_;unfold Vp;rw[X1,Yn h];rfl
theorem F0(n:Nat)(f:Nat->Rat):Vp n f=((List.range n).map f).map UV:=by unfold Vp;rw[Yd];rfl
theorem Jk(n:Nat)(f:Nat->Rat):Ah (Vp n f)=true:=by rw[F0];exact Ck _
noncomputable def ig(c:Nat×Nat):D:=.tup [.int (c.1:Int),.int (c.2:Int)]
theorem MN{c:Nat×Nat}{k:L->Prop}:aI (ig c) (.int 0) k=k (.d (.int c.1)):=by show(∃v,Ud _ _=some v/\_)=_;simp only[yR,Yo,Zg]
theorem MO{c:Nat×Nat}{k:L->Prop}:aI (ig c) (.int 1) k=k (.d (.int c.2)):=by show(∃v,Ud _ _=some v/\_)=_;simp only[AM,Yo,Zg]
theorem MP(n:Nat)(c:Nat×Nat):UW (n+1) (ig c)=true:=by cases n<;>simp[ig,UW,p7]
theorem F4(c:Nat×Nat):U0 (ig c)=true:=by simp[ig,U0,Ah]
theorem F5(c:Nat×Nat):dj (ig c):=d5 (MP 0 c) xp
theorem MQ(c d:Nat×Nat):UL (ig c) (ig d)=decide (c=d):=by
 unfold ig;rw[Fi,jA,jA,v9,o4,o4,Bool.and_true,<- Bool.decide_and,YA];constructor
 . rintro⟨h1,h2⟩;exact Prod.ext xL xL
 . rintro rfl;exact⟨rfl,rfl⟩
noncomputable def gP(g:Rat×(Nat×Nat)):D:=.tup [UV g.1,ig g.2]
theorem Rm{g:Rat×(Nat×Nat)}{k:L->Prop}:aI (gP g) (.int 0) k=k (.d (UV g.1)):=by show(∃v,Ud _ _=some v/\_)=_;simp only[yR,Yo,Zg]
theorem Rn{g:Rat×(Nat×Nat)}{k:L->Prop}:aI (gP g) (.int 1) k=k (.d (ig g.2)):=by show(∃v,Ud _ _=some v/\_)=_;simp only[AM,Yo,Zg]
theorem Jl(T:String):lh T .non=(T == "NoneType"):=rfl
theorem MR(T:String)(b:Bool):lh T (.bl b)=(T == "bool" ||T == "int"):=rfl
theorem Jm(T:String)(i:Int):lh T (.int i)=(T == "int"):=rfl
theorem Jn(T:String)(x:Str):lh T (.str x)=(T == "str"):=rfl
theorem Jo(T:String)(xs:List D):lh T (.tup xs)=(T == "tuple"):=rfl
theorem Jp(T:String)(xs:List D):lh T (.lst xs)=(T == "list"):=rfl
theorem Dt(g:Rat×(Nat×Nat)):lh "tuple" (gP g)=true:=rfl
theorem yY(c:Nat×Nat):lh "tuple" (ig c)=true:=rfl
theorem yZ(a:Vo):lh "tuple" (d6 a)=true:=rfl
theorem F6{c:Nat×Nat}{k:L->Prop}:cn [ig c] k=k (.d (.int 2)):=rfl
theorem MS{c:Rat×(Nat×Nat)}{k:L->Prop}:cn [gP c] k=k (.d (.int 2)):=rfl
theorem F7(cs:List (Nat×Nat)):Ah (cs.map ig)=true:=rd _ λc _=>F4 c
end L2
namespace L2
open PySem PySem.Builtin.Str
theorem MT{x y:Str}(h:x.cps.toList=y.cps.toList):x=y:=by cases x;cases y;exact Zy Str.mk (Array.toList_inj.mp h)
theorem Jq{x:Str}{j:Int}(h0:0<=j)(h2:j<=x.length):(Txt.slice x none (some j)).cps.toList=x.cps.toList.take j.toNat:=by have:=eq_of_beq (PyProof.Rows.slice_closes_toL h0 h2);rw[this];simp
theorem Du{x:Str}{i:Int}(h0:0<=i)(h2:i<=x.length):(Txt.slice x (some i) none).cps.toList=x.cps.toList.drop i.toNat:=by
 rw[PyProof.Rows.slice_from_eq h0 h2 rfl];have e:x.cps.toList.length=x.length:=by simp[Str.length]
 rw[Yy];rw[YS,e];omega
theorem nD(x y:Str):(x++y).cps.toList=x.cps.toList++y.cps.toList:=by show(x.cps++y.cps).toList=_;simp
theorem kM(x:Str):x.length=x.cps.toList.length:=by simp[Str.length]
def sj(c:Nat):Prop:=97<=c/\c<=122
structure HJ (z:Str):Prop where
 lo:1<=z.cps.toList.length
 hi:z.cps.toList.length<=8
 let_:∀c∈z.cps.toList,sj c
theorem HJ.ok{z:Str}(h:HJ z):PyData.strOk z=true:=by unfold PyData.strOk;rw[<- Array.all_toList,List.all_eq_true];intro c hc;have:=h.let_ c hc;unfold sj at this;simp;omega
noncomputable def wu:Str:="abcdefghijklmnopqrstuvwxyz"
theorem y3:wu.cps.toList=(List.range 26).map (·+97):=by decide
theorem vq{i:Int}(h0:0<=i)(h1:i<26):Ud wu.cps.toList i=some (i.toNat+97):=by refine KO h0 ?_;rw[y3,X1,Yn xL];rfl
theorem vt:∀(zs:List Str),(Str.join "" zs).cps.toList=(zs.map λz=>z.cps.toList).flatten
 |[]=>rfl
 |[x]=>by simp[Str.join]
 | x::y::r=>by have ih:=vt (y::r);show(x++("" : Str)++Str.join "" (y::r)).cps.toList=_;rw[nD,nD,ih];show x.cps.toList++[]++_=_;simp
theorem Jr(zs:List Str):(Txt.join "" zs).cps.toList=(zs.map λz=>z.cps.toList).flatten:=by rw[eq_of_beq (PyProof.Rows.join_closes (sep:="") (sep':="") (ys:=zs) rfl),vt]
theorem y4:∀cs:List Nat,(cs.map λc=>[c]).flatten=cs
 |[]=>rfl
 |c::cs=>by rw[X7,List.flatten_cons,y4 cs];rfl
theorem pd(cs:List Nat):(Txt.join "" (cs.map λc=>(⟨#[c]⟩:Str))).cps.toList=cs:=by rw[Jr,Yd];exact y4 cs
theorem Co:∀cs:List Nat,((cs.map λc=>(⟨#[c]⟩:Str)).map (·.length)).sum=cs.length
 |[]=>rfl
 | c::cs=>by rw[X7,X7,List.sum_cons,Co cs,Y3];show 1+_=_;omega
noncomputable def nameAt(b:Str)(p t k:Nat):Str:=⟨(b.cps.toList.take p++[(t+k) % 26+97]++b.cps.toList.drop (p+1)).toArray⟩
theorem F8{b:Str}{p t k:Nat}(h:HJ b)(hp:p<b.cps.toList.length):HJ (nameAt b p t k):=by
 have e:(nameAt b p t k).cps.toList=b.cps.toList.take p++[(t+k) % 26+97]++b.cps.toList.drop (p+1):=by simp[nameAt]
 have l:(b.cps.toList.take p++[(t+k) % 26+97]++b.cps.toList.drop (p+1)).length=b.cps.toList.length:=by rw[Yw,Yw,YK,YS,Y9];omega
 refine⟨by rw[e,l];exact h.lo,by rw[e,l];exact h.hi,λc hc=>?_⟩;rw[e]at hc;rcases Ys.mp hc with hc|hc
 .
  rcases Ys.mp hc with hc|hc
  . exact h.let_ c (aaj hc)
  . rw[YB.mp hc];unfold sj;have:=YW (t+k) (y:=26) xp;omega
 . exact h.let_ c (List.mem_of_mem_drop hc)
theorem Dv{b:Str}{p t j k:Nat}(hp:p<b.cps.toList.length)(hj:j<26)(hk:k<26)(h:nameAt b p t j=nameAt b p t k):j=k:=by
 have e:b.cps.toList.take p++[(t+j) % 26+97]++b.cps.toList.drop (p+1)=b.cps.toList.take p++[(t+k) % 26+97]++b.cps.toList.drop (p+1):=by have:=Zy (λz:Str=>z.cps.toList) h;simpa[nameAt]using this
 rw[YU,YU]at e;have e2:=List.append_cancel_left e;have e3:=(List.cons.inj e2).1;omega
theorem y6{α β:Type}{f:α->β}:∀{xs:List α},xs.Nodup->(∀x∈xs,∀y∈xs,f x=f y->x=y)->(xs.map f).Nodup
 |[],_,_=>List.nodup_nil
 | x::xs,hn,h=>by rw[X7,Yr];obtain⟨h1,h2⟩:=Yr.mp hn;refine⟨λhm=>?_,y6 h2 λa ha b hb=>h a (p3 _ ha) b (p3 _ hb)⟩;obtain⟨y,hy,e⟩:=XY.mp hm;have:=h y (p3 _ hy) x XU e;rw[this]at hy;exact h1 hy
theorem Js{q:Rat}(h:RB 60 q):q<((2^300:Nat):Rat):=by
 have h1:=FO q;have hd:(1:Rat)<=(q.den:Rat):=by have:=q.den_pos;exact_mod_cast this
 have h2:(q.num:Rat)<((2^300:Nat):Rat):=by
  have h3:q.num<((2^300:Nat):Int):=by have:=XX h.1 (X9 (show 0<2 by decide) (show 60<=300 by decide));omega
  exact Rat.intCast_lt_intCast.mpr h3
 have hV:(0:Rat)<((2^300:Nat):Rat):=Z9.mpr (Nat.pow_pos xp);generalize ((2^300:Nat):Rat)=V at *;refine Rat.not_le.mp λhq=>?_;have h4:V*1<=q*(q.den:Rat):=ZG (Rat.mul_le_mul_of_nonneg_left hd (ZT hV)) (Zs hq (by grind));rw[<- h1]at h4;grind
noncomputable def N7:List Vo->Nat
 |[]=>1
 |a::as=>a.size.den*N7 as
theorem Cp:∀as,0<N7 as
 |[]=>Nat.one_pos
 |a::as=>Nat.mul_pos a.size.den_pos (Cp as)
theorem Ga:∀{as:List Vo},(∀a∈as,RB 60 a.size)->N7 as<=2^(60*as.length)
 |[],_=>XZ 1
 | a::as,h=>by have h1:=(h a XU).2;have h2:=Ga (as:=as) λp hp=>h p (p3 _ hp);show a.size.den*N7 as<=2^(60*(as.length+1));rw[Nat.mul_add,Nat.mul_one,aar,Nat.mul_comm (2^_)];exact Nat.mul_le_mul (Za h1) h2
theorem Cq:∀{as:List Vo}{a:Vo},a∈as->a.size.den∣N7 as
 | b::as,a,h=>by
  rcases XW.mp h with rfl|h
  . exact Nat.dvd_mul_right _ _
  . exact Z3 (Cq h) (Nat.dvd_mul_left _ _)
theorem Px{as:List Vo}(h:∀a∈as,RB 60 a.size)(hl:as.length<=20):∃D:Nat,0<D/\D<2^1240/\∀a∈as,a.size.den∣D:=by refine⟨N7 as,Cp as,Yc (Ga h) (ZV xp xL),λa ha=>Cq ha⟩
end L2
namespace L2
open PySem
noncomputable def Vq(n i j:Nat):List Nat:=(List.range ((j+n-i) % n)).map λs=>(i+s) % n
noncomputable def uG(n i j:Nat):List Nat:=(List.range ((i+n-j) % n)).map λs=>(i+n-1-s) % n
noncomputable def Ai(n:Nat)(a:Vo)(w:Bool):List Nat:=if w then Vq n a.one a.other else uG n a.one a.other
theorem wx{n i j:Nat}(hi:i<n)(hj:j<n):(((j:Int)-i).fmod n)=(((j+n-i) % n:Nat):Int):=by
 rw[Yl _ xL];have e:((j:Int)-i) % n=((j:Int)-i+n) % n:=(Int.add_emod_right _ _).symm;rw[e];have:(j:Int)-i+n=((j+n-i:Nat):Int):=by omega
 rw[this];exact(Int.natCast_emod _ _).symm
theorem Jt{n i s:Nat}:(((i:Int)+s).fmod n)=(((i+s) % n:Nat):Int):=by rw[Yl _ xL,Int.natCast_emod,Int.natCast_add]
theorem Ju{n i s:Nat}(hn:0<n)(hs:s<n):(((i:Int)-1-s).fmod n)=(((i+n-1-s) % n:Nat):Int):=by
 rw[Yl _ xL];have e:((i:Int)-1-s) % n=((i:Int)-1-s+n) % n:=(Int.add_emod_right _ _).symm;rw[e];have:(i:Int)-1-s+n=((i+n-1-s:Nat):Int):=by omega
 rw[this];exact(Int.natCast_emod _ _).symm
noncomputable def Vr(n i j:Nat):Nat:=(j+n-i) % n
theorem sk{x n:Nat}(h:x<2*n):x % n=if x<n then x else x-n:=by
 by_cases hx:x<n
 . rw[if_pos hx,Y4 hx]
 . rw[if_neg hx,Nat.mod_eq_sub_mod xL,Y4 xL]
theorem dN{n i j:Nat}(hi:i<n)(hj:j<n):Vr n i j=if i<=j then j-i else j+n-i:=by unfold Vr;rw[sk xL];split<;>split<;>omega
theorem Gb(n i j:Nat):(Vq n i j).length=Vr n i j:=by simp[Vq,Vr]
theorem Cr(n i j:Nat):(uG n i j).length=Vr n j i:=by simp[uG,Vr]
theorem MU{n:Nat}{a:Vo}(h:c8 n a)(w:Bool):(Ai n a w).length<n:=by
 have h1:=h.one;have h2:=h.other;cases w
 . show(uG n a.one a.other).length<n;rw[Cr];exact YW _ xL
 . show(Vq n a.one a.other).length<n;rw[Gb];exact YW _ xL
theorem Gc{n i j:Nat}(hn:0<n):Vr n i j<n:=YW _ hn
theorem Cs{n i s:Nat}(hi:i<n)(hs:s<n):Vr n i ((i+s) % n)=s:=by have h1:=YW (i+s) (y:=n) xL;rw[dN hi h1,sk xL];split<;>split<;>omega
theorem wy{n i t:Nat}(hi:i<n)(ht:t<n):(i+Vr n i t) % n=t:=by have h1:=Gc (n:=n) (i:=i) (j:=t) xL;rw[sk xL,dN hi ht];split<;>split<;>omega
theorem Gd{n i j:Nat}(hi:i<n)(hj:j<n)(h:i≠j):Vr n i j+Vr n j i=n:=by rw[dN hi hj,dN hj hi];split<;>split<;>omega
theorem MV{n i j:Nat}(hi:i<n)(hj:j<n)(h:i≠j):0<Vr n i j:=by rw[dN hi hj];split<;>omega
theorem Py{n i j t:Nat}(hi:i<n):t∈Vq n i j↔t<n/\Vr n i t<Vr n i j:=by
 constructor
 . intro h;obtain⟨s,hs,rfl⟩:=XY.mp h;have hs:s<Vr n i j:=Yb.mp hs;have:=Gc (n:=n) (i:=i) (j:=j) xL;exact⟨YW _ xL,by rw[Cs hi xL];exact hs⟩
 . rintro⟨ht,h⟩;exact XY.mpr ⟨Vr n i t,Yb.mpr h,wy hi ht⟩
theorem Ge{n i s:Nat}(hi:i<n)(hs:s<n):(i+n-1-s) % n=(i+(n-1-s)) % n:=by
 congr 1
 omega
theorem Jv{n i j t:Nat}(hi:i<n)(hj:j<n)(hij:i≠j):t∈uG n i j↔t<n/\¬Vr n i t<Vr n i j:=by
 have hsum:=Gd hi hj hij;constructor
 . intro h;obtain⟨s,hs,rfl⟩:=XY.mp h;have hs:s<Vr n j i:=Yb.mp hs;refine⟨YW _ xL,?_⟩;rw[Ge hi xL,Cs hi xL];omega
 .
  rintro⟨ht,h⟩;have:=Gc (n:=n) (i:=i) (j:=t) xL;refine XY.mpr ⟨n-1-Vr n i t,Yb.mpr (show _<Vr n j i by omega),?_⟩;rw[Ge hi xL];have e:n-1-(n-1-Vr n i t)=Vr n i t:=by omega
  rw[e,wy hi ht]
noncomputable def b7(n:Nat)(a:Vo)(t:Nat):Bool:=decide (Vr n a.one t<Vr n a.one a.other)
theorem wz{n:Nat}{a:Vo}(h:c8 n a)(w:Bool){t:Nat}(ht:t<n):t∈Ai n a w↔(b7 n a t == w)=true:=by
 have h1:=h.one;have h2:=h.other;cases w
 . show t∈uG n a.one a.other↔_;rw[Jv h1 h2 h.ne];simp[b7,ht]
 . show t∈Vq n a.one a.other↔_;rw[Py h1];simp[b7,ht]
theorem KU{n i j:Nat}(hi:i<n)(hj:j<n)(hij:i≠j):Vq n j i=(uG n i j).reverse:=by
 have hsum:=Gd hi hj hij;refine YH (by rw[aan,Gb,Cr]) λs h1 h2=>?_;rw[Gb]at h1;have hp:=MV hi hj hij;rw[List.getElem_reverse];simp only[Vq,uG,YT,YV,tv,X6];have e:(i+n-j) % n=Vr n j i:=rfl;rw[e];have e2:j=(i+Vr n i j) % n:=(wy hi hj).symm;have e3:i+n-1-(Vr n j i-1-s)=i+Vr n i j+s:=by omega
 rw[e3]
 conv=>lhs;rw[e2]
 rw[Nat.mod_add_mod]
theorem Jw{n i j:Nat}(hi:i<n)(hj:j<n)(hij:i≠j):uG n j i=(Vq n i j).reverse:=by rw[KU hj hi (YE hij),List.reverse_reverse]
noncomputable def Gf(a:Vo):Vo:=⟨a.nm,a.other,a.one,a.size⟩
theorem Jx{n:Nat}{a:Vo}(h:c8 n a):c8 n (Gf a):=⟨h.other,h.one,YE h.ne,h.size,h.lt,h.nm⟩
theorem Jy{n:Nat}{a:Vo}(h:c8 n a)(w:Bool):Ai n (Gf a) w=(Ai n a !w).reverse:=by
 cases w
 . exact Jw h.one h.other h.ne
 . exact KU h.one h.other h.ne
theorem Gg{n:Nat}{a:Vo}(h:c8 n a){t:Nat}(ht:t<n):b7 n (Gf a) t=!b7 n a t:=by
 have e1:=wz (Jx h) true ht;have e2:=wz h false ht;rw[Jy h true,List.mem_reverse]at e1;have e3:=e1.symm.trans e2
 revert e3
 cases b7 n (Gf a) t<;>cases b7 n a t<;>simp
theorem wA(t:Nat):∀(T:List Nat),Up (.int (t:Int)) (T.map λ(s:Nat)=>D.int (s:Int))=decide (t∈T)
 |[]=>rfl
 | s::T=>by
  have ih:=wA t T;unfold Up at ih ⊢;rw[X7,ZS,ih];show(US (.int (s:Int)) (.int (t:Int)) ||_)=_;have e:US (.int (s:Int)) (.int (t:Int))=decide (t=s):=by show decide ((s:Int)=(t:Int))=_;rw[YA];omega
  rw[e];simp[Bool.decide_or]
theorem Gh(T:List Nat):(T.map λ(s:Nat)=>D.int (s:Int)).all qG=true:=by rw[List.all_eq_true];intro x hx;obtain⟨s,_,rfl⟩:=XY.mp hx;rfl
theorem RB.sum{b:Nat}:∀(qs:List Rat),(∀q∈qs,RB b q)->RB (1+(b+1)*qs.length) (df qs)
 |[],_=>RB.mono (m:=1) ⟨xp,xp⟩ xL
 | q::qs,h=>by have ih:=RB.sum qs λz hz=>h z (p3 _ hz);rw[aS];refine((h q XU).add ih).mono ?_;rw[Y3,Nat.mul_succ];omega
theorem AW{b:Nat}:∀(qs:List Rat),(∀q∈qs,RB b q)->yV qs<=2^(b*qs.length)
 |[],_=>XZ 1
 | q::qs,h=>by have ih:=AW qs λz hz=>h z (p3 _ hz);show q.den*yV qs<=_;refine X0 (Nat.mul_le_mul (Za (h q XU).2) ih) ?_;rw[<- aar,Y3,Nat.mul_succ];exact X9 xp xL
theorem nE:df []=0:=rfl
theorem y7(qs:List Rat)(q:Rat):df (qs++[q])=df qs+q:=by rw[q8,aS,nE,Rat.add_zero]
noncomputable def lu(n:Nat)(a:Vo)(p:Rat)(t:Nat):Rat:=if b7 n a t then p else a.size-p
noncomputable def cj(n:Nat)(as:List Vo)(ps:List Rat)(t:Nat):Rat:=df ((as.zip ps).map λx=>lu n x.1 x.2 t)
structure AX (R:aD) (ps:List Rat) (c:Nat):Prop where
 len:ps.length=R.asks.length
 lo:∀x∈R.asks.zip ps,0<=x.2/\x.2<=x.1.size
 rb:∀p∈ps,RB c p
theorem Ct{α β:Type}(as:List α)(bs:List β)(k:Nat):(as.zip bs).take k=(as.take k).zip (bs.take k):=by unfold List.zip;exact List.take_zipWith
theorem Jz{α β:Type}{as:List α}{bs:List β}{k:Nat}(h1:k<as.length)(h2:k<bs.length):(as.take (k+1)).zip (bs.take (k+1))=(as.take k).zip (bs.take k)++[(as[k],bs[k])]:=by rw[<- Ct,<- Ct,Z6,gV (by rw[Zp];omega),ZC];rfl
theorem Dw{n:Nat}{as:List Vo}{ps:List Rat}{k:Nat}(h1:k<as.length)(h2:k<ps.length)(t:Nat):cj n (as.take (k+1)) (ps.take (k+1)) t=cj n (as.take k) (ps.take k) t+lu n as[k] ps[k] t:=by unfold cj;rw[Jz h1 h2,Yq];exact y7 _ _
theorem Gi{α β:Type}{xs:List α}{f:α->β}(n:Nat)(h:xs.length=n)(g:Nat->β)(hg:∀k (hk:k<xs.length),g k=f xs[k]):(List.range n).map g=xs.map f:=by subst h;refine YH x_ λj h1 h2=>?_;simp only[YT,YV];exact hg j (by simpa using h2)
theorem wB{α:Type}(f g:α->Rat):∀xs:List α,df (xs.map f)-df (xs.map g)=df (xs.map λx=>f x-g x)
 |[]=>by simp only[Zv,nE];grind
 | x::xs=>by have ih:=wB f g xs;rw[X7,X7,X7,aS,aS,aS,<- ih];grind
theorem Cu{α:Type}(f g:α->Rat):∀xs:List α,df (xs.map f)+df (xs.map g)=df (xs.map λx=>f x+g x)
 |[]=>by simp only[Zv,nE];grind
 | x::xs=>by have ih:=Cu f g xs;rw[X7,X7,X7,aS,aS,aS,<- ih];grind
theorem fC{α:Type}(f:α->Rat):∀xs:List α,(∀x∈xs,0<=f x)->0<=df (xs.map f)
 |[],_=>by simp[nE]
 | x::xs,h=>by have ih:=fC f xs λy hy=>h y (p3 _ hy);have h1:=h x XU;rw[X7,aS];grind
theorem MW{α:Type}(f g:α->Rat)(xs:List α)(h:∀x∈xs,f x<=g x):df (xs.map f)<=df (xs.map g):=by
 have e:=wB g f xs;have e2:=fC (λx=>g x-f x) xs λx hx=>by have:=h x hx;grind
 grind
theorem MX{α β γ:Type}(f:α->γ){as:List α}{bs:List β}(h:as.length<=bs.length):(as.zip bs).map (λx=>f x.1)=as.map f:=by
 have:(as.zip bs).map (λx=>f x.1)=((as.zip bs).map Prod.fst).map f:=by rw[Yd];rfl
 rw[this,List.map_fst_zip h]
theorem sr{n:Nat}{a:Vo}{p:Rat}(h0:0<=p)(h1:p<=a.size)(t:Nat):0<=lu n a p t/\lu n a p t<=a.size:=by
 unfold lu;split
 . exact⟨h0,h1⟩
 . constructor<;>grind
theorem JA{α:Type}{xs:List α}{x:α}(h:xs[xs.length-1]?=some x):Ud xs (-1)=some x:=by
 have hl:xs.length-1<xs.length:=(tu.mp h).1;unfold Ud Uc;rw[if_neg (by decide),if_pos (by omega)];show xs[_]?=_;have:(-1+(xs.length:Int)).toNat=xs.length-1:=by omega
 rw[this];exact h
noncomputable def g7(c:Nat×Nat)(p:Nat):Bool:=decide (c.1<p/\p<=c.2)
noncomputable def apart(c:Nat×Nat)(i j:Nat):Bool:=g7 c i != g7 c j
noncomputable def bz(as:List Vo)(c:Nat×Nat):Rat:=df ((as.filter λa=>apart c a.one a.other).map (·.size))
noncomputable def aD.room(R:aD)(t:Nat):Rat:=R.rooms.getD t 0
noncomputable def jC(R:aD)(c:Nat×Nat):Rat:=R.room c.1+R.room c.2
noncomputable def cG(R:aD)(c:Nat×Nat):Rat:=bz R.asks c / jC R c
def hC(n:Nat)(c:Nat×Nat):Prop:=c.1<=c.2/\c.2<n
noncomputable def jD(n:Nat):List (Nat×Nat):=(List.range n).flatMap λg=>(List.range (n-g)).map λi=>(g,g+i)
theorem kN{n:Nat}{c:Nat×Nat}:c∈jD n↔hC n c:=by
 unfold jD hC;rw[List.mem_flatMap];constructor
 . rintro⟨g,hg,h⟩;obtain⟨i,hi,rfl⟩:=XY.mp h;have:=Yb.mp hg;have:=Yb.mp hi;exact⟨Y2 _ _,by show g+i<n;omega⟩
 . rintro⟨h1,h2⟩;exact⟨c.1,Yb.mpr xL,XY.mpr ⟨c.2-c.1,Yb.mpr xL,by ext<;>simp;omega⟩⟩
theorem Cv{n:Nat}(h:n<=12):(jD n).length<=200:=by
 have:∀m:Fin 13,(jD m.1).length<=200:=by decide
 exact this ⟨n,xL⟩
theorem wD{R:aD}{t:Nat}(h:t<R.n):Ud (R.rooms.map UV) (t:Int)=some (UV (R.room t)):=by have h':t<R.rooms.length:=h;rw[cf h'];unfold aD.room;rw[k4,gV h'];rfl
theorem dQ{R:aD}(hR:R.Ok){t:Nat}(h:t<R.n):0<R.room t/\RB 80 (R.room t):=by have h':t<R.rooms.length:=h;unfold aD.room;rw[k4,gV h'];exact hR.room _ (X8 h')
theorem jE{R:aD}(hR:R.Ok){c:Nat×Nat}(h:hC R.n c):0<jC R c/\RB 161 (jC R c):=by have a:=dQ hR (t:=c.1) (by have:=h.1;have:=h.2;omega);have b:=dQ hR (t:=c.2) h.2;unfold jC;exact⟨by have:=a.1;have:=b.1;grind,a.2.add b.2⟩
theorem Dx{q:Rat}{D:Nat}{z:Int}(h0:0<D)(e:q*(D:Rat)=(z:Rat)):q.den∣D:=by
 have hQ:(D:Rat)≠0:=λw=>by have:=Z9.mpr h0;rw[w]at this;exact absurd this xp
 have e2:q=Rat.divInt z (D:Int):=by rw[Rat.divInt_eq_div];have:((D:Int):Rat)=(D:Rat):=rfl;rw[this,<- e,Rat.mul_div_cancel hQ]
 rw[e2];have:=Rat.den_divInt z (D:Int);rw[this,if_neg (by omega),Yh];exact Nat.div_dvd_of_dvd (Nat.gcd_dvd_left _ _)
theorem vv{q:Rat}{D:Nat}(h:q.den∣D):∃z:Int,q*(D:Rat)=(z:Rat):=by obtain⟨m,rfl⟩:=h;refine⟨q.num*(m:Int),?_⟩;rw[Rat.intCast_mul,FO];have e1:((m:Int):Rat)=(m:Rat):=rfl;have e2:((q.den*m:Nat):Rat)=(q.den:Rat)*(m:Rat):=Rat.natCast_mul _ _;rw[e1,e2,Rat.mul_assoc]
theorem Gj{p q:Rat}{D:Nat}(h0:0<D)(hp:p.den∣D)(hq:q.den∣D):(p+q).den∣D:=by obtain⟨a,ha⟩:=vv hp;obtain⟨b,hb⟩:=vv hq;exact Dx (z:=a+b) h0 (by rw[Rat.add_mul,ha,hb,Rat.intCast_add])
theorem AY{D:Nat}(h0:0<D):∀qs:List Rat,(∀q∈qs,q.den∣D)->(df qs).den∣D
 |[],_=>by show(0:Rat).den∣D;exact Nat.one_dvd _
 | q::qs,h=>by rw[aS];exact Gj h0 (h q XU) (AY h0 qs λp hp=>h p (p3 _ hp))
theorem AZ{V:Rat}(hV:0<=V):∀qs:List Rat,(∀q∈qs,q<V)->df qs<=(qs.length:Rat)*V
 |[],_=>by show(0:Rat)<=_;rw[List.length_nil];show(0:Rat)<=0*V;grind
 | q::qs,h=>by rw[aS,Y3];have h1:=h q XU;have h2:=AZ hV qs λp hp=>h p (p3 _ hp);have e:((qs.length+1:Nat):Rat)=(qs.length:Rat)+1:=Rat.natCast_add _ _;rw[e];grind
def Pz(qs:List Rat):Prop:=yV qs<2^9000∨∃D:Nat,0<D/\D<2^4400/\∀q∈qs,q.den∣D
theorem Dy{R:aD}(hR:R.Ok){as:List Vo}(hs:∀a∈as,a∈R.asks)(hl:as.length<=20)(c:Nat×Nat):RB 1546 (bz as c):=by
 obtain⟨D,d0,d1,hd⟩:=hR.cd;have hm:∀q∈(as.filter (λa=>apart c a.one a.other)).map (·.size),∃a∈R.asks,q=a.size:=λq hq=>by obtain⟨a,ha,rfl⟩:=XY.mp hq;exact⟨a,hs a (ZK.mp ha).1,rfl⟩
 have h1:(bz as c).den∣D:=AY d0 _ λq hq=>by obtain⟨a,ha,rfl⟩:=hm q hq;exact hd a ha
 have h0:0<=bz as c:=fC _ _ λa ha=>(hR.ask a (hs a (ZK.mp ha).1)).size;have hV:(0:Rat)<((2^300:Nat):Rat):=Z9.mpr (Nat.pow_pos xp);have h2:bz as c<=_:=AZ (ZT hV) _ λq hq=>by obtain⟨a,ha,rfl⟩:=hm q hq;exact(hR.ask a ha).lt
 have h3:((as.filter (λa=>apart c a.one a.other)).map (·.size)).length<=20:=by rw[tv];have:=ZO (λa:Vo=>apart c a.one a.other) as;omega
 have h4:bz as c<((2^306:Nat):Rat):=by
  have e:((2^306:Nat):Rat)=64*((2^300:Nat):Rat):=by rw[show(2^306:Nat)=64*2^300 by rw[show 306=6+300 from rfl,aar],Rat.natCast_mul];rfl
  rw[e];generalize ((2^300:Nat):Rat)=V at *;generalize ((as.filter (λa=>apart c a.one a.other)).map (·.size)).length=m at *;have h5:(m:Rat)*V<=20*V:=Zs (by exact_mod_cast h3) (ZT hV);grind
 exact(RB.of_val (v:=306) (d:=1240) h0 (Yc (aam d0 h1) d1) h4).mono xp
theorem y9{R:aD}(hR:R.Ok)(c:Nat×Nat):RB 1546 (bz R.asks c):=Dy hR (λ_ h=>h) hR.few c
theorem wF{R:aD}(hR:R.Ok)(c:Nat×Nat):0<=bz R.asks c:=fC _ _ λa ha=>(hR.ask a ((ZK.mp ha).1)).size
theorem Cw{R:aD}(hR:R.Ok){c:Nat×Nat}(h:hC R.n c):RB 1707 (cG R c):=by obtain⟨h1,h2⟩:=jE hR h;exact(y9 hR c).div h2 (by grind)
noncomputable def cV(R:aD)(acc:Rat×(Nat×Nat))(c:Nat×Nat):Rat×(Nat×Nat):=if acc.1<cG R c then(cG R c,c)else acc
theorem Gk{R:aD}{acc:Rat×(Nat×Nat)}{c:Nat×Nat}(h:acc.1<cG R c):cV R acc c=(cG R c,c):=if_pos h
theorem Gm{R:aD}{acc:Rat×(Nat×Nat)}{c:Nat×Nat}(h:¬acc.1<cG R c):cV R acc c=acc:=if_neg h
noncomputable def eL(R:aD):Rat×(Nat×Nat):=(jD R.n).foldl (cV R) (0,(0,0))
theorem A0(R:aD):cG R (0,0)=0:=by
 unfold cG bz;have:R.asks.filter (λa=>apart (0,0) a.one a.other)=[]:=by rw[List.filter_eq_nil_iff];intro a _;have e:∀p,g7 (0,0) p=false:=λp=>Yt (by show ¬(0<p/\p<=0);omega);unfold apart;rw[e,e];decide
 rw[this];show(0:Rat) / _=0;rw[aaq,Rat.zero_mul]
theorem Gn{n:Nat}(h:0<n):∃di,jD n=(0,0)::di:=by obtain⟨m,rfl⟩:∃m,n=m+1:=⟨n-1,xL⟩;unfold jD;rw[List.range_succ_eq_map,List.flatMap_cons];exact⟨_,by rw[Nat.sub_zero,List.range_succ_eq_map];rfl⟩
theorem za(R:aD):∀(cs:List (Nat×Nat))(acc:Rat×(Nat×Nat)),acc.1<=(cs.foldl (cV R) acc).1/\(∀c∈cs,cG R c<=(cs.foldl (cV R) acc).1)/\((cs.foldl (cV R) acc)=acc∨((cs.foldl (cV R) acc).2∈cs/\(cs.foldl (cV R) acc).1=cG R (cs.foldl (cV R) acc).2))
 |[],acc=>⟨YZ,λc hc=>by simp at hc,.inl rfl⟩
 | c::cs,acc=>by
  obtain⟨h1,h2,h3⟩:=za R cs (cV R acc c);rw[aav]
  have g1:acc.1<=(cV R acc c).1/\cG R c<=(cV R acc c).1:=by
   unfold cV;split
   . rename_i h;exact⟨ZT h,YZ⟩
   . rename_i h;exact⟨YZ,Rat.not_lt.mp h⟩
  refine⟨ZG g1.1 h1,λd hd=>?_,?_⟩
  .
   rcases XW.mp hd with rfl|hd
   . exact ZG g1.2 h1
   . exact h2 d hd
  .
   rcases h3 with h3|⟨h3,h4⟩
   .
    rw[h3];unfold cV;split
    . exact .inr ⟨XU,rfl⟩
    . exact .inl rfl
   . exact .inr ⟨p3 _ h3,h4⟩
theorem pf{R:aD}(hR:R.Ok):hC R.n (eL R).2/\(eL R).1=cG R (eL R).2/\(∀c,hC R.n c->cG R c<=(eL R).1)/\0<=(eL R).1:=by
 have hlo:=hR.lo;obtain⟨h1,h2,h3⟩:=za R (jD R.n) (0,(0,0));refine⟨?_,?_,λc hc=>h2 c (kN.mpr hc),h1⟩
 .
  rcases h3 with h3|⟨h3,_⟩
  . unfold eL;rw[h3];exact⟨XZ _,by show 0<R.n;omega⟩
  . exact kN.mp h3
 .
  rcases h3 with h3|⟨_,h4⟩
  . unfold eL;rw[h3];exact(A0 R).symm
  . exact h4
theorem Gp{R:aD}(hR:R.Ok):RB 1707 (eL R).1:=by obtain⟨h1,h2,_⟩:=pf hR;rw[h2];exact Cw hR h1
noncomputable def bg(R:aD)(ps:List Rat)(t:Nat):Rat:=cj R.n R.asks ps t / R.room t
noncomputable def Dz(n:Nat)(f:Nat->Rat):Nat:=(List.range n).foldl (λb t=>if f b<f t then t else b) 0
theorem Cy(f:Nat->Rat):∀(ts:List Nat)(b:Nat),(∀t∈ts,f t<=f (ts.foldl (λb t=>if f b<f t then t else b) b))/\f b<=f (ts.foldl (λb t=>if f b<f t then t else b) b)/\(ts.foldl (λb t=>if f b<f t then t else b) b=b∨ts.foldl (λb t=>if f b<f t then t else b) b∈ts)
 |[],b=>⟨λt ht=>by simp at ht,YZ,.inl rfl⟩
 | s::ts,b=>by
  obtain⟨h1,h2,h3⟩:=Cy f ts (if f b<f s then s else b)
  rw[aav]
  have g:f b<=f (if f b<f s then s else b)/\f s<=f (if f b<f s then s else b):=by
   split
   . rename_i h;exact⟨ZT h,YZ⟩
   . rename_i h;exact⟨YZ,Rat.not_lt.mp h⟩
  refine⟨λt ht=>?_,ZG g.1 h2,?_⟩
  .
   rcases XW.mp ht with rfl|ht
   . exact ZG g.2 h2
   . exact h1 t ht
  .
   rcases h3 with h3|h3
   .
    rw[h3];split
    . exact .inr XU
    . exact .inl rfl
   . exact .inr (p3 _ h3)
theorem A1{n:Nat}(hn:0<n)(f:Nat->Rat):Dz n f<n/\∀t,t<n->f t<=f (Dz n f):=by
 obtain⟨h1,_,h3⟩:=Cy f (List.range n) 0;refine⟨?_,λt ht=>h1 t (Yb.mpr ht)⟩;rcases h3 with h3|h3
 . unfold Dz;rw[h3];exact hn
 . exact Yb.mp h3
theorem MY(n:Nat)(f:Nat->Rat):eZ (Vp n f)=(List.range n).map λ(t:Nat)=>D.tup [.int (t:Int),UV (f t)]:=by unfold eZ Vp;refine YH x_ λj h1 h2=>?_;simp
theorem JB(R:aD):R.rooms.map UV=Vp R.n R.room:=by
 rw[F0]
 congr 1
 refine YH (by simp[aD.n]) λj h1 h2=>?_;simp[aD.room,h1]
theorem MZ(n:Nat)(f g:Nat->Rat):o5 (Vp n f) (Vp n g)=(List.range n).map λ(t:Nat)=>D.tup [UV (f t),UV (g t)]:=by unfold o5 Vp;refine YH x_ λj h1 h2=>?_;simp
theorem Gq{n : Nat}{a : Vo}(h : c8 n a){t : Nat}(ht : t<n) : b7 n a t = ((decide (a.one <= t) != decide (a.other <= t)) != decide (a.other<a.one)) := by
  have h1 := h.one;have h2 := h.other;have hne := h.ne;unfold b7;rw[dN h1 ht, dN h1 h2];by_cases a1 : a.one <= t<;>by_cases a2 : a.other <= t<;>by_cases a3 : a.other<a.one<;>by_cases a4 : a.one <= a.other
  all_goals
    simp only[a1, a2, a3, a4, Zh, ZH, decide_true, decide_false]
  all_goals first
    |omega
    | (first
        |(rw[Y6 xL];rfl)
        |(rw[Yt xL];rfl))
theorem jF{n:Nat}{a:Vo}(h:c8 n a){c:Nat×Nat}(hc:hC n c):apart c a.one a.other=(b7 n a c.1 != b7 n a c.2):=by
 have h1:=hc.1;have h2:=hc.2;rw[Gq h xL,Gq h h2];unfold apart g7
 have e:∀p:Nat,decide (c.1<p/\p<=c.2)=(decide (p<=c.1) != decide (p<=c.2)):=λp=>by
  by_cases q1:p<=c.1<;>by_cases q2:p<=c.2
  . rw[Yt xL];simp[q1,q2]
  . omega
  . rw[Y6 xL];simp[q1,q2]
  . rw[Yt xL];simp[q1,q2]
 rw[e,e];cases decide (a.one<=c.1)<;>cases decide (a.one<=c.2)<;>cases decide (a.other<=c.1)<;>cases decide (a.other<=c.2)<;>cases decide (a.other<a.one)<;>rfl
theorem JC{n:Nat}{a:Vo}(h:c8 n a){c:Nat×Nat}(hc:hC n c)(p:Rat)(ha:apart c a.one a.other=true):lu n a p c.1+lu n a p c.2=a.size:=by
 rw[jF h hc]at ha;unfold lu
 revert ha
 cases b7 n a c.1<;>cases b7 n a c.2<;>intro ha
 . cases ha
 . simp only[YL,ZH,Zh];grind
 . simp only[YL,ZH,Zh];grind
 . cases ha
theorem DA{as:List Vo}{ps:List Rat}(hl:as.length<=ps.length)(c:Nat×Nat):bz as c=df ((as.zip ps).map λx=>if apart c x.1.one x.1.other=true then x.1.size else 0):=by
 rw[MX (λa:Vo=>if apart c a.one a.other=true then a.size else 0) hl]
 unfold bz
 induction as with
 |nil=>rfl
 | cons a as ih =>
  have ih:=ih (X0 x_ hl);rw[X7,aS,<- ih,YM];split
  . rw[X7,aS]
  . rw[aau]
theorem JD{R:aD}(hR:R.Ok){ps:List Rat}{b:Nat}(hp:AX R ps b){c:Nat×Nat}(hc:hC R.n c):bz R.asks c<=cj R.n R.asks ps c.1+cj R.n R.asks ps c.2:=by
 have hl:=hp.len;rw[DA (ps:=ps) xL];unfold cj;rw[Cu];refine MW _ _ _ λx hx=>?_;obtain⟨h1,_⟩:=ZY (a:=x.1) (b:=x.2) hx;obtain⟨a1,a2⟩:=hp.lo x hx;have b1:=(sr (n:=R.n) a1 a2 c.1).1;have b2:=(sr (n:=R.n) a1 a2 c.2).1;split
 . rename_i e;rw[JC (hR.ask _ h1) hc x.2 e];exact YZ
 . grind
theorem su{a b c:Rat}(hb:0<b):a / b<=c↔a<=c*b:=by rw[<- Rat.not_lt,<- Rat.not_lt,Rat.lt_div_iff hb]
theorem vw{R:aD}(hR:R.Ok){ps:List Rat}{t:Nat}(ht:t<R.n):cj R.n R.asks ps t<=bg R ps (Dz R.n (bg R ps))*R.room t:=by have hlo:=hR.lo;have h:=(A1 (n:=R.n) xL (bg R ps)).2 t ht;have hr:=(dQ hR ht).1;exact(su hr).mp h
theorem M3{R:aD}(hR:R.Ok){ps:List Rat}{b:Nat}(hp:AX R ps b){c:Nat×Nat}(hc:hC R.n c):cG R c<=bg R ps (Dz R.n (bg R ps)):=by
 have h1:c.1<R.n:=by have:=hc.1;have:=hc.2;omega
 have e1:=vw hR (ps:=ps) h1;have e2:=vw hR (ps:=ps) hc.2;have e3:=JD hR hp hc;have r:=(jE hR hc).1;refine(su r).mpr ?_;unfold jC;generalize bg R ps (Dz R.n (bg R ps))=T at e1 e2 ⊢;rw[Rat.mul_add];grind
noncomputable def aD.sz(R:aD)(k:Nat):Rat:=(R.asks.map (·.size)).getD k 0
end L2
namespace My
open PySem L2
noncomputable def aB(R:aD)(j:Nat):Vo:=(R.asks[j]?).getD ⟨"",0,0,0⟩
noncomputable def Vs(R:aD)(j t:Nat):Bool:=b7 R.n (aB R j) t
noncomputable def dI(R:aD)(w:Nat->Int)(k g h:Nat):Int:=((List.range (R.asks.length-k)).map λi=>if Vs R (k+i) g != Vs R (k+i) h then w (k+i)else 0).sum
theorem gi{R:aD}(hR:R.Ok){j:Nat}(h:j<R.asks.length):c8 R.n (aB R j):=by unfold aB;rw[gV h];exact hR.ask _ (X8 h)
theorem d7{R:aD}{j:Nat}(h:j<R.asks.length):aB R j=R.asks[j]:=by unfold aB;rw[gV h];rfl
def SR(R:aD)(w f:Nat->Int)(k:Nat):Prop:=∀g h,g<R.n->h<R.n->dI R w k g h<=f g+f h/\(f g+f h-dI R w k g h) % 2=0
noncomputable def JE(R:aD)(w f:Nat->Int)(k:Nat)(p:Int)(t:Nat):Int:=f t-if Vs R k t then p else w k-p
noncomputable def Vt(i j:Int):Int:=if j<i then j else i
noncomputable def Vu(R:aD)(k:Nat):List Nat:=(W.sortI ((Ai R.n (aB R k) true).map λ(t:Nat)=>(t:Int))).map Int.toNat
theorem JF(R:aD)(k:Nat):W.sortI ((Ai R.n (aB R k) true).map λ(t:Nat)=>(t:Int))=(Vu R k).map λ(t:Nat)=>(t:Int):=by
 unfold Vu;rw[Yd];have:∀x∈W.sortI ((Ai R.n (aB R k) true).map λ(t:Nat)=>(t:Int)),((λ(t:Nat)=>(t:Int)) ∘ Int.toNat) x=x:=λx hx=>by obtain⟨t,_,rfl⟩:=XY.mp ((W.sortI_perm _).mem_iff.mp hx);rfl
 exact((Yu this).trans (List.map_id' _)).symm
theorem M4{R:aD}{k t:Nat}:t∈Vu R k↔t∈Ai R.n (aB R k) true:=by
 unfold Vu;constructor
 . intro h;obtain⟨x,hx,rfl⟩:=XY.mp h;obtain⟨s,hs,rfl⟩:=XY.mp ((W.sortI_perm _).mem_iff.mp hx);exact hs
 . intro h;exact XY.mpr ⟨(t:Int),(W.sortI_perm _).mem_iff.mpr (XY.mpr ⟨t,h,rfl⟩),rfl⟩
theorem PD{n:Nat}{a:Vo}(h:c8 n a){t:Nat}(ht:t∈Ai n a true):t<n:=by have h1:=h.one;unfold Ai Vq at ht;simp only[Zh]at ht;obtain⟨s,_,rfl⟩:=XY.mp ht;exact YW _ xL
theorem M5{R:aD}(hR:R.Ok){k:Nat}(hk:k<R.asks.length){t:Nat}:t∈Vu R k↔t<R.n/\Vs R k t=true:=by
 have ha:=gi hR hk;rw[M4];constructor
 . intro h;have ht:=PD ha h;have:=(wz ha true ht).mp h;exact⟨ht,by unfold Vs;simpa using this⟩
 . rintro⟨ht,h⟩;refine(wz ha true ht).mpr ?_;unfold Vs at h;rw[h];rfl
noncomputable def R4(R:aD)(w f:Nat->Int)(k g h:Nat):Int:=f g+f h-dI R w (k+1) g h
noncomputable def sx(R:aD)(w f:Nat->Int)(k:Nat)(acc:Int)(g:Nat)(hs:List Nat):Int:=hs.foldl (λt h=>if decide (g<=h)then Vt t (R4 R w f k g h)else t) acc
noncomputable def nF(R:aD)(w f:Nat->Int)(k:Nat)(gs:List Nat):Int:=gs.foldl (λt g=>sx R w f k t g (Vu R k)) (2*w k)
noncomputable def M6(R:aD)(w f:Nat->Int)(k:Nat):Int:=(nF R w f k (Vu R k)).fdiv 2
noncomputable def Vv(R:aD)(w f:Nat->Int):Nat->Nat->Int
 |0=>f
 |k+1=>JE R w (Vv R w f k) k (M6 R w (Vv R w f k) k)
noncomputable def Vw(R:aD)(w f:Nat->Int)(k:Nat):Int:=M6 R w (Vv R w f k) k
theorem Gr{t b:Int}(h:b≠0):(Rat.divInt t b).den∣b.natAbs:=by rw[Rat.den_divInt,if_neg h];exact Nat.div_dvd_of_dvd (by rw[Int.gcd];exact Nat.gcd_dvd_left _ _)
theorem A2(p q:Rat):(p*q).den∣p.den*q.den:=by
 have e:p*q=Rat.divInt (p.num*q.num) ((p.den:Int)*q.den):=by rw[<- Rat.divInt_mul_divInt,Zf,Zf]
 rw[e];have:=Gr (t:=p.num*q.num) (b:=(p.den:Int)*q.den) (aab (mi _) (mi _));rwa [Zj,Yh,Yh]at this
theorem JG(q:Rat):(q.num:Rat)=q*(q.den:Rat):=by
 have h:((q.den:Int):Rat)≠0:=λe=>mi q (by
  have:((q.den:Int):Rat)=((0:Int):Rat):=e
  exact Rat.intCast_inj.mp this)
 have e:q=(q.num:Rat) / ((q.den:Int):Rat):=by
  conv=>lhs;rw[<- Zf q,Rat.divInt_eq_div]
 have:=Rat.div_mul_cancel (a:=(q.num:Rat)) h;rw[<- e]at this;exact this.symm
noncomputable def Vx(qs:List Rat):Nat:=qs.foldl (λb q=>Nat.lcm b q.den) 1
theorem A3:∀(qs:List Rat)(b:Nat),b∣qs.foldl (λb q=>Nat.lcm b q.den) b/\(∀q∈qs,q.den∣qs.foldl (λb q=>Nat.lcm b q.den) b)/\∀P,b∣P->(∀q∈qs,q.den∣P)->qs.foldl (λb q=>Nat.lcm b q.den) b∣P
 |[],b=>⟨Nat.dvd_refl _,λq hq=>by simp at hq,λP h _=>h⟩
 | q::qs,b=>by
  obtain⟨h1,h2,h3⟩:=A3 qs (Nat.lcm b q.den);rw[aav];refine⟨Z3 (Nat.dvd_lcm_left _ _) h1,λp hp=>?_,λP hb hP=>h3 P (Nat.lcm_dvd hb (hP q XU)) λp hp=>hP p (p3 _ hp)⟩;rcases XW.mp hp with rfl|hp
  . exact Z3 (Nat.dvd_lcm_right _ _) h1
  . exact h2 p hp
theorem Gs{qs:List Rat}{q:Rat}(h:q∈qs):q.den∣Vx qs:=(A3 qs 1).2.1 q h
theorem M7{qs:List Rat}{P:Nat}(h:∀q∈qs,q.den∣P):Vx qs∣P:=(A3 qs 1).2.2 P (Nat.one_dvd _) h
noncomputable def nG(u:Nat)(q:Rat):Int:=q.num*((u / q.den:Nat):Int)
theorem nH{u:Nat}{q:Rat}(h:q.den∣u):((nG u q:Int):Rat)=q*(u:Rat):=by obtain⟨c,rfl⟩:=h;unfold nG;rw[Nat.mul_div_cancel_left _ (den_pos q),Rat.intCast_mul,JG,Rat.intCast_natCast,Rat.natCast_mul,Rat.mul_assoc]
theorem A4{u:Nat}{q:Rat}(h:0<=q):0<=nG u q:=Int.mul_nonneg (Rat.num_nonneg.mpr h) (Int.natCast_nonneg _)
noncomputable def lx(R:aD):List Rat:=R.asks.map (·.size)
noncomputable def uH(R:aD)(q:Rat):List Rat:=R.rooms.map λr=>q*r
noncomputable def Vy(R:aD)(q:Rat):Nat:=Vx (lx R++uH R q)
noncomputable def bU(R:aD)(q:Rat):Nat:=2*Vy R q
noncomputable def wI(R:aD)(q:Rat)(j:Nat):Int:=nG (bU R q) (aB R j).size
noncomputable def Vz(R:aD)(q:Rat)(t:Nat):Int:=nG (bU R q) (q*R.room t)
theorem JH{R:aD}{j:Nat}(h:j<R.asks.length)(q:Rat):(aB R j).size.den∣Vy R q:=by refine Gs (Yz _ (XY.mpr ⟨aB R j,?_,rfl⟩));rw[d7 h];exact X8 h
theorem JI{R:aD}{t:Nat}(h:t<R.n):R.room t∈R.rooms:=by unfold aD.room;have h':t<R.rooms.length:=h;rw[k4,gV h'];exact X8 h'
theorem JJ{R:aD}{t:Nat}(h:t<R.n)(q:Rat):(q*R.room t).den∣Vy R q :=
 Gs (Yj _ (XY.mpr ⟨R.room t,JI h,rfl⟩))
theorem Gu{a b:Nat}(h:a∣b):a∣2*b:=Z3 h (Nat.dvd_mul_left _ _)
theorem PF{R:aD}{q:Rat}{j:Nat}(h:j<R.asks.length):((wI R q j:Int):Rat)=(aB R j).size*(bU R q:Rat):=nH (Gu (JH h q))
theorem PH{R:aD}{q:Rat}{t:Nat}(h:t<R.n):((Vz R q t:Int):Rat)=q*R.room t*(bU R q:Rat):=nH (Gu (JJ h q))
theorem JK{R:aD}(hR:R.Ok)(q:Rat):∀j,j<R.asks.length->0<=wI R q j:=λj h=>A4 (gi hR h).size
theorem rf:∀{qs:List Rat}{q:Rat},q∈qs->q.den∣yV qs
 | p::qs,q,h=>by
  show q.den∣p.den*yV qs;rcases XW.mp h with rfl|h
  . exact Nat.dvd_mul_right _ _
  . exact Z3 (rf h) (Nat.dvd_mul_left _ _)
theorem Gv:∀{qs:List Rat},(∀q∈qs,RB 80 q)->yV qs<=2^(80*qs.length)
 |[],_=>XZ 1
 | q::qs,h=>by have h1:=(h q XU).2;have h2:=Gv λp hp=>h p (p3 _ hp);show q.den*yV qs<=2^(80*(qs.length+1));rw[Nat.mul_add,Nat.mul_one,aar,Nat.mul_comm (2^_)];exact Nat.mul_le_mul (Za h1) h2
theorem Gw(R:aD)(q:Rat):0<Vy R q:=by have hd:Vy R q∣yV (lx R++uH R q):=M7 λp hp=>rf hp;exact Nat.pos_of_dvd_of_pos hd (nB _)
theorem wG{R:aD}(hR:R.Ok){q:Rat}(hq:RB 1750 q):0<bU R q/\bU R q<2^3952:=by
 obtain⟨D,d0,d1,hD⟩:=hR.cd
 have hd:Vy R q∣D*(q.den*yV R.rooms):=by
  refine M7 λp hp=>?_;rcases Ys.mp hp with hp|hp
  . obtain⟨a,ha,rfl⟩:=XY.mp hp;exact Z3 (hD a ha) (Nat.dvd_mul_right _ _)
  . obtain⟨r,hr,rfl⟩:=XY.mp hp;refine Z3 (A2 q r) (Z3 (Nat.mul_dvd_mul_left _ (rf hr)) (Nat.dvd_mul_left _ _))
 have h1:D<=2^1240:=Za d1;have h2:yV R.rooms<=2^960:=by refine X0 (Gv λp hp=>(hR.room p hp).2) (X9 xp ?_);have:R.rooms.length<=12:=hR.hi;omega
 have h3:q.den<=2^1750:=Za hq.2;have h4:Vy R q<=D*(q.den*yV R.rooms):=aam (Nat.mul_pos d0 (Nat.mul_pos (den_pos _) (nB _))) hd;have h5:D*(q.den*yV R.rooms)<=2^1240*(2^1750*2^960):=Nat.mul_le_mul h1 (Nat.mul_le_mul h3 h2);have h6:2^1240*(2^1750*2^960)=2^3950:=by rw[<- aar,<- aar]
 rw[h6]at h5;have h0:=Gw R q;have h7:(2:Nat)^3951=2*2^3950:=by rw[Nat.pow_succ,Nat.mul_comm]
 have h8:(2:Nat)^3951<2^3952:=ZV xp xp;unfold bU;refine⟨xL,?_⟩;generalize (2:Nat)^3952=z at *;generalize (2:Nat)^3950=y at *;generalize (2:Nat)^3951=x at *;omega
theorem vx(R:aD):R.asks=(List.range R.asks.length).map (aB R):=by refine YH x_ λj h1 h2=>?_;rw[YT,YV,d7 h1]
theorem sy{α:Type}(p:α->Bool)(f:α->Rat):∀xs:List α,df ((xs.filter p).map f)=df (xs.map λa=>if p a then f a else 0)
 |[]=>rfl
 | x::xs=>by
  rw[YM,X7,aS,<- sy p f xs];cases p x
  . simp[aau]
  . simp[aS]
theorem jG(R:aD)(c:Nat×Nat):bz R.asks c=df ((List.range R.asks.length).map λj=>if apart c (aB R j).one (aB R j).other then(aB R j).size else 0):=by
 unfold bz;rw[sy]
 conv=>lhs;rw[vx R,Yd]
 rfl
noncomputable def pI(R:aD)(q:Rat)(k:Nat):Int:=Vw R (wI R q) (Vz R q) k
noncomputable def PJ(R:aD)(q:Rat)(k:Nat):Rat:=Rat.divInt (pI R q k) (bU R q:Int)
noncomputable def M8(R:aD)(q:Rat):List Rat:=(List.range R.asks.length).map (PJ R q)
theorem rZ{α β:Type}(f:Nat->α)(g:Nat->β)(m:Nat):((List.range m).map f).zip ((List.range m).map g)=(List.range m).map λk=>(f k,g k):=by rw[List.zip_map']
noncomputable def fE(n:Nat)(f:Nat->Int):List D:=(List.range n).map λ(t:Nat)=>D.int (f t)
theorem Cz(n:Nat)(f:Nat->Int):(fE n f).length=n:=by simp[fE]
theorem iE{n:Nat}{f:Nat->Int}{t:Nat}(h:t<n):Ud (fE n f) (t:Int)=some (.int (f t)):=by refine gD ?_;unfold fE;rw[X1,Yn h];rfl
theorem M9{a b:Nat}(h:0<b):((a:Int).fdiv (Int.gcd a b:Int))*(b:Int)=((Nat.lcm a b:Nat):Int):=by rw[Zl _ xL];show((a:Int) / ((Nat.gcd a b:Nat):Int))*(b:Int)=_;rw[<- Int.natCast_ediv,<- Int.natCast_mul,Nat.div_mul_right_comm (Nat.gcd_dvd_left a b)];rfl
theorem PN(R:aD)(q:Rat):(lx R).map (λp=>D.int (nG (bU R q) p))=fE R.asks.length (wI R q):=by
 unfold lx fE
 conv=>lhs;rw[vx R,Yd,Yd]
 rfl
theorem A5(R:aD):R.rooms=(List.range R.n).map R.room:=by refine YH (by simp[aD.n]) λj h1 h2=>?_;rw[YT,YV];unfold aD.room;rw[k4,gV h1];rfl
theorem PP(R:aD)(q:Rat):(uH R q).map (λp=>D.int (nG (bU R q) p))=fE R.n (Vz R q):=by
 unfold uH fE
 conv=>lhs;rw[A5 R,Yd,Yd]
 rfl
theorem iF(p:Nat->Bool)(g:Nat->Int):∀xs:List Nat,xs.filterMap (λi=>if p i=true then some (D.int (g i))else none)=((xs.filter p).map g).map D.int
 |[]=>rfl
 | x::xs=>by
  rw[Y0,YM];cases e:p x
  . simp[iF p g xs]
  . simp[iF p g xs]
theorem sD(p:Nat->Bool)(g:Nat->Int):∀xs:List Nat,((xs.filter p).map g).sum=(xs.map λi=>if p i=true then g i else 0).sum
 |[]=>rfl
 | x::xs=>by
  rw[YM,X7,List.sum_cons,<- sD p g xs];cases e:p x
  . simp
  . simp
end My
set_option exponentiation.threshold 2000
namespace L2
open PySem
theorem wH:∀{m n:Nat}(d:D),m<=n->UW m d=true->UW n d=true:=by
 intro m n d hmn h
 have:∀(m:Nat),(∀(n:Nat)(d:D),m<=n->UW m d=true->UW n d=true)/\∀(n:Nat)(ds:List D),m<=n->p7 m ds=true->p7 n ds=true:=by
  intro m
  induction m with
  | zero =>
   have h0:∀(n:Nat)(d:D),0<=n->UW 0 d=true->UW n d=true:=λn d _ h=>by cases d<;>cases n<;>simp_all [UW]
   refine⟨h0,λn ds hn h=>?_⟩
   induction ds with
   |nil=>simp[p7]
   |cons x xs ih=>simp only[p7,YI]at h ⊢;exact⟨h0 n x hn h.1,ih h.2⟩
  | succ m ih =>
   have h0:∀(n:Nat)(d:D),m+1<=n->UW (m+1) d=true->UW n d=true:=λn d hn h=>by
    obtain⟨k,rfl⟩:∃k,n=k+1:=⟨n-1,xL⟩;cases d<;>simp_all [UW]
    all_goals exact ih.2 k _ xL h
   refine⟨h0,λn ds hn h=>?_⟩
   induction ds with
   |nil=>simp[p7]
   |cons x xs ihx=>simp only[p7,YI]at h ⊢;exact⟨h0 n x hn h.1,ihx h.2⟩
 exact(this m).1 n d hmn h
theorem JL{g:Tg}{b:W Fl}{kz:Fl->Ev->Prop}{lo c:Int}(n:Nat)(I:Nat->Ev->Prop)(ρ:Ev)(h0:I 0 ρ)
  (step:∀j ρ,j<n->I j ρ->∀Q:Fl->Ev->Prop,(∀ρ',I (j+1) ρ'->Q .nx ρ')->(∀ρ',I (j+1) ρ'->Q .ct ρ')->(∀ρ',kz .nx ρ'->Q .bk ρ')->(∀r ρ',kz (.rt r) ρ'->Q (.rt r) ρ')->g (.int (lo+(j:Int)*c)) ρ λρ1=>b ρ1 Q)
  (done:∀ρ,I n ρ->kz .nx ρ):eX g b (Ea lo c n) ρ kz:=by
 refine kL _ (λj ρ=>I j ρ) ρ h0 ?_ ?_
 .
  intro j x ρ hj hI Q h1 h2 h3 h4;have hj':j<n:=by have:=(tu.mp hj).1;simpa[Ea]using this
  have ex:x=.int (lo+(j:Int)*c):=by unfold Ea at hj;rw[X1,Yn hj']at hj;exact(YN hj).symm
  subst ex;exact step j ρ hj' hI Q h1 h2 h3 h4
 .
  intro ρ hI;have e:(Ea lo c n).length=n:=by simp[Ea]
  rw[e]at hI;exact done ρ hI
theorem PQ{hi c:Int}{j:Nat}(hc:0<c)(h:j<KL 0 hi c):c*j<hi:=by
 unfold KL Builtin.Range.rangeSize at h;rw[if_pos hc]at h;split at h
 .
  rename_i h0;have h1:(j:Int)<=(hi-0-1) / c:=by omega
  have h2:c*(j:Int)<=c*((hi-0-1) / c):=Int.mul_le_mul_of_nonneg_left h1 xL;have h3:=Int.mul_ediv_self_le (x:=hi-0-1) (k:=c) xL;omega
 . omega
end L2
set_option exponentiation.threshold 5000
namespace My
open PySem L2
structure LB (R:aD) (ps:List Rat):Prop where
 p:∀p∈ps,RB 4302 p
 ld:∀k t,RB 4302 (cj R.n (R.asks.take k) (ps.take k) t)
 st:∀(k:Nat)(h1:k<R.asks.length)(h2:k<ps.length)(t:Nat),RB 4302 (lu R.n R.asks[k] ps[k] t)
 sm:∀t,Pz ((R.asks.zip ps).map λx=>lu R.n x.1 x.2 t)
theorem LB.all{R:aD}{ps:List Rat}(h:LB R ps)(hl:ps.length=R.asks.length)(t:Nat):RB 4302 (cj R.n R.asks ps t):=by have:=h.ld R.asks.length t;rwa [Yy (XZ _),Yy xL]at this
theorem Ro{R:aD}(hR:R.Ok){q:Rat}(hq:RB 1750 q){j:Nat}(h:j<R.asks.length):(wI R q j).natAbs<2^4252:=by
 have h1:=(wG hR hq).2;have h2:=yT (V:=2^300) (gi hR h).size (gi hR h).lt;unfold wI nG;rw[Zj,Yh];have h3:(aB R j).size.den*(bU R q / (aB R j).size.den)<=bU R q:=Nat.mul_div_le _ _;have e:(2:Nat)^4252=2^300*2^3952:=by rw[<- aar]
 have h4:(aB R j).size.num.natAbs*(bU R q / (aB R j).size.den)<=2^300*bU R q:=by refine X0 (Nat.mul_le_mul_right _ (Za h2)) ?_;rw[Nat.mul_assoc];exact Z1 _ h3
 rw[e];exact Yc h4 (Nat.mul_lt_mul_of_pos_left h1 (Nat.pow_pos xp))
noncomputable def zI(R:aD)(q:Rat)(t j:Nat):Int:=if b7 R.n (aB R j) t then pI R q j else wI R q j-pI R q j
theorem Na(ys:List D):UL (.lst ys) (.lst [])=ys.isEmpty:=by rw[Fj];cases ys<;>rfl
theorem vz{caps:Ev}{te:W L}{k:List D->Ev->Prop}{h:D->D}(xs:List D)(l m:L)(step:∀a∈xs,∀Q:Ev->D->Prop,Q (.d a::.d a::caps) (h a)->te (.d a::.d a::caps) λr ρ3=>Uy r λy=>Q ρ3 y)(Tw:∀l' m',k (xs.map h) (l'::m'::caps)):dG (dO [0,1]) bW te (o5 xs xs) (l::m::caps) [] k:=by
 have e:o5 xs xs=xs.map λa=>D.tup [a,a]:=by
  unfold o5
  have e2:xs.zip xs=xs.map λa=>(a,a):=by
   clear step Tw
   induction xs with
   |nil=>rfl
   |cons x xs ih=>simp[ih]
  rw[e2,Yd];rfl
 rw[e];exact fB (e1:=id) (e2:=id) (h:=h) xs [] l m step (by simpa using Tw)
mutual
noncomputable def zd:D->Nat
 |.tup xs=>max xs.length (wJ xs)
 |.lst xs=>max xs.length (wJ xs)
 |_=>0
noncomputable def wJ:List D->Nat
 |[]=>0
 |x::xs=>max (zd x) (wJ xs)
end
theorem sE{x:D}:∀{xs:List D},x∈xs->zd x<=wJ xs
 | y::ys,h=>by
  simp only[wJ];rcases XW.mp h with rfl|h
  . omega
  . have:=sE h;omega
theorem wK{n:Nat}:∀{xs:List D},(∀x∈xs,zd x<=n)->wJ xs<=n
 |[],_=>YO _
 | y::ys,h=>by simp only[wJ];have:=h y XU;have:=wK (xs:=ys) λx hx=>h x (p3 _ hx);omega
theorem cz{n:Nat}(h:n<=99):n<=sizeLine:=X0 h xp
theorem Gx(q:Rat):zd (UV q)=2:=by simp[UV,zd,wJ]
theorem JM(a:Vo):zd (d6 a)=4:=by have:=Gx a.size;simp[d6,zd,wJ,this]
theorem JN{qs:List Rat}{n:Nat}(h:qs.length<=n)(h2:2<=n):zd (.lst (qs.map UV))<=n:=by
 simp only[zd,tv];have:=wK (n:=2) (xs:=qs.map UV) λx hx=>by obtain⟨q,_,rfl⟩:=XY.mp hx;rw[Gx];exact XZ _
 omega
theorem Gy{as:List Vo}{n:Nat}(h:as.length<=n)(h2:4<=n):zd (.lst (as.map d6))<=n:=by
 simp only[zd,tv];have:=wK (n:=4) (xs:=as.map d6) λx hx=>by obtain⟨q,_,rfl⟩:=XY.mp hx;rw[JM];exact XZ _
 omega
structure VA (n:Nat) (d:D):Prop where
 dep:yb d<n
 wid:zd d<=99
theorem VA.mono{n m:Nat}{d:D}(h:VA n d)(hm:n<=m):VA m d:=⟨XX h.dep hm,h.wid⟩
theorem VA.lst{n:Nat}{xs:List D}(h:VA (n+1) (.lst xs)):xs.length<=sizeLine/\∀x∈xs,VA n x:=by obtain⟨h1,h2⟩:=h;simp only[yb,zd]at h1 h2;exact⟨cz xL,λx hx=>⟨by have:=rX hx;omega,by have:=sE hx;omega⟩⟩
theorem VA.tup{n:Nat}{xs:List D}(h:VA (n+1) (.tup xs)):xs.length<=sizeLine/\∀x∈xs,VA n x:=by obtain⟨h1,h2⟩:=h;simp only[yb,zd]at h1 h2;exact⟨cz xL,λx hx=>⟨by have:=rX hx;omega,by have:=sE hx;omega⟩⟩
theorem Gz(q:Rat):yb (UV q)=1:=by simp[UV,yb,wd]
theorem JO(a:Vo):yb (d6 a)=2:=by have:=Gz a.size;simp[d6,yb,wd,this]
theorem CA{xs:List D}{n:Nat}(h:∀x∈xs,yb x<=n):yb (.lst xs)<=n+1:=by simp only[yb];have:=Ca h;omega
theorem JP(qs:List Rat):yb (.lst (qs.map UV))<=2:=CA λx hx=>by obtain⟨q,_,rfl⟩:=XY.mp hx;rw[Gz];exact XZ _
theorem GA(as:List Vo):yb (.lst (as.map d6))<=3:=CA λx hx=>by obtain⟨q,_,rfl⟩:=XY.mp hx;rw[JO];exact XZ _
theorem VA.frs{qs:List Rat}(h:qs.length<=99):VA 3 (.lst (qs.map UV)):=⟨by have:=JP qs;omega,JN h xp⟩
theorem VA.asks{as:List Vo}(h:as.length<=99):VA 4 (.lst (as.map d6)):=⟨by have:=GA as;omega,Gy h xp⟩
theorem wL{n:Nat}{x:D}:∀{xs:List D},p7 n xs=true->x∈xs->UW n x=true
 | y::ys,h,hx=>by
  simp only[p7,YI]at h;rcases XW.mp hx with rfl|hx
  . exact h.1
  . exact wL h.2 hx
mutual
theorem wH:∀(n:Nat)(d:D),UW n d=true->UW (n+1) d=true
 |_,.non,_=>by simp[UW]
 |_,.bl _,_=>by simp[UW]
 |_,.int _,_=>by simp[UW]
 |_,.str x,h=>by simpa[UW]using h
 |0,.tup _,h=>by simp[UW]at h
 |0,.lst _,h=>by simp[UW]at h
 | n+1,.tup xs,h=>by
  simp only[UW]at h ⊢
  exact sF n xs h
 | n+1,.lst xs,h=>by
  simp only[UW]at h ⊢
  exact sF n xs h
 |_,.dct _,h=>by simp[UW]at h
 |_,.exc _ _ _,h=>by simp[UW]at h
 |_,.fn _ _,h=>by simp[UW]at h
 |_,.dk _ _,h=>by simp[UW]at h
 |_,.gf _,h=>by simp[UW]at h
theorem sF:∀(n:Nat)(ds:List D),p7 n ds=true->p7 (n+1) ds=true
 |_,[],_=>rfl
 | n,d::ds,h=>by
  simp only[p7,YI]at h ⊢
  exact⟨wH n d h.1,sF n ds h.2⟩
end
theorem CB{n m:Nat}{d:D}(h:UW n d=true)(hm:n<=m):UW m d=true:=by
 obtain⟨k,rfl⟩:=Nat.exists_eq_add_of_le hm
 induction k with
 |zero=>exact h
 |succ k ih=>exact wH _ _ (ih xL)
noncomputable def GB(p:Rat)(a:Vo):Vo:=⟨a.nm,a.one,a.other,a.size*p⟩
noncomputable def VB(R:aD)(p q:Rat):aD:=⟨R.rooms.map (·*q),R.asks.map (GB p)⟩
def VC(m:Nat)(R:aD):Prop:=R.rooms.length<=12/\R.asks.length<=20/\(∀q∈R.rooms,RB m q)/\(∀a∈R.asks,RB m a.size)/\∀a∈R.asks,PyData.strOk a.nm=true
end My
set_option exponentiation.threshold 5000
namespace My
open PySem L2
noncomputable def CC:Option Bool->D
 |none=>.non
 |some w=>.str (oV w)
structure yc where
 top:Rat
 strict:Bool
 elder:List (Option Bool)
 most:Nat
noncomputable def VD(el:List (Option Bool)):D:=.lst (el.map CC)
noncomputable def ph(ws:List Bool):D:=.lst (ws.map λw=>D.str (oV w))
theorem JQ(ws:List Bool):ph ws=VD (ws.map some):=by unfold ph VD;rw[Yd];rfl
noncomputable def pj(w:yc):D:=.tup [UV w.top,.bl w.strict,VD w.elder,.int (w.most:Int)]
noncomputable def dm(x:Option Bool×Option Bool):Bool:=match x.1 with
 |none=>false
 |some a=>x.2 == some (!a)
noncomputable def iG(el ws:List (Option Bool)):List Nat:=((el.zip ws).zipIdx.filter λx=>dm x.1).map (·.2)
theorem DB(o:Option Bool):dj (CC o):=by
 cases o with
 |none=>exact vk
 |some w=>exact yW w
theorem Nc(o:Option Bool)(b:Bool):UL (CC o) (.str (oV b))=(o == some b):=by
 cases o with
 |none=>rfl
 | some a =>
  show UL (.str (oV a)) (.str (oV b))=_;rw[Fg];cases a<;>cases b<;>rfl
noncomputable def gE(st:Bool)(load bound:Int):Bool:=decide (bound<load) ||(st && decide (load=bound))
noncomputable def GC(w:yc)(x:Rat):Bool:=decide (w.top<x) ||(w.strict && decide (x=w.top))
noncomputable def dH(as:List Vo)(ws:List Bool):List Rat:=(as.zip ws).map λx=>if x.2 then x.1.size else 0
end My
set_option exponentiation.threshold 5000
namespace My
open PySem L2
noncomputable def ij:Nat->(Nat->Int)->Int
 |0,_=>0
 |n+1,f=>ij n f+f n
theorem kO{n:Nat}{f g:Nat->Int}(h:∀i,i<n->f i=g i):ij n f=ij n g:=by
 induction n with
 |zero=>rfl
 |succ n ih=>rw[ij,ij,ih λi hi=>h i xL,h n xL]
theorem Nd{n:Nat}{f g:Nat->Int}(h:∀i,i<n->f i<=g i):ij n f<=ij n g:=by
 induction n with
 |zero=>exact Int.le_refl _
 | succ n ih =>
  have h1:=ih λi hi=>h i xL;have h2:=h n xL;rw[ij,ij];omega
theorem CD(n:Nat)(f g:Nat->Int):ij n (λi=>f i+g i)=ij n f+ij n g:=by
 induction n with
 |zero=>rfl
 |succ n ih=>rw[ij,ij,ij,ih];omega
theorem ze{n k:Nat}(h:k<=n)(f:Nat->Int):ij n f=ij k f+ij n λi=>if i<k then 0 else f i:=by
 induction n with
 | zero =>
  have:k=0:=by omega
  subst this;rfl
 | succ n ih =>
  rcases Nat.lt_or_ge n k with g|g
  .
   have:k=n+1:=by omega
   subst this
   have e:ij (n+1) (λi=>if i<n+1 then 0 else f i)=ij (n+1) λ_=>0:=kO λi hi=>if_pos hi
   have z:∀m,ij m (λ_=>(0:Int))=0:=λm=>by induction m with
    |zero=>rfl
    |succ m ihm=>rw[ij,ihm];rfl
   rw[e,z];omega
  . rw[ij,ih g,ij,if_neg (by omega)];omega
noncomputable def VE(R:aD)(q:Rat)(ws:List Bool)(t:Nat):Int:=ij ws.length λi=>if Vs R i t == ws.getD i false then wI R q i else 0
theorem PR(R:aD)(q:Rat)(ws:List Bool)(b:Bool)(t:Nat):VE R q (ws++[b]) t=VE R q ws t+if Vs R ws.length t == b then wI R q ws.length else 0:=by
 unfold VE;rw[Yw,Y9,ij]
 congr 1
 . refine kO λi hi=>?_;rw[k4,k4,Ym hi]
 . simp
theorem Ng{R:aD}{q:Rat}{ws:List Bool}(hw:ws.length=R.asks.length)(t:Nat):((VE R q ws t:Int):Rat)=cj R.n R.asks (dH R.asks ws) t*(bU R q:Rat):=by
 have hp:(dH R.asks ws).length=R.asks.length:=by simp[dH,hw]
 have key:∀k,k<=R.asks.length->((ij k (λi=>if Vs R i t == ws.getD i false then wI R q i else 0):Int):Rat)=cj R.n (R.asks.take k) ((dH R.asks ws).take k) t*(bU R q:Rat):=by
  intro k
  induction k with
  |zero=>intro _;simp[ij,cj,nE]
  | succ k ih =>
   intro hk;have h1:k<R.asks.length:=by omega
   have h2:k<(dH R.asks ws).length:=by omega
   rw[Dw h1 h2,ij,Rat.intCast_add,ih xL,Rat.add_mul]
   congr 1
   have e1:(dH R.asks ws)[k]=if ws[k]'(by omega)then R.asks[k].size else 0:=by simp[dH]
   have e2:ws.getD k false=ws[k]'(by omega):=by rw[k4,gV xL];rfl
   have wc:=PF (R:=R) (q:=q) h1;rw[d7 h1]at wc;unfold lu Vs;rw[e1,e2,d7 h1];cases b7 R.n R.asks[k] t<;>cases ws[k]'(by omega)<;>simp[wc]<;>grind
 have:=key R.asks.length (XZ _);rw[Yy (XZ _),Yy xL]at this;unfold VE;rw[hw];exact this
theorem pk{R:aD}(hR:R.Ok){w:yc}{ws:List Bool}(hw:ws.length=R.asks.length){t:Nat}(ht:t<R.n):gE w.strict (VE R w.top ws t) (Vz R w.top t)=GC w (bg R (dH R.asks ws) t):=by
 obtain⟨r1,r2⟩:=dQ hR ht;have u0:0<bU R w.top:=by have:=Gw R w.top;unfold bU;omega
 have uq:(0:Rat)<(bU R w.top:Rat):=Z9.mpr u0;have e1:=Ng (q:=w.top) hw t;have e2:=PH (q:=w.top) ht;unfold gE GC bg;have i1:Vz R w.top t<VE R w.top ws t↔w.top<cj R.n R.asks (dH R.asks ws) t / R.room t:=by rw[<- Rat.intCast_lt_intCast,e1,e2,Rat.lt_div_iff r1];exact⟨λh=>(Rat.mul_lt_mul_right uq).mp h,λh=>(Rat.mul_lt_mul_right uq).mpr h⟩
 have i2:VE R w.top ws t=Vz R w.top t↔cj R.n R.asks (dH R.asks ws) t / R.room t=w.top:=by
  rw[<- Rat.intCast_inj,e1,e2];have r0:R.room t≠0:=by grind
  have un:(bU R w.top:Rat)≠0:=by grind
  constructor
  .
   intro h;have:cj R.n R.asks (dH R.asks ws) t=w.top*R.room t:=by grind
   rw[this,Rat.mul_div_cancel r0]
  .
   intro h;have:cj R.n R.asks (dH R.asks ws) t=w.top*R.room t:=by rw[<- h,Rat.div_mul_cancel r0]
   rw[this]
 rw[YA.mpr i1,YA.mpr i2]
inductive Tr where
 |turned
 |cut (c:Nat×Nat)
 |split (k:Nat) (a b:Tr)
noncomputable def VF:Tr->D
 |.turned=>.tup [.str "turned"]
 |.cut c=>.tup [.str "cut",.int (c.1:Int),.int (c.2:Int)]
 |.split k a b=>.tup [.str "split",.int (k:Int),VF a,VF b]
noncomputable def VG(R:aD)(fixed:List (Option Bool))(c:Nat×Nat)(i:Nat):Int:=match fixed.getD i none with
 |none=>if apart c (aB R i).one (aB R i).other then 1 else 0
 |some b=>(if Vs R i c.1 == b then 1 else 0)+if Vs R i c.2 == b then 1 else 0
noncomputable def DC(R:aD)(q:Rat)(fixed:List (Option Bool))(c:Nat×Nat):Int:=ij R.asks.length λi=>wI R q i*VG R fixed c i
def Tr.Ok(R:aD)(w:yc):List (Option Bool)->Tr->Prop
 |fixed,.turned=>w.most<(iG w.elder fixed).length
 |fixed,.cut c=>hC R.n c/\gE w.strict (DC R w.top fixed c) (Vz R w.top c.1+Vz R w.top c.2)=true
 |fixed,.split k a b=>k<fixed.length/\fixed.getD k none=none/\Tr.Ok R w (fixed.set k (some true)) a/\Tr.Ok R w (fixed.set k (some false)) b
def p9(R:aD)(w:yc)(ws:List Bool):Prop:=(∀t,t<R.n->GC w (bg R (dH R.asks ws) t)=false)/\(iG w.elder (ws.map some)).length<=w.most
def N8(fixed:List (Option Bool))(ws:List Bool):Prop:=ws.length=fixed.length/\∀i b,fixed.getD i none=some b->ws.getD i false=b
theorem GD{el fixed:List (Option Bool)}{ws:List Bool}(h:N8 fixed ws):(iG el fixed).length<=(iG el (ws.map some)).length:=by
 unfold iG;rw[tv,tv];obtain⟨hl,hc⟩:=h
 have:∀(n:Nat)(el fixed:List (Option Bool))(ws:List Bool),ws.length=fixed.length->(∀i b,fixed.getD i none=some b->ws.getD i false=b)->((el.zip fixed).zipIdx n |>.filter λx=>dm x.1).length<=((el.zip (ws.map some)).zipIdx n |>.filter λx=>dm x.1).length:=by
  intro n el
  induction el generalizing n with
  |nil=>intro fixed ws _ _;simp
  | cons e el ih =>
   intro fixed ws hl hc
   match fixed,ws,hl with
   |[],[],_=>simp
   | f::fixed,b::ws,hl =>
    have i1:=ih (n+1) fixed ws (by simpa using hl) λi b' hb=>by have:=hc (i+1) b' (by simpa using hb);simpa using this
    rw[X7,YR,YR,List.zipIdx_cons,List.zipIdx_cons,YM,YM]
    have imp:dm (e,f)=true->dm (e,some b)=true:=λh=>by
     cases f with
     |none=>cases e<;>simp[dm]at h
     | some g =>
      have:=hc 0 g rfl;have:b=g:=by simpa using this
      subst this;exact h
    cases h1:dm (e,f)<;>cases h2:dm (e,some b)
    . simpa[h1,h2]using i1
    . simp[h1,h2];omega
    . rw[imp h1]at h2;cases h2
    . simpa[h1,h2]using i1
 exact this 0 el fixed ws hl hc
theorem Nh{R:aD}(hR:R.Ok){q:Rat}{fixed:List (Option Bool)}{ws:List Bool}(hf:fixed.length=R.asks.length)(h:N8 fixed ws){c:Nat×Nat}(hc:hC R.n c):DC R q fixed c<=VE R q ws c.1+VE R q ws c.2:=by
 unfold VE DC;rw[h.1,hf,<- CD];refine Nd λi hi=>?_;have ha:=gi hR hi;have hz:=JK hR q i hi;have ap:=jF ha hc;unfold VG
 cases e:fixed.getD i none with
 | none =>
  dsimp only;rw[ap];unfold Vs;cases b7 R.n (aB R i) c.1<;>cases b7 R.n (aB R i) c.2<;>cases ws.getD i false<;>simp<;>omega
 | some b =>
  dsimp only;rw[h.2 i b e];unfold Vs;cases b7 R.n (aB R i) c.1<;>cases b7 R.n (aB R i) c.2<;>cases b<;>simp<;>omega
theorem JR{fixed:List (Option Bool)}{ws:List Bool}(h:N8 fixed ws){k:Nat}(hk:k<fixed.length):N8 (fixed.set k (some (ws.getD k false))) ws:=by
 refine⟨by simpa using h.1,λi b e=>?_⟩;rw[k4,List.getElem?_set]at e;split at e
 . rename_i hki;subst hki;simp[hk]at e;rw[<- e,k4]
 . exact h.2 i b (by rw[k4];exact e)
theorem JS{st:Bool}{x y a b:Int}(h:gE st (x+y) (a+b)=true)(h1:gE st x a=false)(h2:gE st y b=false):False:=by
 unfold gE at h h1 h2;simp only[aai,Bool.or_eq_true,Zb,Zz,YI,Bool.and_eq_false_iff]at h h1 h2;cases st
 . simp at h h1 h2;omega
 . simp at h h1 h2;omega
theorem Ni{st:Bool}{x y a:Int}(h:gE st x a=true)(hl:x<=y):gE st y a=true:=by
 unfold gE at h ⊢;simp only[Bool.or_eq_true,Zz,YI]at h ⊢;rcases h with h|⟨h1,h2⟩
 . left;omega
 .
  by_cases e:a<y
  . exact .inl e
  . exact .inr ⟨h1,xL⟩
theorem sG{R:aD}(hR:R.Ok){w:yc}:∀(T:Tr)(fixed:List (Option Bool))(ws:List Bool),fixed.length=R.asks.length->T.Ok R w fixed->N8 fixed ws->¬p9 R w ws
 | .turned,fixed,ws,hf,ht,hc,hk=>by have:=GD (el:=w.elder) hc;have h1:w.most<(iG w.elder fixed).length:=ht;have:=hk.2;omega
 | .cut c,fixed,ws,hf,ht,hc,hk=>by
  obtain⟨ic,hm⟩:=ht;have hw:ws.length=R.asks.length:=by rw[hc.1,hf]
  have h1:=hk.1 c.1 (by have:=ic.1;have:=ic.2;omega);have h2:=hk.1 c.2 ic.2;rw[<- pk hR hw (by have:=ic.1;have:=ic.2;omega)]at h1;rw[<- pk hR hw ic.2]at h2;exact JS (Ni hm (Nh hR hf hc ic)) h1 h2
 | .split k a b,fixed,ws,hf,ht,hc,hk=>by
  obtain⟨h1,h2,h3,h4⟩:=ht;have cs:=JR hc h1;cases e:ws.getD k false
  . rw[e]at cs;exact sG hR b _ ws (by simpa using hf) h4 cs hk
  . rw[e]at cs;exact sG hR a _ ws (by simpa using hf) h3 cs hk
end My
set_option exponentiation.threshold 5000
namespace My
open PySem L2
noncomputable def Tr.kind:Tr->Nat
 |.turned=>0
 |.cut _=>1
 |.split _ _ _=>2
noncomputable def Tr.size:Tr->Nat
 |.turned=>1
 |.cut _=>1
 |.split _ a b=>a.size+b.size+1
noncomputable def ju(n:Nat)(ws:List Bool):List (Option Bool):=ws.map some++List.replicate (n-ws.length) none
theorem wM{n:Nat}{ws:List Bool}(h:ws.length<=n):(ju n ws).length=n:=by simp[ju];omega
theorem wN{n:Nat}{ws:List Bool}{i:Nat}:(ju n ws).getD i none=if h:i<ws.length then some ws[i]else none:=by
 unfold ju;rw[k4];split
 . rename_i h;rw[Ym (by simpa using h),X1,gV h];rfl
 . rename_i h;rw[Yg (by simp;omega),List.getElem?_replicate];split<;>rfl
theorem CF{n:Nat}{ws:List Bool}(h:ws.length<n)(b:Bool):(ju n ws).set ws.length (some b)=ju n (ws++[b]):=by
 unfold ju;rw[Z8 _ _ x_,tv,Nat.sub_self,Yq,YU]
 congr 1
 obtain⟨m,hm⟩:∃m,n-ws.length=m+1:=⟨n-ws.length-1,xL⟩;rw[hm,aao,List.set_cons_zero,Yw,Y9,show n-(ws.length+1)=m by omega];rfl
theorem GE(el:List (Option Bool))(n:Nat)(ws:List Bool):(iG el (ju n ws)).length=(iG el (ws.map some)).length:=by
 unfold iG ju;rw[tv,tv];generalize n-ws.length=m;clear n
 have:∀(j:Nat)(el:List (Option Bool))(ws:List Bool),((el.zip (ws.map some++List.replicate m none)).zipIdx j |>.filter λx=>dm x.1).length=((el.zip (ws.map some)).zipIdx j |>.filter λx=>dm x.1).length:=by
  intro j el
  induction el generalizing j with
  |nil=>intro ws;simp
  | cons e el ih =>
   intro ws
   cases ws with
   | nil =>
    rw[Zv,Yk,List.zip_nil_right]
    have z:∀(j m:Nat)(el:List (Option Bool)),((el.zip (List.replicate m none)).zipIdx j |>.filter λx=>dm x.1)=[]:=by
     intro j m el;refine List.filter_eq_nil_iff.mpr λx hx=>?_;have h1:=(List.mem_zipIdx hx).2.2;have h2:x.1∈el.zip (List.replicate m none):=by rw[h1];exact X8 _
     obtain⟨_,h3⟩:=ZY (a:=x.1.1) (b:=x.1.2) h2;have h4:=List.eq_of_mem_replicate h3;unfold dm;rw[h4];cases x.1.1<;>simp
    rw[z];rfl
   | cons b ws =>
    rw[X7,List.cons_append,YR,YR,List.zipIdx_cons,List.zipIdx_cons,YM,YM];have i1:=ih (j+1) ws;cases dm (e,some b)
    . simpa using i1
    . simpa using i1
 exact this 0 el ws
noncomputable def gA(R:aD)(q:Rat)(c:Nat×Nat)(i:Nat):Int:=if apart c (aB R i).one (aB R i).other then wI R q i else 0
noncomputable def wO(R:aD)(q:Rat)(k:Nat)(c:Nat×Nat):Int:=Vz R q c.1+Vz R q c.2-(ij R.asks.length (gA R q c)-ij k (gA R q c))
theorem JT{R:aD}{q:Rat}{k:Nat}(c:Nat×Nat):wO R q (k+1) c-gA R q c k=wO R q k c:=by unfold wO;rw[ij];omega
theorem GF{R:aD}{q:Rat}{ws:List Bool}(hw:ws.length<=R.asks.length)(c:Nat×Nat):DC R q (ju R.asks.length ws) c=VE R q ws c.1+VE R q ws c.2+(ij R.asks.length (gA R q c)-ij ws.length (gA R q c)):=by
 unfold DC VE;rw[ze hw,<- CD]
 have e1:ij ws.length (λi=>wI R q i*VG R (ju R.asks.length ws) c i)=ij ws.length λi=>(if Vs R i c.1 == ws.getD i false then wI R q i else 0)+if Vs R i c.2 == ws.getD i false then wI R q i else 0:=kO λi hi=>by
  have e2:ws.getD i false=ws[i]:=by rw[k4,gV hi];rfl
  unfold VG;rw[wN,dif_pos hi,e2];dsimp only;cases Vs R i c.1<;>cases Vs R i c.2<;>cases ws[i]<;>simp<;>omega
 have e3:=ze hw (gA R q c)
 have e4:ij R.asks.length (λi=>if i<ws.length then 0 else wI R q i*VG R (ju R.asks.length ws) c i)=ij R.asks.length λi=>if i<ws.length then 0 else gA R q c i:=kO λi hi=>by
  by_cases h:i<ws.length
  . rw[if_pos h,if_pos h]
  . rw[if_neg h,if_neg h];unfold VG gA;rw[wN,dif_neg h];dsimp only;split<;>simp
 rw[e1,e4];omega
theorem DD(st:Bool)(x y d:Int):gE st x (y-d)=gE st (x+d) y:=by
 unfold gE;have e1:decide (y-d<x)=decide (y<x+d):=by rw[YA];omega
 have e2:decide (x=y-d)=decide (x+d=y):=by rw[YA];omega
 rw[e1,e2]
theorem GG{R:aD}{w:yc}{ws:List Bool}(hw:ws.length<=R.asks.length)(c:Nat×Nat):gE w.strict (VE R w.top ws c.1+VE R w.top ws c.2) (wO R w.top ws.length c)=gE w.strict (DC R w.top (ju R.asks.length ws) c) (Vz R w.top c.1+Vz R w.top c.2):=by rw[GF hw];unfold wO;exact DD _ _ _ _
noncomputable def DE(R:aD)(q:Rat)(k:Nat):D:=.lst ((jD R.n).map λc=>D.tup [ig c,.int (wO R q k c)])
noncomputable def A6(R:aD)(q:Rat):List D:=(List.range (R.asks.length+1)).map λj=>DE R q (R.asks.length-j)
def PU(R:aD)(w:yc)(ws:List Bool):Prop:=(∀c,hC R.n c->gE w.strict (VE R w.top ws c.1+VE R w.top ws c.2) (wO R w.top ws.length c)=false)/\(iG w.elder (ws.map some)).length<=w.most
theorem DF{R:aD}(hR:R.Ok){w:yc}{ws:List Bool}(hw:ws.length=R.asks.length)(h:PU R w ws):p9 R w ws:=by
 refine⟨λt ht=>?_,h.2⟩;rw[<- pk hR hw ht];have h1:=h.1 (t,t) ⟨XZ _,ht⟩;unfold wO at h1;rw[hw,Int.sub_self,Int.sub_zero]at h1;unfold gE at h1 ⊢;simp only[aai,Zb,Bool.and_eq_false_iff]at h1 ⊢;refine⟨xL,?_⟩;rcases h1.2 with h2|h2
 . exact .inl h2
 . exact .inr xL
theorem Cv{n:Nat}(h:n<=12):(jD n).length<=144:=by
 unfold jD;rw[List.length_flatMap]
 have:∀(l:List Nat),(l.map λg=>((List.range (n-g)).map λi=>(g,g+i)).length).sum<=l.length*12:=by
  intro l
  induction l with
  |nil=>simp
  | cons a l ih =>
   rw[X7,List.sum_cons,Y3,Nat.succ_mul];simp only[tv,X6]at ih ⊢;omega
 have h1:=this (List.range n);rw[X6]at h1;omega
end My
set_option exponentiation.threshold 5000
namespace My
open PySem L2
noncomputable abbrev wQ(R:aD)(ws:List Bool):Nat->Rat:=bg R (dH R.asks ws)
noncomputable def eU(R:aD)(ws:List Bool):Rat:=wQ R ws (Dz R.n (wQ R ws))
theorem wR{R:aD}(hR:R.Ok)(ws:List Bool){t:Nat}(ht:t<R.n):wQ R ws t<=eU R ws:=(A1 (by have:=hR.lo;omega) (wQ R ws)).2 t ht
theorem sH{R:aD}(hR:R.Ok)(ws:List Bool):Dz R.n (wQ R ws)<R.n:=(A1 (by have:=hR.lo;omega) (wQ R ws)).1
theorem sI{w:yc}(h:w.strict=true){x:Rat}:GC w x=false↔x<w.top:=by
 unfold GC;rw[h];simp only[Bool.true_and,aai,Zb];constructor<;>intro g
 . grind
 . constructor<;>grind
theorem DG{R:aD}(hR:R.Ok){w:yc}(h:w.strict=true){ws:List Bool}(hk:p9 R w ws):eU R ws<w.top:=(sI h).mp (hk.1 _ (sH hR ws))
theorem DH{R:aD}(hR:R.Ok){w:yc}(h:w.strict=true){ws:List Bool}(hk:eU R ws<w.top)(hm:(iG w.elder (ws.map some)).length<=w.most):p9 R w ws :=
 ⟨λt ht=>(sI h).mpr (by have h1:=wR hR ws ht;have e:wQ R ws t=bg R (dH R.asks ws) t:=rfl;rw[e]at h1;grind),hm⟩
noncomputable def Nj:Nat->List (List Bool)
 |0=>[[]]
 |n+1=>(Nj n).map (·++[true])++(Nj n).map (·++[false])
theorem JU{n:Nat}{ws:List Bool}:ws∈Nj n↔ws.length=n:=by
 induction n generalizing ws with
 |zero=>simp[Nj]
 | succ n ih =>
  rw[Nj,Ys,XY,XY];constructor
  . rintro (⟨v,hv,rfl⟩|⟨v,hv,rfl⟩)<;>simp[ih.mp hv]
  .
   intro h;have hn:ws≠[]:=λz=>by rw[z]at h;simp at h
   have e:=List.dropLast_concat_getLast hn;have hd:ws.dropLast∈Nj n:=ih.mpr (by rw[List.length_dropLast,h];rfl);cases eb:ws.getLast hn
   . exact .inr ⟨_,hd,by rw[eb]at e;exact e⟩
   . exact .inl ⟨_,hd,by rw[eb]at e;exact e⟩
end My
set_option exponentiation.threshold 5000
namespace My
open PySem L2
def VH(R:aD):Prop:=∀a∈R.asks,RB 61 a.size
theorem CG{as:List Vo}{ws:List Bool}{x:Vo×Rat}(h:x∈as.zip (dH as ws)):x.1∈as/\(x.2=x.1.size∨x.2=0):=by
 obtain⟨k,hk,rfl⟩:=Zk.mp h;have h1:k<as.length:=by simp at hk;omega
 refine⟨x_,?_⟩;simp only[ZC,dH,YT];split
 . exact .inl rfl
 . exact .inr rfl
theorem wU{n:Nat}{x:Vo×Rat}{b:Nat}(hs:RB b x.1.size)(hx:x.2=x.1.size∨x.2=0)(hb:1<=b)(t:Nat):RB b (lu n x.1 x.2 t):=by
 have z:RB b (0:Rat):=RB.zero.mono hb;unfold lu;rcases hx with h|h<;>rw[h]<;>split
 . exact hs
 . rw[Rat.sub_self];exact z
 . exact z
 . rw[show x.1.size-0=x.1.size by grind];exact hs
theorem JV(as:List Vo)(ws:List Bool)(k:Nat):(dH as ws).take k=dH (as.take k) (ws.take k):=by unfold dH;rw[<- List.map_take,List.zip,List.take_zipWith]
def SB(R:aD):Prop:=∃b,1<=b/\(b+1)*R.asks.length<=1340/\∀a∈R.asks,RB b a.size
theorem zf{n b:Nat}{as:List Vo}(hb:1<=b)(ha:∀a∈as,RB b a.size)(hl:(b+1)*as.length<=1340)(ws:List Bool)(t:Nat):RB 1341 (cj n as (dH as ws) t):=by
 refine(RB.sum (b:=b) _ λq hq=>?_).mono ?_
 . obtain⟨x,hx,rfl⟩:=XY.mp hq;obtain⟨h1,h2⟩:=CG hx;exact wU (ha _ h1) h2 hb t
 . rw[tv,Zp];have h1:min as.length (dH as ws).length<=as.length:=Nat.min_le_left _ _;have h2:=Z1 (b+1) h1;omega
theorem LB.waysB{R:aD}(hT:SB R)(ws:List Bool):LB R (dH R.asks ws):=by
 obtain⟨b,hb,hl,hT⟩:=hT
 have b1:R.asks≠[]->b<=1340:=λz=>by
  have h1:1<=R.asks.length:=by cases e:R.asks with|nil=>exact absurd e z|cons a as=>simp
  have:=Z1 (b+1) h1;omega
 refine⟨λp hp=>?_,λk t=>?_,λk h1 h2 t=>?_,λt=>.inl ?_⟩
 .
  obtain⟨x,hx,rfl⟩:=XY.mp hp;obtain⟨h1,_⟩:=ZY (a:=x.1) (b:=x.2) hx;have:=b1 (List.ne_nil_of_mem h1);split
  . exact(hT _ h1).mono xL
  . exact RB.zero.mono xp
 . rw[JV];refine(zf hb (λa ha=>hT a (aaj ha)) ?_ _ t).mono xp;rw[YK];have h1:min k R.asks.length<=R.asks.length:=Nat.min_le_right _ _;have h2:=Z1 (b+1) h1;omega
 . have hm:(R.asks[k],(dH R.asks ws)[k])∈R.asks.zip (dH R.asks ws):=Zk.mpr ⟨k,by rw[Zp];omega,by rw[ZC]⟩;obtain⟨g1,g2⟩:=CG hm;have:=b1 (List.ne_nil_of_mem (X8 h1));exact(wU (x:=(R.asks[k],(dH R.asks ws)[k])) (hT _ g1) g2 hb t).mono xL
 .
  refine Yc (AW (b:=b) _ λq hq=>?_) (ZV xp ?_)
  . obtain⟨x,hx,rfl⟩:=XY.mp hq;obtain⟨h1,h2⟩:=CG hx;exact wU (hT _ h1) h2 hb t
  . rw[tv,Zp];have h1:min R.asks.length (dH R.asks ws).length<=R.asks.length:=Nat.min_le_left _ _;have h2:=Z1 b h1;have h3:b*R.asks.length<=(b+1)*R.asks.length:=Nat.mul_le_mul_right _ xL;omega
theorem wV{R:aD}(hR:R.Ok)(hT:SB R)(ws:List Bool):RB 1421 (eU R ws):=by obtain⟨b,hb,hl,hT⟩:=hT;have ht:=sH hR ws;obtain⟨r1,r2⟩:=dQ hR ht;unfold eU wQ bg;exact((zf hb hT hl ws _).div r2 (by grind)).mono xp
theorem rg{as:List Vo}{ws:List Bool}(h:ws.length=as.length):(dH as ws).length=as.length:=by simp[dH,h]
theorem sJ{α:Type}{p q:α->Bool}:∀{l:List α},(∀a,p a=true->q a=true)->(∃a∈l,q a=true/\p a=false)->(l.filter p).length<(l.filter q).length
 |[],_,h=>by obtain⟨a,ha,_⟩:=h;cases ha
 | x::l,hpq,h=>by
  have le:(l.filter p).length<=(l.filter q).length:=by
   clear h
   induction l with
   |nil=>simp
   | cons y l ih =>
    rw[YM,YM];cases ep:p y
    .
     cases q y
     . simpa using ih
     . simp;omega
    . rw[hpq y ep];simpa using ih
  rw[YM,YM];cases ep:p x
  .
   cases eq:q x
   .
    have:=sJ (l:=l) hpq (by
     obtain⟨a,ha,h1,h2⟩:=h;rcases XW.mp ha with rfl|ha
     . rw[eq]at h1;cases h1
     .
      exact⟨a,ha,h1,h2⟩)
    simpa using this
   . simp;omega
  .
   rw[hpq x ep]
   have:=sJ (l:=l) hpq (by
     obtain⟨a,ha,h1,h2⟩:=h;rcases XW.mp ha with rfl|ha
     . rw[ep]at h2;cases h2
     .
      exact⟨a,ha,h1,h2⟩)
   simpa using this
noncomputable def Nk(R:aD)(ws:List Bool):Nat:=((Nj R.asks.length).filter λvs=>decide (eU R vs<eU R ws)).length
theorem Nl{R:aD}{ws vs:List Bool}(hv:vs.length=R.asks.length)(h:eU R vs<eU R ws):Nk R vs<Nk R ws :=
 sJ (λus h1=>by have:=of_decide_eq_true h1;exact Y6 (by grind)) ⟨vs,JU.mpr hv,Y6 h,Yt (by grind)⟩
theorem GH(n:Nat)(ws:List (Option Bool)):(iG (List.replicate n none) ws).length=0:=by
 unfold iG;rw[tv,ZE];refine List.filter_eq_nil_iff.mpr λx hx=>?_;have h1:=(List.mem_zipIdx hx).2.2;have h2:x.1∈(List.replicate n none).zip ws:=by rw[h1];exact X8 _
 obtain⟨h3,_⟩:=ZY (a:=x.1.1) (b:=x.1.2) h2;have h4:=List.eq_of_mem_replicate h3;unfold dm;rw[h4];simp
noncomputable def kP(R:aD)(q:Rat):yc:=⟨q,true,List.replicate R.asks.length none,0⟩
theorem kQ(n:Nat)(a:Vo)(as:List Vo)(w:Bool)(ws:List Bool)(t:Nat):cj n (a::as) (dH (a::as) (w::ws)) t=(if b7 n a t == w then a.size else 0)+cj n as (dH as ws) t:=by
 unfold cj dH;rw[YR,X7,YR,X7,aS]
 congr 1
 unfold lu;cases b7 n a t<;>cases w<;>simp<;>grind
theorem nI(n:Nat)(as:List Vo)(t:Nat):cj n as (dH as []) t=0:=by simp[cj,dH,df]
theorem pq(n:Nat)(ws:List Bool)(t:Nat):cj n [] (dH [] ws) t=0:=by simp[cj,dH,df]
theorem CH{n t:Nat}:∀{as:List Vo}{ws:List Bool},(∀a∈as,0<=a.size)->0<=cj n as (dH as ws) t
 |[],ws,h=>by rw[pq];exact YZ
 |a::as,[],h=>by rw[nI];exact YZ
 | a::as,w::ws,h=>by rw[kQ];have h1:=CH (n:=n) (t:=t) (ws:=ws) λb hb=>h b (p3 _ hb);have h2:=h a XU;split<;>grind
theorem GI{R S:aD}(hR:R.Ok)(hS:S.Ok){ws vs:List Bool}(h:∀t,t<R.n->∃s,s<S.n/\wQ R ws t<=wQ S vs s):eU R ws<=eU S vs:=by obtain⟨s,hs,hl⟩:=h _ (sH hR ws);exact ZG hl (wR hS vs hs)
def uI(R:aD)(ws:List Bool):Prop:=ws.length=R.asks.length/\∀vs:List Bool,vs.length=R.asks.length->eU R ws<=eU R vs
theorem JW{α:Type}{xs:List α}(h:0<xs.length):rM xs (some (-1)) none=xs.drop (xs.length-1):=by
 unfold rM HT.sIx;dsimp only;rw[Yy (by rw[YS];omega)]
 congr 1
 split<;>omega
theorem Nm{α:Type}{xs:List α}(h:0<xs.length):rM xs none (some (-1))=xs.take (xs.length-1):=by
 unfold rM HT.sIx;dsimp only;rw[List.drop_zero]
 congr 1
 split<;>omega
end My
set_option exponentiation.threshold 5000
namespace My
open PySem L2
end My
set_option exponentiation.threshold 5000
namespace My
open PySem L2
noncomputable def zg(p q:Rat):Rat:=if q<p then q else p
noncomputable def Aj(p i:Nat):Nat:=if p<i then i-1 else i
noncomputable def QJ(p:Nat)(a:Vo):Vo:=⟨a.nm,Aj p a.one,Aj p a.other,a.size⟩
noncomputable def rh(n p:Nat):Nat:=if p=0 then n-1 else p-1
noncomputable def vA(rs:List Rat)(p:Nat):Rat:=zg (rs.getD (rh rs.length p) 0) (rs.getD p 0)
noncomputable def uJ(rs:List Rat)(p:Nat):List Rat:=if p=0 then(rs.drop 1).take (rs.length-2)++[vA rs p]else rs.take (p-1)++[vA rs p]++rs.drop (p+1)
noncomputable def eV(R:aD)(p:Nat):aD:=⟨uJ R.rooms p,R.asks.map (QJ p)⟩
noncomputable def DI(a:Vo)(p:Nat):Bool:=decide (a.one=p) ||decide (a.other=p)
theorem JX(a:Vo):rM [D.str a.nm,.int a.one,.int a.other,UV a.size] (some 1) (some 3)=[D.int a.one,D.int a.other]:=by rfl
theorem Nn(a:Vo)(p:Nat):Up (.int (p:Int)) [D.int a.one,D.int a.other]=DI a p:=by
 unfold DI Up;simp only[ZS,List.any_nil,Bool.or_false,US]
 congr 1<;>(apply Bool.eq_iff_iff.mpr;simp;omega)
structure Rp (R:aD):Prop where
 lo:2<=R.n
 hi:R.n<=12
 few:R.asks.length<=20
 room:∀q∈R.rooms,RB 80 q
 ask:∀a∈R.asks,a.one<R.n/\a.other<R.n/\PyData.strOk a.nm=true
theorem aD.Ok.pl{R:aD}(h:R.Ok):Rp R:=⟨h.lo,h.hi,h.few,λq hq=>(h.room q hq).2,λa ha=>⟨(h.ask a ha).one,(h.ask a ha).other,(h.ask a ha).nm⟩⟩
theorem GJ{n p i:Nat}(hi:i<n)(hp:p<n)(h:i≠p):Aj p i<n-1:=by unfold Aj;split<;>omega
theorem GK{rs:List Rat}{p:Nat}(h:p<rs.length)(h2:2<=rs.length):(uJ rs p).length=rs.length-1:=by
 unfold uJ;split
 . simp;omega
 . simp;omega
theorem vB{rs:List Rat}{p:Nat}(h:p<rs.length):vA rs p∈rs:=by
 unfold vA zg;have hb:rh rs.length p<rs.length:=by unfold rh;split<;>omega
 rw[k4,k4,gV h,gV hb];split<;>exact X8 _
theorem GL{rs:List Rat}{p:Nat}(h:p<rs.length){q:Rat}(hq:q∈uJ rs p):q∈rs:=by
 unfold uJ at hq;split at hq
 .
  rcases Ys.mp hq with hq|hq
  . exact List.mem_of_mem_drop (aaj hq)
  . rw[YB.mp hq];exact vB h
 .
  rcases Ys.mp hq with hq|hq
  .
   rcases Ys.mp hq with hq|hq
   . exact aaj hq
   . rw[YB.mp hq];exact vB h
  . exact List.mem_of_mem_drop hq
theorem PV{rs:List Rat}{p:Nat}(h:p<rs.length):Ud (rs.map UV) ((p:Int)-1)=some (UV (rs.getD (rh rs.length p) 0)):=by
 unfold rh;by_cases h0:p=0
 .
  subst h0;rw[if_pos rfl];have h1:rs.length-1<rs.length:=by omega
  rw[show((0:Nat):Int)-1=-1 by rfl];refine JA ?_;rw[tv,X1,k4,gV h1];rfl
 . rw[if_neg h0,show(p:Int)-1=((p-1:Nat):Int) by omega,cf xL,k4,gV (show p-1<rs.length by omega)];rfl
theorem Rq{rs:List Rat}{p:Nat}(h:p<rs.length):Ud (rs.map UV) (p:Int)=some (UV (rs.getD p 0)):=by rw[cf h,k4,gV h];rfl
theorem Np{α:Type}{xs:List α}(h:2<=xs.length):rM xs (some 1) (some (-1))=(xs.drop 1).take (xs.length-2):=by
 unfold rM HT.sIx
 congr 1
 . simp;omega
 .
  congr 1;simp;omega
noncomputable def VI(t i:Nat):Nat:=if t<i then i+1 else i
noncomputable def VJ(t:Nat)(a:Vo):Vo:=⟨a.nm,VI t a.one,VI t a.other,a.size⟩
noncomputable def QK(rs:List Rat)(t:Nat):List Rat:=rs.take (t+1)++rs.drop t
noncomputable def wW(R:aD)(t:Nat):aD:=⟨QK R.rooms t,R.asks.map (VJ t)⟩
theorem JY{rs:List Rat}{t:Nat}(h:t<rs.length):(QK rs t).length=rs.length+1:=by unfold QK;simp;omega
end My
set_option exponentiation.threshold 5000
namespace My
open PySem L2
structure Rr where
 k:Nat
 kw:Bool
 l:Nat
 lw:Bool
 am:Rat
noncomputable def VL(R:aD)(ps:List Rat)(k:Nat)(w:Bool):Rat:=if w then R.sz k-ps.getD k 0 else ps.getD k 0
noncomputable def VM(R:aD)(ps:List Rat)(k:Nat)(kw:Bool)(l:Nat)(lw:Bool):Rat:=if VL R ps l lw<VL R ps k kw then VL R ps l lw else VL R ps k kw
noncomputable def Rt(n:Nat)(a:Vo)(aw:Bool)(b:Vo)(bw:Bool):Bool:=!((Ai n a aw).any λt=>decide (t∈Ai n b bw))
structure R5 (R:aD) (ps:List Rat):Prop where
 ok:R.Ok
 len:ps.length=R.asks.length
 lo:∀k,k<ps.length->0<=ps.getD k 0/\ps.getD k 0<=R.sz k
 cd:∃D:Nat,0<D/\D<2^1500/\(∀a∈R.asks,a.size.den∣D)/\∀p∈ps,p.den∣D
theorem qH{R:aD}{k:Nat}(h:k<R.asks.length):R.sz k=R.asks[k].size:=by unfold aD.sz;rw[k4,X1,gV h];rfl
theorem GM{ps:List Rat}{k:Nat}(h:k<ps.length):ps.getD k 0=ps[k]:=by rw[k4,gV h];rfl
theorem VN{a b c:Rat}(h1:a<=b)(h2:b<c):a<c:=by rw[<- Rat.not_le]at h2 ⊢;exact λz=>h2 (ZG z h1)
theorem Nq{p q:Rat}{D:Nat}(d0:0<D)(h1:p.den∣D)(h2:q.den∣D):(p+q).den∣D:=by
 have e:p+q=Rat.divInt (nG D p+nG D q) (D:Int):=by
  have hD:((D:Int):Rat)≠0:=by have:(0:Rat)<(D:Rat):=Z9.mpr d0;intro z;rw[show((D:Int):Rat)=(D:Rat)from rfl]at z;rw[z]at this;exact absurd this xp
  rw[Rat.divInt_eq_div,Rat.intCast_add,nH h1,nH h2,<- Rat.add_mul,aaq,Rat.mul_assoc,show((D:Nat):Rat)=((D:Int):Rat)from rfl,Rat.mul_inv_cancel _ hD,Rat.mul_one]
 rw[e];have:=Gr (t:=nG D p+nG D q) (b:=(D:Int)) xL;simpa using this
theorem Nr{p q:Rat}{D:Nat}(d0:0<D)(h1:p.den∣D)(h2:q.den∣D):(p-q).den∣D:=by rw[Rat.sub_eq_add_neg];exact Nq d0 h1 (by rw[Rat.neg_den];exact h2)
theorem R5.ns{R:aD}{ps:List Rat}(h:R5 R ps){k:Nat}(hk:k<ps.length)(w:Bool):0<=VL R ps k w/\VL R ps k w<=R.sz k:=by
 obtain⟨h1,h2⟩:=h.lo k hk;unfold VL;cases w
 . exact⟨h1,h2⟩
 .
  have h3:=(Rat.le_iff_sub_nonneg _ _).mp h2;refine⟨h3,?_⟩;show R.sz k-ps.getD k 0<=R.sz k;rw[Rat.le_iff_sub_nonneg];have:R.sz k-(R.sz k-ps.getD k 0)=ps.getD k 0:=by rw[Rat.sub_eq_add_neg,Rat.sub_eq_add_neg,Rat.neg_add,Rat.neg_neg,<- Rat.add_assoc,Rat.add_neg_cancel,aau]
  rw[this];exact h1
noncomputable def R6(a:Vo):Nat:=min a.one a.other
noncomputable def PX(a:Vo):Nat:=max a.one a.other
theorem kR{R:aD}{k:Nat}(h:k<R.asks.length):aB R k=R.asks[k]:=by unfold aB;rw[gV h];rfl
end My
set_option exponentiation.threshold 5000
namespace My
open PySem L2
end My
set_option exponentiation.threshold 5000
namespace My
open PySem L2
noncomputable def UR(R:aD)(ps:List Rat)(s:Rr):Bool:=!decide (s.k=s.l) && (Rt R.n (aB R s.k) s.kw (aB R s.l) s.lw && (decide (0<s.am) && !decide (VM R ps s.k s.kw s.l s.lw<s.am)))
end My
set_option exponentiation.threshold 5000
namespace My
open PySem L2
section
variable{α:Type}[DecidableEq α]
noncomputable def VO(f:Nat->α)(m:Nat)(e:α):List Nat:=(List.range m).filter λl=>decide (f l=e)
noncomputable def VP(f:Nat->α)(m k:Nat):Bool:=(VO f m (f k)).head? == some k
noncomputable def KW(f:Nat->α)(m:Nat):List Nat:=(List.range m).filter (VP f m)
noncomputable def zh(f:Nat->α):Nat->List α
 |0=>[]
 |n+1=>if f n∈zh f n then zh f n else zh f n++[f n]
theorem CI(f:Nat->α)(n:Nat):zh f (n+1)=if f n∈zh f n then zh f n else zh f n++[f n]:=rfl
theorem wX{f:Nat->α}{e:α}:∀{n:Nat},e∈zh f n↔∃j,j<n/\f j=e
 |0=>by simp[zh]
 | n+1=>by
  have ih:=wX (f:=f) (e:=e) (n:=n);unfold zh;split
  .
   rename_i hm;rw[ih];constructor
   . rintro⟨j,h1,h2⟩;exact⟨j,xL,h2⟩
   .
    rintro⟨j,h1,h2⟩;by_cases e1:j=n
    . subst e1 h2;exact wX.mp hm
    . exact⟨j,xL,h2⟩
  .
   rw[Ys,ih,YB];constructor
   .
    rintro (⟨j,h1,h2⟩|rfl)
    . exact⟨j,xL,h2⟩
    . exact⟨n,xL,rfl⟩
   .
    rintro⟨j,h1,h2⟩;by_cases e1:j=n
    . subst e1 h2;exact .inr rfl
    . exact .inl ⟨j,xL,h2⟩
theorem nJ(f:Nat->α):∀n,(zh f n).Nodup
 |0=>by simp[zh]
 | n+1=>by
  unfold zh;split
  . exact nJ f n
  . rename_i hm;refine Y5.mpr ⟨nJ f n,x_,λa ha b hb e=>?_⟩;rw[YB]at hb;subst hb e;exact hm ha
theorem Nu{f:Nat->α}{m k:Nat}(hk:k<m):VP f m k=true↔f k∉zh f k:=by
 unfold VP VO;rw[List.head?_filter,beq_iff_eq,List.find?_range_eq_some,wX];simp only[Zz,Yb,Bool.not_eq_true',Zb];constructor
 . rintro⟨_,_,h⟩ ⟨j,h1,h2⟩;exact h j h1 h2
 . intro h;exact⟨trivial,hk,λj h1 h2=>h ⟨j,h1,h2⟩⟩
theorem CJ{f:Nat->α}{m:Nat}:∀n,n<=m->zh f n=((List.range n).filter (VP f m)).map f
 |0,_=>rfl
 | n+1,h=>by
  rw[List.range_succ,List.filter_append,Yq,<- CJ n xL];rw[CI];have:=Nu (f:=f) (show n<m by omega);split
  .
   rename_i hm
   have:VP f m n=false:=by
    cases e:VP f m n
    . rfl
    . exact absurd hm (this.mp e)
   simp[this]
  . rename_i hm;simp[this.mpr hm]
theorem GN(f:Nat->α)(m:Nat):zh f m=(KW f m).map f:=CJ m (XZ _)
theorem GO{f:Nat->α}{m k:Nat}(h:k∈KW f m):k<m/\VP f m k=true:=by obtain⟨h1,h2⟩:=ZK.mp h;exact⟨Yb.mp h1,h2⟩
theorem jk{f:Nat->α}{m l:Nat}{e:α}:l∈VO f m e↔l<m/\f l=e:=by simp[VO]
theorem GP(f:Nat->α)(m:Nat)(e:α):(VO f m e).length<=m:=by have:=ZO (λl=>decide (f l=e)) (List.range m);rwa [X6]at this
theorem Nv(f:Nat->α)(m:Nat):(KW f m).length<=m:=by have:=ZO (VP f m) (List.range m);rwa [X6]at this
theorem GQ(f:Nat->α)(n:Nat)(e:α):VO f (n+1) e=VO f n e++if f n=e then[n]else[]:=by
 unfold VO;rw[List.range_succ,List.filter_append]
 congr 1
 by_cases h:f n=e<;>simp[h]
theorem A7{g:Nat->Rat}{f:Nat->α}{n:Nat}:∀(es:List α),es.Nodup->df (es.map λe=>df ((VO f (n+1) e).map g))=df (es.map λe=>df ((VO f n e).map g))+if f n∈es then g n else 0
 |[],_=>by simp[df];grind
 | e::es,hn=>by
  obtain⟨h1,h2⟩:=Yr.mp hn;rw[X7,X7,aS,aS,A7 es h2,GQ,Yq,q8];by_cases h:f n=e
  . subst h;rw[if_pos rfl,if_neg h1,if_pos XU];show _+df [g n]+_=_;rw[aS];have:df []=0:=rfl;grind
  .
   rw[if_neg h];have:df (List.map g [])=0:=rfl;rw[this];by_cases h3:f n∈es
   . rw[if_pos h3,if_pos (p3 _ h3)];grind
   . rw[if_neg h3,if_neg (by simp[h,h3])];grind
theorem A8{g:Nat->Rat}{f:Nat->α}:∀n,df ((zh f n).map λe=>df ((VO f n e).map g))=df ((List.range n).map g)
 |0=>rfl
 | n+1=>by
  rw[List.range_succ,Yq,q8,<- A8 (f:=f) n];have hs:df (List.map g [n])=g n:=by show df [g n]=_;rw[aS];show _+(0:Rat)=_;grind
  rw[hs];rw[CI];split
  . rename_i hm;rw[A7 _ (nJ f n),if_pos hm]
  .
   rename_i hm;rw[Yq,q8,A7 _ (nJ f n),if_neg hm];have e0:VO f n (f n)=[]:=by refine List.eq_nil_iff_forall_not_mem.mpr λl hl=>hm (wX.mpr ?_);exact⟨l,jk.mp hl⟩
   show _+0+df [df ((VO f (n+1) (f n)).map g)]=_;rw[GQ,e0,if_pos rfl,aS];show _+0+(df [g n]+0)=_;rw[aS];show _+0+(g n+0+0)=_;grind
end
noncomputable def VQ(R:aD)(k:Nat):Nat×Nat:=(R6 (aB R k),PX (aB R k))
noncomputable def HK(R:aD)(k:Nat):Rat:=df ((VO (VQ R) R.asks.length (VQ R k)).map R.sz)
noncomputable def KY(R:aD)(ps:List Rat)(k l:Nat):Rat:=if(aB R l).one=(aB R k).one then ps.getD l 0 else R.sz l-ps.getD l 0
noncomputable def KZ(R:aD)(ps:List Rat)(k:Nat):Rat:=df ((VO (VQ R) R.asks.length (VQ R k)).map (KY R ps k))
noncomputable def dR(R:aD):List Nat:=KW (VQ R) R.asks.length
noncomputable def DJ(R:aD)(k:Nat):Vo:=⟨(aB R k).nm,(aB R k).one,(aB R k).other,HK R k⟩
noncomputable def mj(R:aD):aD:=⟨R.rooms,(dR R).map (DJ R)⟩
noncomputable def Nw(R:aD)(ps:List Rat):List Rat:=(dR R).map (KZ R ps)
end My
set_option exponentiation.threshold 5000
namespace My
open PySem L2
theorem wY(R:aD):(mj R).asks.length=(dR R).length:=by simp[mj]
theorem CK(R:aD)(ps:List Rat):(Nw R ps).length=(dR R).length:=by simp[Nw]
theorem GR(R:aD):(dR R).length<=R.asks.length:=Nv _ _
theorem JZ{R:aD}{k:Nat}(h:k∈dR R):k<R.asks.length:=(GO h).1
theorem GS{R:aD}{k l:Nat}(h:VQ R l=VQ R k):((aB R l).one=(aB R k).one/\(aB R l).other=(aB R k).other)∨((aB R l).one≠(aB R k).one/\(aB R l).one=(aB R k).other/\(aB R l).other=(aB R k).one):=by unfold VQ R6 PX at h;rw[Prod.mk.injEq]at h;omega
theorem GT{R:aD}(hR:R.Ok){ps:List Rat}{k l t:Nat}(hk:k<R.asks.length)(hl:l<R.asks.length)(h:VQ R l=VQ R k)(ht:t<R.n) :
  lu R.n (aB R l) (ps.getD l 0) t=if b7 R.n (aB R k) t then KY R ps k l else R.sz l-KY R ps k l:=by
 have hs:(aB R l).size=R.sz l:=by rw[kR hl,qH hl]
 unfold lu KY;rw[hs];rcases GS h with⟨e1,e2⟩|⟨e0,e1,e2⟩
 .
  have:b7 R.n (aB R l) t=b7 R.n (aB R k) t:=by unfold b7;rw[e1,e2]
  rw[this,if_pos e1]
 .
  have e3:b7 R.n (aB R l) t=!b7 R.n (aB R k) t:=by rw[<- Gg (gi hR hk) ht];unfold b7 Gf;rw[e1,e2]
  rw[e3,if_neg e0];cases b7 R.n (aB R k) t
  . simp;grind
  . simp
theorem DK{R:aD}(hR:R.Ok){ps:List Rat}{k t:Nat}(hk:k<R.asks.length)(ht:t<R.n) :
  lu R.n (DJ R k) (KZ R ps k) t=df ((VO (VQ R) R.asks.length (VQ R k)).map λl=>lu R.n (aB R l) (ps.getD l 0) t):=by
 have e:((VO (VQ R) R.asks.length (VQ R k)).map λl=>lu R.n (aB R l) (ps.getD l 0) t)=(VO (VQ R) R.asks.length (VQ R k)).map λl=>if b7 R.n (aB R k) t then KY R ps k l else R.sz l-KY R ps k l :=
  Yu λl hl=>GT hR hk (jk.mp hl).1 (jk.mp hl).2 ht
 rw[e];have e2:b7 R.n (DJ R k) t=b7 R.n (aB R k) t:=rfl;unfold lu;rw[e2];cases b7 R.n (aB R k) t
 . simp only[YL,ZH];rw[<- wB];rfl
 . simp only[Zh];rfl
theorem J0{R:aD}(hR:R.Ok){ps:List Rat}(hl:ps.length=R.asks.length){t:Nat}(ht:t<R.n):cj R.n (mj R).asks (Nw R ps) t=cj R.n R.asks ps t:=by
 have e1:(mj R).asks.zip (Nw R ps)=(dR R).map λk=>(DJ R k,KZ R ps k):=by show((dR R).map (DJ R)).zip ((dR R).map (KZ R ps))=_;rw[List.zip_map']
 unfold cj;rw[e1,Yd]
 have e2:(dR R).map ((λx=>lu R.n x.1 x.2 t) ∘ λk=>(DJ R k,KZ R ps k))=(dR R).map λk=>(λe=>df ((VO (VQ R) R.asks.length e).map λl=>lu R.n (aB R l) (ps.getD l 0) t)) (VQ R k) :=
  Yu λk hk=>DK hR (JZ hk) ht
 rw[e2];have e3:=A8 (f:=VQ R) (g:=λl=>lu R.n (aB R l) (ps.getD l 0) t) R.asks.length;rw[GN,Yd]at e3;show df (List.map _ (KW (VQ R) R.asks.length))=_;rw[show(List.map (λk=>(λe=>df ((VO (VQ R) R.asks.length e).map λl=>lu R.n (aB R l) (ps.getD l 0) t)) (VQ R k)) (KW (VQ R) R.asks.length))=List.map ((λe=>df ((VO (VQ R) R.asks.length e).map λl=>lu R.n (aB R l) (ps.getD l 0) t)) ∘ VQ R) (KW (VQ R) R.asks.length)from rfl,e3]
 congr 1
 refine YH (by simp[hl]) λi h1 h2=>?_;simp at h1;simp only[YT,YV,ZC];rw[kR h1,GM xL]
theorem J1{n V W:Nat}(h:n*W<V):(n:Rat)*(W:Rat)<(V:Rat):=by
 have h1:(((n*W:Nat):Int):Rat)<((V:Int):Rat):=Rat.intCast_lt_intCast.mpr xL;have h2:(((n*W:Nat):Int):Rat)=(n:Rat)*(W:Rat):=by push_cast;rfl
 rw[<- h2];exact h1
theorem SS{q:Rat}(h:RB 60 q):q<((2^60:Nat):Rat):=by
 rw[Rat.lt_iff];have h1:=h.1;have h2:=q.den_pos;have e1:((2^60:Nat):Rat).num=((2^60:Nat):Int):=rfl;have e2:((2^60:Nat):Rat).den=1:=rfl;rw[e1,e2];have h3:q.num<((2^60:Nat):Int):=by omega
 have h4:((2^60:Nat):Int)*1<=((2^60:Nat):Int)*(q.den:Int):=Int.mul_le_mul_of_nonneg_left xL xL;omega
theorem K0{R:aD}(hR:R.Ok)(hT:∀a∈R.asks,RB 60 a.size)(k:Nat):0<=HK R k/\HK R k<((2^300:Nat):Rat)/\∀D:Nat,0<D->(∀a∈R.asks,a.size.den∣D)->(HK R k).den∣D:=by
 have hm:∀l∈VO (VQ R) R.asks.length (VQ R k),∃a∈R.asks,R.sz l=a.size:=λl hl=>by have:=(jk.mp hl).1;exact⟨_,X8 this,qH this⟩
 refine⟨fC _ _ λl hl=>?_,?_,λD d0 hd=>AY d0 _ λq hq=>?_⟩
 . obtain⟨a,ha,e⟩:=hm l hl;rw[e];exact(hR.ask a ha).size
 .
  refine Rat.not_le.mp λhge=>?_;have h1:=AZ (V:=((2^60:Nat):Rat)) xp ((VO (VQ R) R.asks.length (VQ R k)).map R.sz) λq hq=>by obtain⟨l,hl,rfl⟩:=XY.mp hq;obtain⟨a,ha,e⟩:=hm l hl;rw[e];exact SS (hT a ha)
  rw[tv]at h1
  have h2:=J1 (n:=(VO (VQ R) R.asks.length (VQ R k)).length) (V:=2^300) (W:=2^60) (by
   have:=GP (VQ R) R.asks.length (VQ R k);have:=hR.few
   omega)
  exact absurd (ZG hge h1) (Rat.not_le.mpr h2)
 . obtain⟨l,hl,rfl⟩:=XY.mp hq;obtain⟨a,ha,e⟩:=hm l hl;rw[e];exact hd a ha
theorem PY{R:aD}(hR:R.Ok)(hT:∀a∈R.asks,RB 60 a.size):(mj R).Ok:=by
 refine⟨hR.lo,hR.hi,?_,hR.room,λa ha=>?_,?_⟩
 . rw[wY];exact X0 (GR R) hR.few
 . obtain⟨k,hk,rfl⟩:=XY.mp ha;have h1:=gi hR (JZ hk);obtain⟨g1,g2,_⟩:=K0 hR hT k;exact⟨h1.one,h1.other,h1.ne,g1,g2,h1.nm⟩
 . obtain⟨D,d0,d1,da⟩:=hR.cd;refine⟨D,d0,d1,λa ha=>?_⟩;obtain⟨k,hk,rfl⟩:=XY.mp ha;exact(K0 hR hT k).2.2 D d0 da
theorem GU(R:aD):eZ (R.asks.map d6)=(List.range R.asks.length).map λ(k:Nat)=>D.tup [.int (k:Int),d6 (aB R k)]:=by
 apply List.ext_getElem?;intro k;by_cases hk:k<R.asks.length
 . rw[X1,Yn hk];simp[eZ,hk,aB]
 . rw[ZN (by simp[eZ];omega),ZN (by simp;omega)]
noncomputable def PZ(p:Nat×Nat):D:=.lst [.int (p.1:Int),.int (p.2:Int)]
theorem P0(i j:Nat):(W.sortI [(i:Int),(j:Int)])=[((min i j:Nat):Int),((max i j:Nat):Int)]:=by
 show(if(j:Int)<i then[(j:Int),(i:Int)]else[(i:Int),(j:Int)])=_
 by_cases h:j<i
 . rw[if_pos (by omega),Nat.min_eq_right xL,Nat.max_eq_left xL]
 . rw[if_neg (by omega),aaa xL,Nat.max_eq_right xL]
theorem Nx(n:Nat)(p:Nat×Nat):UW (n+1) (PZ p)=true:=by cases n<;>simp[PZ,UW,p7]
theorem zk(p:Nat×Nat):dj (PZ p):=d5 (Nx 0 p) xp
theorem Ny(p q:Nat×Nat):UL (PZ p) (PZ q)=decide (p=q):=by have h:=Jb [(p.1:Int),(p.2:Int)] [(q.1:Int),(q.2:Int)];show UL (.lst [.int (p.1:Int),.int (p.2:Int)]) (.lst [.int (q.1:Int),.int (q.2:Int)])=_;rw[show(.lst [.int (p.1:Int),.int (p.2:Int)]:D)=.lst ([(p.1:Int),(p.2:Int)].map .int)from rfl,show(.lst [.int (q.1:Int),.int (q.2:Int)]:D)=.lst ([(q.1:Int),(q.2:Int)].map .int)from rfl,h];refine YA.mpr ⟨λe=>?_,λe=>by rw[e]⟩;have e1:=List.cons.inj e;have e2:=(List.cons.inj e1.2).1;exact Prod.ext xL xL
theorem zm{α:Type}[DecidableEq α](f:Nat->α)(m:Nat)(e:α):(List.range m).filterMap (λ(l:Nat)=>if f l=e then some (D.int (l:Int))else none)=(VO f m e).map λ(l:Nat)=>D.int (l:Int):=by
 unfold VO;rw[<- List.filterMap_eq_map,List.filterMap_filter]
 congr 1
 funext l
 by_cases h:f l=e<;>simp[h]
structure Pt (n:Nat) (d:D):Prop where
 dep:yb d<=n
 wid:zd d<=99
 same:Cf (20+n) d=true
theorem Pt.int(i:Int):Pt 0 (.int i):=⟨by simp[yb],by simp[zd],by simp[Cf]⟩
theorem Pt.str(z:Str):Pt 0 (.str z):=⟨by simp[yb],by simp[zd],by simp[Cf]⟩
end My
set_option exponentiation.threshold 5000
namespace My
open PySem L2
end My
set_option exponentiation.threshold 5000
namespace My
open PySem L2
noncomputable def qI(f:Nat->Nat)(a:Vo):Vo:=⟨a.nm,f a.one,f a.other,a.size⟩
noncomputable def bQ(R:aD)(m:Nat):aD:=⟨(List.range R.n).map λt=>R.rooms.getD ((t+(R.n-m)) % R.n) 0,R.asks.map (qI λp=>(p+m) % R.n)⟩
noncomputable def HL(n t:Nat):Nat:=(2*n-2-t) % n
noncomputable def lj(R:aD):aD:=⟨(List.range R.n).map λt=>R.rooms.getD (HL R.n t) 0,R.asks.map (qI λp=>R.n-1-p)⟩
noncomputable def Nz(a:Vo):Vo:=⟨a.nm,a.other,a.one,a.size⟩
noncomputable def sL(s:List Nat)(k:Nat)(a:Vo):Vo:=if k∈s then Nz a else a
noncomputable def eM(R:aD)(s:List Nat):aD:=⟨R.rooms,(List.range R.asks.length).map λk=>sL s k (aB R k)⟩
structure NA (R:aD):Prop where
 lo:2<=R.n
 hi:R.n<=12
 few:R.asks.length<=20
 one:∀a∈R.asks,a.one<R.n/\a.other<R.n
 nms:∀a∈R.asks,PyData.strOk a.nm=true
theorem qa(R:aD)(m:Nat):(bQ R m).n=R.n:=by simp[bQ,aD.n]
theorem zp(R:aD):(lj R).n=R.n:=by simp[lj,aD.n]
theorem P1(R:aD)(s:List Nat):(eM R s).n=R.n:=rfl
theorem bt{R:aD}{k:Nat}(h:k<R.asks.length):aB R k∈R.asks:=by unfold aB;rw[gV h];exact X8 h
theorem nK{xs:List Rat}{n:Nat}{f:Nat->Rat}(hl:xs.length=n)(h:∀t,t<n->f t=xs.getD t 0):(List.range n).map f=xs:=by
 refine YH (by simp[hl]) λt h1 h2=>?_;have ht:t<n:=by simpa using h1
 rw[YT,YV,h t ht,k4,gV h2];rfl
theorem GV{n:Nat}{f:Nat->Rat}{t:Nat}(h:t<n):((List.range n).map f).getD t 0=f t:=by rw[k4,X1,Yn h];rfl
theorem NB{f:Nat->Nat}{a:Vo}(h1:f a.one=a.one)(h2:f a.other=a.other):qI f a=a:=by cases a;simp only[qI]at h1 h2 ⊢;rw[h1,h2]
theorem GW{R:aD}(h:NA R){m k:Nat}(hm:m<R.n)(hk:k<R.n):bQ (bQ R m) k=bQ R ((m+k) % R.n):=by
 have hl:=h.lo
 have e1:(bQ (bQ R m) k).rooms=(bQ R ((m+k) % R.n)).rooms:=by
  show(List.range (bQ R m).n).map _=(List.range R.n).map _;rw[qa];refine Yu λt ht=>?_;have ht:t<R.n:=Yb.mp ht;show((List.range R.n).map λt=>R.rooms.getD ((t+(R.n-m)) % R.n) 0).getD ((t+(R.n-k)) % R.n) 0=_;rw[GV (YW _ xL)]
  congr 1
  rw[Nat.mod_add_mod]
  have:(m+k) % R.n=if m+k<R.n then m+k else m+k-R.n:=by
   split
   . exact Y4 (by assumption)
   . rw[Nat.mod_eq_sub_mod xL,Y4 xL]
  rw[this];split
  . rw[show t+(R.n-k)+(R.n-m)=t+(R.n-(m+k))+R.n by omega,Nat.add_mod_right]
  . rw[show t+(R.n-k)+(R.n-m)=t+(R.n-(m+k-R.n)) by omega]
 have e2:(bQ (bQ R m) k).asks=(bQ R ((m+k) % R.n)).asks:=by
  show(R.asks.map _).map _=R.asks.map _;rw[Yd];refine Yu λa _=>?_;simp only[Function.comp,qI,qa]
  congr 1
  . rw[Nat.mod_add_mod,Nat.add_mod_mod,Nat.add_assoc]
  . rw[Nat.mod_add_mod,Nat.add_mod_mod,Nat.add_assoc]
 cases hq:bQ (bQ R m) k;cases hp:bQ R ((m+k) % R.n);rw[hq,hp]at e1 e2
 simp_all
theorem P2{R:aD}(h:NA R):bQ R 0=R:=by
 have hl:=h.lo;have e1:(bQ R 0).rooms=R.rooms:=nK rfl λt ht=>by rw[Nat.sub_zero,Nat.add_mod_right,Y4 ht]
 have e2:(bQ R 0).asks=R.asks:=by
  show R.asks.map _=_
  conv=>rhs;rw[<- List.map_id R.asks]
  refine Yu λa ha=>?_;obtain⟨h1,h2⟩:=h.one a ha;exact NB (Y4 h1) (Y4 h2)
 cases hq:bQ R 0;cases R;rw[hq]at e1 e2
 simp_all
theorem J2{n t:Nat}(hn:2<=n)(ht:t<n):HL n t=if t+1<n then n-2-t else n-1:=by
 unfold HL;split
 . rw[show 2*n-2-t=n-2-t+n by omega,Nat.add_mod_right,Y4 xL]
 . rw[show 2*n-2-t=n-1 by omega,Y4 xL]
theorem NC{R:aD}(h:NA R):lj (lj R)=R:=by
 have hl:=h.lo
 have e1:(lj (lj R)).rooms=R.rooms:=nK (zp R).symm λt ht=>by
  rw[zp]at ht ⊢;show((List.range R.n).map λt=>R.rooms.getD (HL R.n t) 0).getD (HL R.n t) 0=_;have h1:=J2 hl ht;have h2:HL R.n t<R.n:=YW _ xL;rw[GV h2]
  congr 1
  rw[J2 hl h2,h1];split<;>split<;>omega
 have e2:(lj (lj R)).asks=R.asks:=by
  show(R.asks.map _).map _=_;rw[Yd]
  conv=>rhs;rw[<- List.map_id R.asks]
  refine Yu λa ha=>?_;obtain⟨h1,h2⟩:=h.one a ha;simp only[Function.comp,qI,zp,id];cases a;simp only at h1 h2 ⊢
  congr 1<;>omega
 cases hq:lj (lj R);cases R;rw[hq]at e1 e2
 simp_all
theorem J3(R:aD):(List.range R.asks.length).map (aB R)=R.asks:=by
 apply List.ext_getElem?;intro k;by_cases hk:k<R.asks.length
 . rw[X1,Yn hk];unfold aB;simp[hk]
 . rw[ZN (by simp;omega),ZN xL]
theorem rj(R:aD)(s:List Nat):(eM R s).asks.length=R.asks.length:=by simp[eM]
theorem A9{R:aD}{s:List Nat}{k:Nat}(h:k<R.asks.length):aB (eM R s) k=sL s k (aB R k):=by
 conv=>lhs;unfold aB
 simp[eM,h]
theorem GX{R:aD}(s:List Nat):eM (eM R s) s=R:=by
 have e2:(List.range (eM R s).asks.length).map (λk=>sL s k (aB (eM R s) k))=R.asks:=by
  rw[rj]
  conv=>rhs;rw[<- J3 R]
  refine Yu λk hk=>?_;rw[A9 (Yb.mp hk)];unfold sL;split<;>rfl
 show aD.mk R.rooms _=R;rw[e2]
end My
set_option exponentiation.threshold 5000
namespace My
open PySem L2
structure vC (R:aD) (ps:List Rat):Prop where
 lo:2<=R.n
 hi:R.n<=12
 few:R.asks.length<=20
 ask:∀a∈R.asks,c8 R.n a
 len:ps.length=R.asks.length
 pt:∀k,k<ps.length->0<=ps.getD k 0/\ps.getD k 0<=R.sz k
 cd:∃D:Nat,0<D/\D<2^1500/\(∀a∈R.asks,a.size.den∣D)/\∀p∈ps,p.den∣D
noncomputable def ND(R:aD)(ps:List Rat)(s:Nat->Bool):List Rat:=(List.range ps.length).map λk=>if s k then R.sz k-ps.getD k 0 else ps.getD k 0
theorem GY(R:aD)(ps:List Rat)(s:Nat->Bool):(ND R ps s).length=ps.length:=by simp[ND]
theorem vC.of{R R':aD}{ps:List Rat}(h:vC R ps)(lo:2<=R'.n)(hi:R'.n<=12)(hl:R'.asks.length=R.asks.length)
  (ha:∀(i:Nat)(h1:i<R.asks.length)(h2:i<R'.asks.length),c8 R'.n R'.asks[i]/\R'.asks[i].size=R.asks[i].size) (s:Nat->Bool):vC R' (ND R ps s):=by
 have hz:∀k,k<ps.length->R'.sz k=R.sz k:=λk hk=>by
  have h1:k<R.asks.length:=by rw[<- h.len];exact hk
  rw[qH h1,qH (by rw[hl];exact h1)];exact(ha k h1 (by rw[hl];exact h1)).2
 refine⟨lo,hi,by rw[hl];exact h.few,λa hm=>?_,by rw[GY,hl];exact h.len,λk hk=>?_,?_⟩
 . obtain⟨i,hi,rfl⟩:=List.getElem_of_mem hm;exact(ha i (by rw[<- hl];exact hi) hi).1
 .
  rw[GY]at hk
  have e:(ND R ps s).getD k 0=if s k then R.sz k-ps.getD k 0 else ps.getD k 0:=GV hk
  obtain⟨l0,l1⟩:=h.pt k hk;rw[e,hz k hk];split<;>grind
 .
  obtain⟨D,d0,d1,da,dp⟩:=h.cd;refine⟨D,d0,d1,λa hm=>?_,λp hp=>?_⟩
  . obtain⟨i,hi,rfl⟩:=List.getElem_of_mem hm;rw[(ha i (by rw[<- hl];exact hi) hi).2];exact da _ (X8 _)
  .
   obtain⟨k,hk,rfl⟩:=XY.mp hp;have hk:=Yb.mp hk;have hk':k<R.asks.length:=by rw[<- h.len];exact hk
   have d2:(ps.getD k 0).den∣D:=by rw[GM hk];exact dp _ (X8 _)
   have d3:(R.sz k).den∣D:=by rw[qH hk'];exact da _ (X8 _)
   split
   . exact Nr d0 d3 d2
   . exact d2
theorem wZ{R:aD}{ps:List Rat}:ND R ps (λ_=>false)=ps:=nK rfl λt _=>rfl
theorem Ru{n x:Nat}(h:x<2*n):x % n=if x<n then x else x-n:=by
 split
 . exact Y4 (by assumption)
 . rw[Nat.mod_eq_sub_mod xL,Y4 xL]
theorem K1{n i j:Nat}(hi:i<n)(hj:j<n):(i<=j/\Vr n i j=j-i)∨(j<i/\Vr n i j=j+n-i):=by
 rw[dN hi hj];split
 . exact .inl ⟨by assumption,rfl⟩
 . exact .inr ⟨xL,rfl⟩
theorem K2{n x:Nat}(h:x<2*n):(x<n/\x % n=x)∨(n<=x/\x % n=x-n):=by
 rw[Ru h];split
 . exact .inl ⟨by assumption,rfl⟩
 . exact .inr ⟨xL,rfl⟩
theorem zq{n m i j:Nat}(hi:i<n)(hj:j<n)(hm:m<n):Vr n ((i+m) % n) ((j+m) % n)=Vr n i j:=by have f1:=K1 (YW (i+m) (show 0<n by omega)) (YW (j+m) (show 0<n by omega));have f2:=K1 hi hj;have m1:=K2 (show i+m<2*n by omega);have m2:=K2 (show j+m<2*n by omega);generalize (i+m) % n=x1 at *;generalize (j+m) % n=x2 at *;generalize Vr n x1 x2=y1 at *;generalize Vr n i j=y2 at *;omega
theorem NF{n m:Nat}{a:Vo}(h:c8 n a)(hm:m<n){t:Nat}(ht:t<n):b7 n (qI (λp=>(p+m) % n) a) t=b7 n a ((t+(n-m)) % n):=by
 have e:t=((t+(n-m)) % n+m) % n:=by rw[Nat.mod_add_mod,show t+(n-m)+m=t+n by omega,Nat.add_mod_right,Y4 ht]
 have ht':(t+(n-m)) % n<n:=YW _ xL;generalize (t+(n-m)) % n=t' at *;subst e;unfold b7 qI;simp only;rw[zq h.one ht' hm,zq h.one h.other hm]
theorem CL{n:Nat}{a:Vo}(h:c8 n a){t:Nat}(ht:t<n):b7 n a t=if a.one<a.other then decide (a.one<=t) && decide (t<a.other)else decide (a.one<=t) ||decide (t<a.other):=by
 have h1:=h.one;have h2:=h.other;have h3:=h.ne;unfold b7;rw[dN h1 ht,dN h1 h2];by_cases c:a.one<a.other
 . rw[if_pos c,if_pos (Za c),<- Bool.decide_and,YA];split<;>omega
 . rw[if_neg c,if_neg (show ¬a.one<=a.other by omega),<- Bool.decide_or,YA];split<;>omega
theorem P3{n n':Nat}{a a':Vo}{t t':Nat}(h:c8 n a)(h':c8 n' a')(ht:t<n)(ht':t' < n')(e1:a'.one<a'.other↔a.one<a.other)(e2:a'.one<=t'↔a.one<=t)(e3:t' < a'.other↔t<a.other):b7 n' a' t'=b7 n a t:=by
 rw[CL h ht,CL h' ht',YA.mpr e2,YA.mpr e3];by_cases c:a.one<a.other
 . rw[if_pos c,if_pos (e1.mpr c)]
 . rw[if_neg c,if_neg λz=>c (e1.mp z)]
theorem vC.turn{R:aD}{ps:List Rat}(h:vC R ps){m:Nat}(hm:m<R.n):vC (bQ R m) ps:=by
 have hl:=h.lo;have:=h.of (R':=bQ R m) (by rw[qa];exact hl) (by rw[qa];exact h.hi) (by simp[bQ]) (λi h1 h2=>?_) (λ_=>false)
 . rwa [wZ]at this
 .
  have ha:=h.ask _ (X8 h1);have a1:=ha.one;have a2:=ha.other;have a3:=ha.ne;simp only[bQ,YT];refine⟨⟨?_,?_,?_,ha.size,ha.lt,ha.nm⟩,rfl⟩
  . show _ % _<(bQ R m).n;rw[qa];exact YW _ xL
  . show _ % _<(bQ R m).n;rw[qa];exact YW _ xL
  . show(_+m) % R.n≠(_+m) % R.n;rw[Ru (show R.asks[i].one+m<2*R.n by omega),Ru (show R.asks[i].other+m<2*R.n by omega)];split<;>split<;>omega
theorem P4{n:Nat}{a:Vo}(h:c8 n a)(hn:2<=n){t:Nat}(ht:t<n):b7 n (qI (λp=>n-1-p) a) t=!b7 n a (HL n t):=by have h1:=h.one;have h2:=h.other;have h3:=h.ne;unfold b7 qI;simp only;have e3:HL n t<n:=YW _ xL;rw[dN (show n-1-a.one<n by omega) ht,dN (show n-1-a.one<n by omega) (show n-1-a.other<n by omega),dN h1 e3,dN h1 h2,<- decide_not,YA];rw[J2 hn ht];split<;>split<;>split<;>split<;>split<;>omega
theorem vC.mir{R:aD}{ps:List Rat}(h:vC R ps):vC (lj R) (ND R ps λ_=>true):=by
 have hl:=h.lo;refine h.of (R':=lj R) (by rw[zp];exact hl) (by rw[zp];exact h.hi) (by simp[lj]) (λi h1 h2=>?_) _;have ha:=h.ask _ (X8 h1);have a1:=ha.one;have a2:=ha.other;have a3:=ha.ne;simp only[lj,YT];refine⟨⟨?_,?_,?_,ha.size,ha.lt,ha.nm⟩,rfl⟩
 . show R.n-1 - _<(lj R).n;rw[zp];omega
 . show R.n-1 - _<(lj R).n;rw[zp];omega
 . show R.n-1-R.asks[i].one≠R.n-1-R.asks[i].other;omega
theorem NG{n:Nat}{a:Vo}(h:c8 n a){t:Nat}(ht:t<n):b7 n (Nz a) t=!b7 n a t:=by have h1:=h.one;have h2:=h.other;have h3:=h.ne;unfold b7 Nz;simp only;rw[dN h2 ht,dN h2 h1,dN h1 ht,dN h1 h2,<- decide_not,YA];split<;>split<;>split<;>split<;>omega
theorem J4{R:aD}{s:List Nat}{i:Nat}(h:i<R.asks.length)(h2:i<(eM R s).asks.length):(eM R s).asks[i]=sL s i R.asks[i]:=by simp only[eM,YT,YV];rw[kR h]
theorem vC.told{R:aD}{ps:List Rat}(h:vC R ps)(s:List Nat):vC (eM R s) (ND R ps λk=>decide (k∈s)):=by
 refine h.of (R':=eM R s) h.lo h.hi (rj R s) (λi h1 h2=>?_) _;have ha:=h.ask _ (X8 h1);rw[J4 h1];unfold sL;split
 . exact⟨⟨ha.other,ha.one,ha.ne.symm,ha.size,ha.lt,ha.nm⟩,rfl⟩
 . exact⟨ha,rfl⟩
noncomputable def VR(t i:Nat):Nat:=if i<=t then i else i-1
theorem P5{p i t:Nat}:(VI p i<=t↔i<=VR p t)/\(t<VI p i↔VR p t<i):=by unfold VI VR;split<;>split<;>omega
theorem Rv{p i j:Nat}:VI p i<VI p j↔i<j:=by unfold VI;split<;>split<;>omega
theorem P6{n p:Nat}{a:Vo}(h:c8 n a)(hp:p<n):c8 (n+1) (VJ p a):=by
 have a1:=h.one;have a2:=h.other;have a3:=h.ne;refine⟨?_,?_,?_,h.size,h.lt,h.nm⟩
 . show VI p a.one<n+1;unfold VI;split<;>omega
 . show VI p a.other<n+1;unfold VI;split<;>omega
 . show VI p a.one≠VI p a.other;unfold VI;split<;>split<;>omega
theorem K3{n p:Nat}{a:Vo}(h:c8 n a)(hp:p<n){t:Nat}(ht:t<n+1):b7 (n+1) (VJ p a) t=b7 n a (VR p t) :=
 P3 h (P6 h hp) (by unfold VR;split<;>omega) ht Rv P5.1 P5.2
theorem J5{R:aD}{p:Nat}(hp:p<R.n):(wW R p).n=R.n+1:=JY hp
theorem vC.put{R:aD}{ps:List Rat}(h:vC R ps){p:Nat}(hp:p<R.n)(h12:R.n<12):vC (wW R p) ps:=by
 have hl:=h.lo;have:=h.of (R':=wW R p) (by rw[J5 hp];omega) (by rw[J5 hp];omega) (by simp[wW]) (λi h1 h2=>?_) (λ_=>false)
 . rwa [wZ]at this
 .
  simp only[wW,YT]
  exact⟨by
   have:=P6 (h.ask _ (X8 h1)) hp;rw[<- J5 hp]at this
   exact this,rfl⟩
noncomputable def VS(p i:Nat):Nat:=if i<p then i else i+1
theorem K4{p i t:Nat}(h:i≠p):(Aj p i<=t↔i<=VS p t)/\(t<Aj p i↔VS p t<i):=by unfold Aj VS;split<;>split<;>omega
theorem P7{p i j:Nat}(h1:i≠p)(h2:j≠p):Aj p i<Aj p j↔i<j:=by unfold Aj;split<;>split<;>omega
theorem K5{n p:Nat}{a:Vo}(h:c8 n a)(hp:p<n)(h1:a.one≠p)(h2:a.other≠p):c8 (n-1) (QJ p a):=by have a3:=h.ne;refine⟨GJ h.one hp h1,GJ h.other hp h2,?_,h.size,h.lt,h.nm⟩;show Aj p a.one≠Aj p a.other;unfold Aj;split<;>split<;>omega
theorem w4{n p:Nat}{a:Vo}(h:c8 n a)(hp:p<n)(h1p:a.one≠p)(h2p:a.other≠p){t:Nat}(ht:t<n-1):b7 (n-1) (QJ p a) t=b7 n a (VS p t) :=
 P3 h (K5 h hp h1p h2p) (by unfold VS;split<;>omega) ht (P7 h1p h2p) (K4 h1p).1 (K4 h2p).2
theorem CM{R:aD}{p:Nat}(hp:p<R.n)(hl:2<=R.n):(eV R p).n=R.n-1:=GK hp hl
theorem zr{a:Vo}{p:Nat}(h:DI a p=false):a.one≠p/\a.other≠p:=by simpa only[DI,aai,Zb]using h
theorem vC.take{R:aD}{ps:List Rat}(h:vC R ps){p:Nat}(hp:p<R.n)(h2:2<R.n)(hf:∀a∈R.asks,DI a p=false):vC (eV R p) ps:=by
 have hl:=h.lo;have hh:=h.hi;have:=h.of (R':=eV R p) (by rw[CM hp hl];omega) (by rw[CM hp hl];omega) (by simp[eV]) (λi h1 h2=>?_) (λ_=>false)
 . rwa [wZ]at this
 .
  obtain⟨f1,f2⟩:=zr (hf _ (X8 h1));simp only[eV,YT]
  exact⟨by
   have:=K5 (h.ask _ (X8 h1)) hp f1 f2;rw[<- CM hp hl]at this
   exact this,rfl⟩
structure K6 (R:aD):Prop where
 ok:R.Ok
 hi:R.n<=12
 few:R.asks.length<=20
 nms:(∀a∈R.asks,HJ a.nm)/\(R.asks.map (·.nm)).Nodup
 tt:∀a∈R.asks,RB 60 a.size
theorem K6.all{R:aD}(h:K6 R):∀a∈R.asks,c8 R.rooms.length a/\HJ a.nm/\RB 60 a.size:=λa ha=>⟨h.ok.ask a ha,h.nms.1 a ha,h.tt a ha⟩
def VT(xs:List D):Prop:=∀x∈xs,x=.non∨∃w,x=.str (oV w)
theorem VT.ok{xs:List D}(h:VT xs):UW 1 (.lst xs)=true:=by
 simp only[UW]
 have:=wo (f:=id) (n:=0) xs λx hx=>by
  rcases h x hx with rfl|⟨w,rfl⟩
  . rfl
  . cases w<;>decide +kernel
 rwa [List.map_id]at this
end My
set_option exponentiation.threshold 5000
namespace My
open PySem L2
end My
set_option exponentiation.threshold 5000
namespace My
open PySem L2
structure WK (n s:Nat) (d:D):Prop where
 ok:Vm d=true
 sh:gh d=true
 dp:(UK d).depth<=n
 sg:Dp d<=s
theorem WK.all{n s:Nat}:∀{ds:List D},(∀d∈ds,WK n s d)->MF ds=true/\iC ds=true/\PyData.depthAll (fg ds)<=n/\yQ ds<=(s+2)*ds.length
 |[],_=>⟨rfl,rfl,YO _,XZ _⟩
 | d::ds,h=>by have h0:=h d XU;obtain⟨h1,h2,h3,h4⟩:=WK.all λx hx=>h x (p3 _ hx);have dp:=h0.dp;have sg:=h0.sg;refine⟨by simp only[MF,h0.ok,h1,Bool.and_self],by simp only[iC,h0.sh,h2,Bool.and_self],by simp only[fg,PyData.depthAll];omega,?_⟩;simp only[yQ,Y3,Nat.mul_add,Nat.mul_one];omega
theorem WK.int{i:Int}(h:i.natAbs<2^60):WK 0 602 (.int i):=⟨rfl,by simp only[gh];exact Y6 (XX h (X9 xp xp)),XZ 0,XZ _⟩
end My
set_option exponentiation.threshold 5000
namespace My
open PySem L2
structure EP (N:Nat) (x:D):Prop where
 ok:UW 3 x=true
 wk:WK 1 1300 x
 q:∀q,x=UV q->q.den∣N
structure VU (R:aD) (N:Nat):Prop where
 n0:0<N
 n1:N<2^1340
 d36:36∣N
 da:∀a∈R.asks,a.size.den*12∣N
 sp:∀p∈M8 R (eL R).1,p.den∣N
theorem VU.ask{R:aD}{N:Nat}(h:VU R N):∀a∈R.asks,a.size.den∣N:=λa ha=>Z3 (Nat.dvd_mul_right _ _) (h.da a ha)
end My
set_option exponentiation.threshold 5000
namespace My
open PySem L2
end My
set_option exponentiation.threshold 5000
namespace My
open PySem L2
theorem w5(a:Vo)(as:List Vo)(c:Nat×Nat):bz (a::as) c=(if apart c a.one a.other=true then a.size else 0)+bz as c:=by
 unfold bz;rw[YM];split
 . rw[X7,aS]
 . rw[aau]
inductive P8:List Vo->List Vo->Prop
 |nil:P8 [] []
 |cons {a b:Vo} {as bs:List Vo} (h1:a.one=b.one) (h2:a.other=b.other) (h3:a.size<=b.size) (h:P8 as bs):P8 (a::as) (b::bs)
theorem P8.len{as bs:List Vo}(h:P8 as bs):as.length=bs.length:=by
 induction h with
 |nil=>rfl
 |cons h1 h2 h3 h ih=>rw[Y3,Y3,ih]
theorem CN{p q r:Rat}(hp:0<=p)(hq:0<q)(h:q<=r):p / r<=p / q:=by
 have hr:0<r:=by grind
 have nr:r≠0:=by grind
 refine Rat.not_lt.mp λz=>?_;rw[Rat.div_lt_iff hq]at z;have h1:0<=p / r:=by rw[aaq];exact Rat.mul_nonneg hp (ZT (Rat.inv_pos.mpr hr))
 have h2:=Rat.mul_le_mul_of_nonneg_left h h1;rw[Rat.div_mul_cancel nr]at h2;exact absurd z (Rat.not_lt.mpr h2)
theorem CO(n:Nat)(t:Nat):∀(as:List Vo)(ws:List Bool),cj n as (dH as ws) t=df ((as.zip ws).map λx=>if b7 n x.1 t == x.2 then x.1.size else 0)
 |[],ws=>by rw[pq];rfl
 |a::as,[]=>by rw[nI];rfl
 |a::as,w::ws=>by rw[kQ,CO n t as ws,YR,X7,aS]
end My
set_option exponentiation.threshold 5000
namespace My
open PySem L2
structure VV (R S:aD):Prop where
 len:S.asks.length=R.asks.length
 sz:∀k,k<R.asks.length->(aB R k).size=(aB S k).size
 ex:∃(f:Nat->Nat)(fl:Nat->Bool),∀t,t<R.n->f t<S.n/\S.room (f t)<=R.room t/\∀k,k<R.asks.length->b7 R.n (aB R k) t=(b7 S.n (aB S k) (f t) != fl k)
theorem J6{S:aD}(hS:S.Ok){k i j:Nat}(hk:k<S.asks.length)(hi:i<S.n)(hj:j<S.n):apart (min i j,max i j) (aB S k).one (aB S k).other=(b7 S.n (aB S k) i != b7 S.n (aB S k) j):=by
 have hA:=hS.ask _ (bt hk);rw[jF hA (c:=(min i j,max i j)) ⟨by show min i j<=max i j;omega,by show max i j<S.n;omega⟩];show(b7 S.n (aB S k) (min i j) != b7 S.n (aB S k) (max i j))=_;rcases Nat.le_total i j with h|h
 . rw[aaa h,Nat.max_eq_right h]
 . rw[Nat.min_eq_right h,Nat.max_eq_left h];cases b7 S.n (aB S k) i<;>cases b7 S.n (aB S k) j<;>rfl
theorem zt{R:aD}{ws:List Bool}(h:ws.length=R.asks.length)(n t:Nat):cj n R.asks (dH R.asks ws) t=df ((List.range R.asks.length).map λk=>if b7 n (aB R k) t == ws.getD k true then(aB R k).size else 0):=by
 rw[CO]
 congr 1
 refine YH (by simp[h]) λi h1 h2=>?_;have hi:i<R.asks.length:=by simpa using h2
 simp only[YT,ZC,YV];rw[d7 hi,k4,gV (show i<ws.length by omega)];rfl
theorem VV.least{R S:aD}(hR:R.Ok)(hS:S.Ok)(h:VV R S):(eL R).1<=(eL S).1:=by
 obtain⟨g1,g2,_,_⟩:=pf hR;obtain⟨_,_,s3,_⟩:=pf hS;obtain⟨f,fl,hf⟩:=h.ex;have c2:=g1.2;have c1:=Yc g1.1 c2;obtain⟨i1,i2,i3⟩:=hf _ c1;obtain⟨j1,j2,j3⟩:=hf _ c2;have hc:hC S.n (min (f (eL R).2.1) (f (eL R).2.2),max (f (eL R).2.1) (f (eL R).2.2)):=⟨by show min _ _<=max _ _;omega,by show max _ _<S.n;omega⟩;refine ZG ?_ (s3 _ hc);rw[g2]
 have ea:bz R.asks (eL R).2=bz S.asks (min (f (eL R).2.1) (f (eL R).2.2),max (f (eL R).2.1) (f (eL R).2.2)):=by
  rw[jG R,jG S,h.len]
  congr 1
  refine Yu λk hk=>?_;have hk:=Yb.mp hk;rw[J6 hS (by rw[h.len];exact hk) i1 j1,jF (hR.ask _ (bt hk)) g1,i3 k hk,j3 k hk,h.sz k hk];cases b7 S.n (aB S k) (f (eL R).2.1)<;>cases b7 S.n (aB S k) (f (eL R).2.2)<;>cases fl k<;>rfl
 have er:jC S (min (f (eL R).2.1) (f (eL R).2.2),max (f (eL R).2.1) (f (eL R).2.2))=S.room (f (eL R).2.1)+S.room (f (eL R).2.2):=by
  show S.room (min _ _)+S.room (max _ _)=_;rcases Nat.le_total (f (eL R).2.1) (f (eL R).2.2)with q|q
  . rw[aaa q,Nat.max_eq_right q]
  . rw[Nat.min_eq_right q,Nat.max_eq_left q,Rat.add_comm]
 unfold cG;rw[ea];refine CN (wF hS _) (jE hS hc).1 ?_;rw[er];unfold jC;grind
theorem VV.ways{R S:aD}(hR:R.Ok)(hS:S.Ok)(h:VV R S)(vs:List Bool)(hv:vs.length=S.asks.length):∃ws:List Bool,ws.length=R.asks.length/\eU R ws<=eU S vs:=by
 obtain⟨f,fl,hf⟩:=h.ex;refine⟨(List.range R.asks.length).map λk=>vs.getD k true != fl k,x_,GI hR hS λt ht=>⟨f t,(hf t ht).1,?_⟩⟩;obtain⟨i1,i2,i3⟩:=hf t ht
 have el:cj R.n R.asks (dH R.asks ((List.range R.asks.length).map λk=>vs.getD k true != fl k)) t=cj S.n S.asks (dH S.asks vs) (f t):=by
  rw[zt x_,zt hv,h.len]
  congr 1
  refine Yu λk hk=>?_;have hk:=Yb.mp hk;rw[i3 k hk,h.sz k hk,k4,X1,Yn hk];simp only[Option.map_some,Option.getD_some];have e:((b7 S.n (aB S k) (f t) != fl k) == (vs.getD k true != fl k))=(b7 S.n (aB S k) (f t) == vs.getD k true):=(by decide:∀a b c:Bool,((a != c) == (b != c))=(a == b)) _ _ _;by_cases q:(b7 S.n (aB S k) (f t) == vs.getD k true)=true
  . rw[if_pos q,if_pos (e.trans q)]
  . rw[if_neg q,if_neg (λz=>q (e.symm.trans z))]
 unfold wQ bg;rw[el];exact CN (CH λa h=>(hS.ask a h).size) (dQ hS i1).1 i2
theorem VV.best{R S:aD}(hR:R.Ok)(hS:S.Ok)(h:VV R S){ws vs:List Bool}(hw:uI R ws)(hv:uI S vs):eU R ws<=eU S vs:=by obtain⟨us,h1,h2⟩:=h.ways hR hS vs hv.1;exact ZG (hw.2 us h1) h2
def P9(R S:aD):Prop:=(eL R).1=(eL S).1/\∀ws vs,uI R ws->uI S vs->eU R ws=eU S vs
theorem nL{R S:aD}(hR:R.Ok)(hS:S.Ok)(h:VV R S)(h':VV S R):P9 R S :=
 ⟨Rat.le_antisymm (h.least hR hS) (h'.least hS hR),λws vs hw hv=>Rat.le_antisymm (h.best hR hS hw hv) (h'.best hS hR hv hw)⟩
theorem gj{as:List Vo}{g:Vo->Vo}{k:Nat}(h:k < as.length):((as.map g)[k]?).getD ⟨"",0,0,0⟩=g ((as[k]?).getD ⟨"",0,0,0⟩):=by rw[X1,gV h];rfl
theorem CP{R:aD}(hR:R.Ok){m:Nat}(hm:m<R.n):VV (bQ R m) R:=by
 have hl:(bQ R m).asks.length=R.asks.length:=by simp[bQ]
 have ha:∀k,k<R.asks.length->aB (bQ R m) k=qI (λp=>(p+m) % R.n) (aB R k):=λk hk=>gj hk;have lo:=hR.lo;refine⟨hl.symm,λk hk=>by rw[ha k xL];rfl,λt=>(t+(R.n-m)) % R.n,λ_=>false,λt ht=>?_⟩;rw[qa]at ht ⊢;refine⟨YW _ xL,?_,λk hk=>?_⟩
 . have e:(bQ R m).room t=R.room ((t+(R.n-m)) % R.n):=GV ht;rw[e];exact YZ
 . rw[ha k xL,NF (hR.ask _ (bt xL)) hm ht,Z4]
theorem GZ{R:aD}(hR:R.Ok):VV (lj R) R:=by
 have hl:(lj R).asks.length=R.asks.length:=by simp[lj]
 have ha:∀k,k<R.asks.length->aB (lj R) k=qI (λp=>R.n-1-p) (aB R k):=λk hk=>gj hk;have lo:=hR.lo;refine⟨hl.symm,λk hk=>by rw[ha k xL];rfl,λt=>HL R.n t,λ_=>true,λt ht=>?_⟩;rw[zp]at ht ⊢;refine⟨YW _ xL,?_,λk hk=>?_⟩
 . have e:(lj R).room t=R.room (HL R.n t):=GV ht;rw[e];exact YZ
 . rw[ha k xL,P4 (hR.ask _ (bt xL)) lo ht,Bool.bne_true]
theorem CQ{R:aD}(hR:R.Ok)(s:List Nat):VV (eM R s) R:=by
 have hl:=rj R s;refine⟨hl.symm,λk hk=>?_,λt=>t,λk=>decide (k∈s),λt ht=>⟨ht,YZ,λk hk=>?_⟩⟩
 . rw[A9 xL];unfold sL;split<;>rfl
 .
  rw[A9 xL,P1];show b7 R.n _ t=(b7 R.n (aB R k) t != decide (k∈s));unfold sL;by_cases q:k∈s
  . rw[if_pos q,Y6 q,NG (hR.ask _ (bt xL)) ht,Bool.bne_true]
  . rw[if_neg q,Yt q,Z4]
theorem CS{R:aD}{p t:Nat}(hp:p<R.n)(ht:t<R.n+1):(wW R p).room t=R.room (VR p t):=by
 have hp':p<R.rooms.length:=hp;show(R.rooms.take (p+1)++R.rooms.drop p).getD t 0=R.rooms.getD (VR p t) 0;unfold VR;rw[k4,k4]
 congr 1
 split
 . rename_i h;rw[Ym (by rw[YK];omega),List.getElem?_take,if_pos (by omega)]
 .
  rename_i h;rw[Yg (by rw[YK];omega),Z7,YK]
  congr 1
  omega
theorem NH{R:aD}(hR:R.Ok){p:Nat}(hp:p<R.n):VV (wW R p) R/\VV R (wW R p):=by
 have hl:(wW R p).asks.length=R.asks.length:=by simp[wW]
 have ha:∀k,k<R.asks.length->aB (wW R p) k=VJ p (aB R k):=λk hk=>gj hk;have hn:=J5 hp;constructor
 . refine⟨hl.symm,λk hk=>by rw[ha k xL];rfl,VR p,λ_=>false,λt ht=>?_⟩;rw[hn]at ht ⊢;refine⟨by unfold VR;split<;>omega,by rw[CS hp ht];exact YZ,λk hk=>?_⟩;rw[ha k xL,K3 (hR.ask _ (bt xL)) hp ht,Z4]
 .
  refine⟨hl,λk hk=>by rw[ha k hk];rfl,λt=>if t<=p then t else t+1,λ_=>false,λt ht=>?_⟩
  have e:VR p (if t<=p then t else t+1)=t:=by
   unfold VR;by_cases q:t<=p
   . rw[if_pos q,if_pos q]
   . rw[if_neg q,if_neg (by omega)];omega
  have h1:(if t<=p then t else t+1)<R.n+1:=by split<;>omega
  rw[hn];refine⟨h1,by rw[CS hp h1,e];exact YZ,λk hk=>?_⟩;rw[ha k hk,K3 (hR.ask _ (bt hk)) hp h1,e,Z4]
noncomputable def VW(n p:Nat):Nat:=if p=0 then n-2 else p-1
theorem Rw{n p:Nat}(hn:2<=n)(hp:p<n):VS p (VW n p)=rh n p/\VW n p<n-1:=by
 unfold VW VS rh;by_cases q:p=0
 . rw[if_pos q,if_pos q,if_neg (by omega)];omega
 . rw[if_neg q,if_neg q,if_pos (by omega)];omega
theorem K7{n p:Nat}{a:Vo}(h:c8 n a)(hp:p<n)(h1:a.one≠p)(h2:a.other≠p):b7 n a p=b7 n a (rh n p):=by
 have a1:=h.one;have a2:=h.other;have hb:rh n p<n:=by unfold rh;split<;>omega
 rw[CL h hp,CL h hb];unfold rh;by_cases q:p=0
 .
  rw[if_pos q];subst q;split
  . rw[Yt (show ¬a.one<=0 by omega),Yt (show ¬n-1<a.other by omega)];simp
  . rw[Y6 (show 0<a.other by omega),Y6 (show a.one<=n-1 by omega)];simp
 . rw[if_neg q];have e1:decide (a.one<=p)=decide (a.one<=p-1):=YA.mpr xL;have e2:decide (p<a.other)=decide (p-1<a.other):=YA.mpr xL;rw[e1,e2]
theorem nM{R:aD}{p t:Nat}(hp:p<R.n)(h2:2<R.n)(ht:t<R.n-1):(eV R p).room t=if t=VW R.n p then zg (R.room (rh R.n p)) (R.room p)else R.room (VS p t):=by
 have hp':p<R.rooms.length:=hp;have hl:R.rooms.length=R.n:=rfl;show(uJ R.rooms p).getD t 0=_;unfold uJ VW VS vA;rw[hl];by_cases q:p=0
 .
  rw[if_pos q,if_pos q];subst q;rw[k4];by_cases z:t=R.n-2
  . rw[if_pos z,Yg (by simp;omega)];simp only[YK,YS];rw[show t-min (R.n-2) (R.rooms.length-1)=0 by omega];rfl
  . rw[if_neg z,if_neg (by omega),Ym (by simp;omega),List.getElem?_take,if_pos (by omega),Z7,<- k4,Nat.add_comm 1 t];rfl
 .
  rw[if_neg q,if_neg q,YU,k4];rcases Nat.lt_trichotomy t (p-1)with z|z|z
  . rw[if_neg (by omega),if_pos (by omega),Ym (by simp;omega),List.getElem?_take,if_pos z,<- k4];rfl
  . rw[if_pos z,Yg (by simp;omega),YK,show t-min (p-1) R.rooms.length=0 by omega];rfl
  . rw[if_neg (by omega),if_neg (by omega),Yg (by simp;omega),YK,show t-min (p-1) R.rooms.length=(t-p)+1 by omega];show((R.rooms.drop (p+1))[t-p]?).getD 0=_;rw[Z7,show p+1+(t-p)=t+1 by omega,<- k4];rfl
theorem NI(a b:Rat):zg a b<=a/\zg a b<=b/\(zg a b=a∨zg a b=b):=by
 unfold zg;split
 . exact⟨by grind,by grind,x_⟩
 . exact⟨by grind,by grind,x_⟩
theorem J7{R:aD}(hR:R.Ok){p:Nat}(hp:p<R.n)(h2:2<R.n)(hf:∀a∈R.asks,DI a p=false):VV (eV R p) R/\VV R (eV R p):=by
 have hl:(eV R p).asks.length=R.asks.length:=by simp[eV]
 have ha:∀k,k<R.asks.length->aB (eV R p) k=QJ p (aB R k):=λk hk=>gj hk;have hn:=CM hp xL;obtain⟨s1,s2⟩:=Rw (n:=R.n) xL hp;have hb:rh R.n p<R.n:=by unfold rh;split<;>omega
 obtain⟨l1,l2,l3⟩:=NI (R.room (rh R.n p)) (R.room p);constructor
 .
  refine⟨hl.symm,λk hk=>by rw[ha k xL];rfl,λt=>if t=VW R.n p/\R.room p<R.room (rh R.n p)then p else VS p t,λ_=>false,λt ht=>?_⟩
  rw[hn]at ht ⊢;have hs:VS p t<R.n:=by unfold VS;split<;>omega
  by_cases q:t=VW R.n p/\R.room p<R.room (rh R.n p)
  .
   simp only[q,and_self,Zh];refine⟨hp,?_,λk hk=>?_⟩
   . rw[nM hp h2 s2,if_pos rfl];rcases l3 with e|e<;>rw[e]<;>grind
   .
    have hk':k<R.asks.length:=by omega
    obtain⟨n1,n2⟩:=zr (hf _ (bt hk'));rw[ha k hk',w4 (hR.ask _ (bt hk')) hp n1 n2 s2,s1,K7 (hR.ask _ (bt hk')) hp n1 n2,Z4]
  .
   dsimp only;rw[if_neg q];refine⟨hs,?_,λk hk=>?_⟩
   .
    rw[nM hp h2 ht];by_cases z:t=VW R.n p
    . rw[if_pos z,z,s1];have:¬R.room p<R.room (rh R.n p):=λy=>q ⟨z,y⟩;rcases l3 with e|e<;>rw[e]<;>grind
    . rw[if_neg z];exact YZ
   .
    have hk':k<R.asks.length:=by omega
    obtain⟨n1,n2⟩:=zr (hf _ (bt hk'));rw[ha k hk',w4 (hR.ask _ (bt hk')) hp n1 n2 ht,Z4]
 .
  refine⟨hl,λk hk=>by rw[ha k hk];rfl,λt=>if t=p then VW R.n p else if t<p then t else t-1,λ_=>false,λt ht=>?_⟩
  rw[hn];by_cases q:t=p
  .
   simp only[q,Zh];refine⟨s2,?_,λk hk=>?_⟩
   . rw[nM hp h2 s2,if_pos rfl];exact l2
   . obtain⟨n1,n2⟩:=zr (hf _ (bt hk));rw[ha k hk,w4 (hR.ask _ (bt hk)) hp n1 n2 s2,s1,K7 (hR.ask _ (bt hk)) hp n1 n2,Z4]
  .
   dsimp only;rw[if_neg q]
   have hs:(if t<p then t else t-1)<R.n-1:=by split<;>omega
   have es:VS p (if t<p then t else t-1)=t:=by
    unfold VS;by_cases y:t<p
    . rw[if_pos y,if_pos y]
    . rw[if_neg y,if_neg (by omega)];omega
   refine⟨hs,?_,λk hk=>?_⟩
   .
    rw[nM hp h2 hs]
    by_cases z:(if t<p then t else t-1)=VW R.n p
    .
     rw[if_pos z];have e:t=rh R.n p:=by rw[<- s1,<- z,es]
     exact ZG l1 (by rw[<- e];exact YZ)
    . rw[if_neg z,es];exact YZ
   . obtain⟨n1,n2⟩:=zr (hf _ (bt hk));rw[ha k hk,w4 (hR.ask _ (bt hk)) hp n1 n2 hs,es,Z4]
theorem qc{R S:aD}(hR:R.Ok)(hS:S.Ok)(hn:S.n=R.n){k:Rat}(h0:0<k)(h:∀c,hC R.n c->cG S c=cG R c*k):(eL S).1=(eL R).1*k:=by
 obtain⟨g1,g2,g3,_⟩:=pf hR;obtain⟨s1,s2,s3,_⟩:=pf hS;refine Rat.le_antisymm ?_ ?_
 . rw[s2,h _ (hn ▸ s1)];exact Zs (g3 _ (hn ▸ s1)) (ZT h0)
 . rw[g2,<- h _ g1];exact s3 _ (hn.symm ▸ g1)
theorem DL{R S:aD}(hR:R.Ok)(hS:S.Ok)(hn:S.n=R.n){k:Rat}(h0:0<k)(h:∀ws t,t<R.n->wQ S ws t=wQ R ws t*k)(ws:List Bool):eU S ws=eU R ws*k:=by
 have a1:=sH hR ws;have a2:=sH hS ws;refine Rat.le_antisymm ?_ ?_
 . have e:eU S ws=wQ R ws (Dz S.n (wQ S ws))*k:=h ws _ (hn ▸ a2);rw[e];exact Zs (wR hR ws (hn ▸ a2)) (ZT h0)
 . have e:eU R ws*k=wQ S ws (Dz R.n (wQ R ws)):=(h ws _ a1).symm;rw[e];exact wR hS ws (hn.symm ▸ a1)
theorem CT{x y p q:Rat}(hy:0<y)(hq:0<q):x*p / (y*q)=x / y*(p / q):=by
 have h1:y≠0:=by grind
 have h2:q≠0:=by grind
 have h3:y*q≠0:=by have:=Rat.mul_pos hy hq;grind
 rw[aaq,aaq,aaq,Rat.inv_mul_rev];grind
theorem Ba{R:aD}(p q:Rat){t:Nat}(ht:t<R.n):(VB R p q).room t=R.room t*q:=by have ht':t<R.rooms.length:=ht;show(R.rooms.map (·*q)).getD t 0=R.rooms.getD t 0*q;rw[k4,k4,X1,gV ht'];rfl
theorem QL(R:aD)(p q:Rat):(VB R p q).n=R.n:=by simp[VB,aD.n]
theorem Qa(R:aD)(p q:Rat)(c:Nat×Nat):bz (VB R p q).asks c=bz R.asks c*p:=by
 show bz (R.asks.map (GB p)) c=_
 induction R.asks with
 |nil=>show(0:Rat)=0*p;rw[Rat.zero_mul]
 | cons a as ih =>
  rw[X7,w5,w5,ih]
  show(if apart c a.one a.other=true then a.size*p else 0)+_=_
  split<;>grind
theorem NJ(R:aD)(p q:Rat)(n t:Nat):∀ws:List Bool,cj n (VB R p q).asks (dH (VB R p q).asks ws) t=cj n R.asks (dH R.asks ws) t*p:=by
 show ∀ws:List Bool,cj n (R.asks.map (GB p)) (dH (R.asks.map (GB p)) ws) t=_
 induction R.asks with
 |nil=>intro ws;rw[Zv,pq,Rat.zero_mul]
 | cons a as ih =>
  intro ws
  cases ws with
  |nil=>rw[nI,nI,Rat.zero_mul]
  | cons w ws =>
   rw[X7,kQ,kQ,ih]
   show(if b7 n a t == w then a.size*p else 0)+_=_
   split<;>grind
theorem G0{R:aD}(hR:R.Ok){p q:Rat}(hp:0<p)(hq:0<q)(hS:(VB R p q).Ok):(eL (VB R p q)).1=(eL R).1*(p / q)/\(∀ws,eU (VB R p q) ws=eU R ws*(p / q)):=by
 have k0:0<p / q:=by rw[aaq];exact Rat.mul_pos hp (Rat.inv_pos.mpr hq)
 have hn:=QL R p q;refine⟨qc hR hS hn k0 λc hc=>?_,DL hR hS hn k0 λws t ht=>?_⟩
 .
  have e:jC (VB R p q) c=jC R c*q:=by unfold jC;rw[Ba p q (Yc hc.1 hc.2),Ba p q hc.2,Rat.add_mul]
  unfold cG;rw[Qa,e];exact CT (jE hR hc).1 hq
 . unfold wQ bg;rw[hn,NJ,Ba p q ht];exact CT (dQ hR ht).1 hq
theorem NK{R:aD}(hR:R.Ok){p q:Rat}(hp:0<p)(hq:0<q)(hS:(VB R p q).Ok){ws vs:List Bool}(hw:uI R ws)(hv:uI (VB R p q) vs):eU (VB R p q) vs=eU R ws*(p / q):=by
 obtain⟨_,h⟩:=G0 hR hp hq hS;have k0:0<p / q:=by rw[aaq];exact Rat.mul_pos hp (Rat.inv_pos.mpr hq)
 have hl:(VB R p q).asks.length=R.asks.length:=by simp[VB]
 refine Rat.le_antisymm ?_ ?_
 . rw[<- h ws];exact hv.2 ws (hw.1.trans hl.symm)
 . rw[h vs];exact Zs (hw.2 vs (hv.1.trans hl)) (ZT k0)
theorem G1{α:Type}(g:α->Vo)(c:Nat×Nat):∀l:List α,bz (l.map g) c=df (l.map λk=>if apart c (g k).one (g k).other=true then(g k).size else 0)
 |[]=>rfl
 |k::l=>by rw[X7,w5,G1 g c l,X7,aS]
theorem DM(c:Nat×Nat)(i j:Nat):apart c i j=apart c j i:=by unfold apart;cases g7 c i<;>cases g7 c j<;>rfl
theorem G2{R:aD}{c:Nat×Nat}{k l:Nat}(h:VQ R l=VQ R k):apart c (aB R l).one (aB R l).other=apart c (aB R k).one (aB R k).other:=by
 rcases GS h with⟨e1,e2⟩|⟨_,e1,e2⟩
 . rw[e1,e2]
 . rw[e1,e2,DM]
theorem w7{α:Type}:∀l:List α,df (l.map λ_=>(0:Rat))=0
 |[]=>rfl
 |a::l=>by rw[X7,aS,w7 l,aau]
theorem DN{R:aD}(c:Nat×Nat):bz (mj R).asks c=bz R.asks c:=by
 show bz ((dR R).map (DJ R)) c=_;rw[G1,jG]
 have e2:(dR R).map (λk=>if apart c (DJ R k).one (DJ R k).other=true then(DJ R k).size else 0)=(dR R).map λk=>(λe=>df ((VO (VQ R) R.asks.length e).map λl=>if apart c (aB R l).one (aB R l).other=true then(aB R l).size else 0)) (VQ R k):=by
  refine Yu λk hk=>?_
  show(if apart c (aB R k).one (aB R k).other=true then HK R k else 0)=df _
  have e:((VO (VQ R) R.asks.length (VQ R k)).map λl=>if apart c (aB R l).one (aB R l).other=true then(aB R l).size else 0)=(VO (VQ R) R.asks.length (VQ R k)).map λl=>if apart c (aB R k).one (aB R k).other=true then R.sz l else 0 :=
   Yu λl hl=>by have h1:=(jk.mp hl).1;rw[G2 (jk.mp hl).2,qH h1,kR h1]
  rw[e];split
  . rfl
  . rw[w7]
 rw[e2]
 have e3:=A8 (f:=VQ R) (g:=λl=>if apart c (aB R l).one (aB R l).other=true then(aB R l).size else 0) R.asks.length
 rw[GN,Yd]at e3;exact e3
noncomputable def K8(R:aD)(l:Nat):Nat:=((VO (VQ R) R.asks.length (VQ R l)).head?).getD l
theorem Qb{R:aD}{k l:Nat}(hk:k∈dR R)(h:VQ R l=VQ R k):K8 R l=k:=by obtain⟨_,h2⟩:=GO hk;unfold K8;rw[h];unfold VP at h2;rw[beq_iff_eq.mp h2];rfl
theorem NL{R:aD}(hR:R.Ok)(hO:(mj R).Ok)(vs:List Bool)(hv:vs.length=(mj R).asks.length):∃ws:List Bool,ws.length=R.asks.length/\eU R ws<=eU (mj R) vs:=by
 obtain⟨d,hd⟩:∃d:Nat->Bool,∀k,d k=vs.getD ((dR R).idxOf k) true:=⟨_,λ_=>rfl⟩
 obtain⟨ws,hw⟩:∃ws:List Bool,ws=(List.range R.asks.length).map λl=>if(aB R l).one=(aB R (K8 R l)).one then d (K8 R l)else !d (K8 R l):=⟨_,rfl⟩
 have wl:ws.length=R.asks.length:=by rw[hw];simp
 have wp:(dH R.asks ws).length=R.asks.length:=rg wl
 have wat:∀l,l<R.asks.length->(dH R.asks ws).getD l 0=if ws.getD l true then R.sz l else 0:=λl hl=>by unfold dH;rw[k4,X1,gV (by rw[Zp];omega),ZC,qH hl,k4,gV (show l<ws.length by omega)];rfl
 have wsl:∀l,l<R.asks.length->ws.getD l true=if(aB R l).one=(aB R (K8 R l)).one then d (K8 R l)else !d (K8 R l):=λl hl=>by rw[hw,k4,X1,Yn hl];rfl
 have gp:∀k∈dR R,KZ R (dH R.asks ws) k=if d k then HK R k else 0:=λk hk=>by
  have hk':=JZ hk;unfold KZ HK
  have e:(VO (VQ R) R.asks.length (VQ R k)).map (KY R (dH R.asks ws) k)=(VO (VQ R) R.asks.length (VQ R k)).map λl=>if d k then R.sz l else 0 :=
   Yu λl hl=>by
    obtain⟨h1,h2⟩:=jk.mp hl;have ef:=Qb hk h2;unfold KY;rw[wat l h1,wsl l h1,ef];by_cases z:(aB R l).one=(aB R k).one
    . rw[if_pos z,if_pos z]
    . rw[if_neg z,if_neg z];cases d k<;>simp<;>grind
  rw[e];cases d k
  . simp only[YL,ZH];exact w7 _
  . simp only[Zh]
 have ep:Nw R (dH R.asks ws)=dH (mj R).asks vs:=by
  refine YH (by rw[CK,rg hv,wY]) λi h1 h2=>?_;have hi:i<(dR R).length:=by rw[CK]at h1;exact h1
  have hi2:i<(mj R).asks.length:=by rw[wY];exact hi
  have nd:(dR R).Nodup:=List.nodup_range.filter _;have ed:d (dR R)[i]=vs[i]'(by omega):=by rw[hd,List.Nodup.idxOf_getElem nd,k4,gV (show i<vs.length by omega)];rfl
  have e1:(Nw R (dH R.asks ws))[i]=KZ R (dH R.asks ws) (dR R)[i]:=by simp[Nw]
  rw[e1,gp _ (X8 hi),ed];have e3:(mj R).asks[i].size=HK R (dR R)[i]:=by simp[mj,DJ]
  have e4:(dH (mj R).asks vs)[i]=if vs[i]'(by omega)then(mj R).asks[i].size else 0:=by simp[dH]
  rw[e4,e3]
 refine⟨ws,wl,GI hR hO λt ht=>⟨t,ht,?_⟩⟩;unfold wQ bg;rw[<- ep];have el:=J0 hR wp ht;rw[show(mj R).n=R.n from rfl,el];exact YZ
theorem G3{R:aD}(hR:R.Ok)(hO:(mj R).Ok):(eL (mj R)).1=(eL R).1:=by
 have h:=qc (k:=1) hR hO rfl xp λc hc=>by unfold cG;rw[DN,Rat.mul_one];rfl
 rw[h,Rat.mul_one]
theorem J8{R:aD}(hR:R.Ok)(hO:(mj R).Ok){ws vs:List Bool}(hw:uI R ws)(hv:uI (mj R) vs):eU R ws<=eU (mj R) vs:=by obtain⟨us,h1,h2⟩:=NL hR hO vs hv.1;exact ZG (hw.2 us h1) h2
end My
set_option exponentiation.threshold 5000
namespace My
open PySem L2
structure VX (R S:aD):Prop where
 ok:S.Ok
 sb:SB S
 few:S.asks.length<=7
 al:P9 S R
theorem VY{R:aD}(h:R.Ok):vC R (R.asks.map λ_=>(0:Rat)):=by
 obtain⟨D,d0,d1,hd⟩:=h.cd;refine⟨h.lo,h.hi,h.few,h.ask,x_,λk hk=>?_,D,d0,Nat.lt_trans d1 (ZV xp xp),hd,λp hp=>?_⟩
 .
  have hk':k<R.asks.length:=by simpa using hk
  rw[k4,X1,gV hk',qH hk'];exact⟨YZ,(h.ask _ (X8 hk')).size⟩
 . obtain⟨_,_,rfl⟩:=XY.mp hp;exact Nat.one_dvd _
theorem DO{R:aD}(h:R.Ok):NA R:=⟨h.lo,h.hi,h.few,λa ha=>⟨(h.ask a ha).one,(h.ask a ha).other⟩,λa ha=>(h.ask a ha).nm⟩
theorem zu{R S:aD}{ps:List Rat}(h:vC S ps)(hr:∀q∈S.rooms,0<q/\RB 80 q)(hs:∀a∈S.asks,RB 60 a.size)(hl:S.asks.length<=7):S.Ok/\SB S :=
 ⟨⟨h.lo,h.hi,h.few,hr,h.ask,Px hs h.few⟩,60,xp,xL,hs⟩
theorem K9{R:aD}(h:R.Ok){i:Nat}(hi:i<R.n):0<R.rooms.getD i 0/\RB 80 (R.rooms.getD i 0):=dQ h hi
section
variable{R:aD}(h:R.Ok)(hT:∀a∈R.asks,RB 60 a.size)(hl:R.asks.length<=7)
include h hT hl
theorem J9{m:Nat}(hm:m<R.n):VX R (bQ R m):=by
 have lo:=h.lo;have hl':(bQ R m).asks.length=R.asks.length:=by simp[bQ]
 obtain⟨o,b⟩:=zu (R:=R) ((VY h).turn hm) (λq hq=>by
  obtain⟨t,_,rfl⟩:=XY.mp hq
  exact K9 h (YW _ xL)) (λa ha=>by
  obtain⟨c,hc,rfl⟩:=XY.mp ha
  exact hT c hc) xL
 have hk:(R.n-m) % R.n<R.n:=YW _ xL
 have e:bQ (bQ R m) ((R.n-m) % R.n)=R:=by
  rw[GW (DO h) hm hk]
  have:(m+(R.n-m) % R.n) % R.n=0:=by
   by_cases z:m=0
   . subst z;simp
   . rw[Y4 (show R.n-m<R.n by omega),show m+(R.n-m)=R.n by omega,Nat.mod_self]
  rw[this];exact P2 (DO h)
 have l2:=CP o (m:=(R.n-m) % R.n) (by rw[qa];exact hk);rw[e]at l2;exact⟨o,b,xL,nL o h (CP h hm) l2⟩
theorem NM:VX R (lj R):=by
 have lo:=h.lo;have hl':(lj R).asks.length=R.asks.length:=by simp[lj]
 obtain⟨o,b⟩:=zu (R:=R) (VY h).mir (λq hq=>by
  obtain⟨t,_,rfl⟩:=XY.mp hq
  exact K9 h (YW _ xL)) (λa ha=>by
  obtain⟨c,hc,rfl⟩:=XY.mp ha
  exact hT c hc) xL
 have l2:=GZ o;rw[NC (DO h)]at l2;exact⟨o,b,xL,nL o h (GZ h) l2⟩
theorem Ka(s:List Nat):VX R (eM R s):=by
 have hl':=rj R s
 obtain⟨o,b⟩:=zu (R:=R) ((VY h).told s) h.room (λa ha=>by
  obtain⟨k,hk,rfl⟩:=XY.mp ha;have:=hT _ (bt (Yb.mp hk));unfold sL
  split<;>exact this) xL
 have l2:=CQ o s;rw[GX]at l2;exact⟨o,b,xL,nL o h (CQ h s) l2⟩
theorem NN{p:Nat}(hp:p<R.n)(h12:R.n<12):VX R (wW R p):=by
 have hl':(wW R p).asks.length=R.asks.length:=by simp[wW]
 obtain⟨o,b⟩:=zu (R:=R) ((VY h).put hp h12) (λq hq=>by
  rcases Ys.mp hq with hq|hq
  . exact h.room q (aaj hq)
  .
   exact h.room q (List.mem_of_mem_drop hq)) (λa ha=>by
  obtain⟨c,hc,rfl⟩:=XY.mp ha
  exact hT c hc) xL
 obtain⟨l1,l2⟩:=NH h hp;exact⟨o,b,xL,nL o h l1 l2⟩
theorem Kb{p:Nat}(hp:p<R.n)(h2:2<R.n)(hf:∀a∈R.asks,DI a p=false):VX R (eV R p):=by
 have hl':(eV R p).asks.length=R.asks.length:=by simp[eV]
 obtain⟨o,b⟩:=zu (R:=R) ((VY h).take hp h2 hf) (λq hq=>h.room q (GL hp hq)) (λa ha=>by
  obtain⟨c,hc,rfl⟩:=XY.mp ha
  exact hT c hc) xL
 obtain⟨l1,l2⟩:=J7 h hp h2 hf;exact⟨o,b,xL,nL o h l1 l2⟩
end
theorem SU{q:Rat}(h:RB 80 q):q<((2^80:Nat):Rat):=by
 rw[Rat.lt_iff];have h1:=h.1;have h2:=q.den_pos;have e1:((2^80:Nat):Rat).num=((2^80:Nat):Int):=rfl;have e2:((2^80:Nat):Rat).den=1:=rfl;rw[e1,e2];have h3:q.num<((2^80:Nat):Int):=by omega
 have h4:((2^80:Nat):Int)*1<=((2^80:Nat):Int)*(q.den:Int):=Int.mul_le_mul_of_nonneg_left xL xL;omega
theorem NO{R:aD}(hR:R.Ok)(ws:List Bool)(hw:ws.length=R.asks.length):(eL R).1<=eU R ws:=by
 obtain⟨g1,g2,_,_⟩:=pf hR;rw[g2];have hp:AX R (dH R.asks ws) 1540:=⟨rg hw,λx hx=>?_,λp hp=>?_⟩
 . exact M3 hR hp g1
 .
  obtain⟨h1,h2⟩:=CG hx;have:=(hR.ask _ h1).size;rcases h2 with e|e<;>rw[e]
  . exact⟨this,YZ⟩
  . exact⟨YZ,this⟩
 .
  obtain⟨x,hx,rfl⟩:=XY.mp hp;have h1:=(ZY (a:=x.1) (b:=x.2) hx).1;split
  . exact hR.rb h1
  . exact RB.zero.mono xp
theorem Qc{R:aD}{p q:Rat}(h:R.Ok)(hr:∀z∈R.rooms,RB 40 z)(hs:∀a∈R.asks,RB 40 a.size)(hl:R.asks.length<=7)(p0:0<p)(q0:0<q)(pb:RB 40 p)(qb:RB 40 q):(VB R p q).Ok/\SB (VB R p q):=by
 have hl':(VB R p q).asks.length=R.asks.length:=by simp[VB]
 have hz:∀a∈(VB R p q).asks,RB 80 a.size:=λa ha=>by obtain⟨c,hc,rfl⟩:=XY.mp ha;exact(hs c hc).mul pb
 refine⟨⟨by rw[QL];exact h.lo,by rw[QL];exact h.hi,by rw[hl'];exact h.few,λz hm=>?_,λa ha=>?_,?_⟩,80,xp,xL,hz⟩
 . obtain⟨y,hy,rfl⟩:=XY.mp hm;exact⟨Rat.mul_pos (h.room y hy).1 q0,(hr y hy).mul qb⟩
 .
  have ha':=ha;obtain⟨c,hc,rfl⟩:=XY.mp ha;have hc':=h.ask c hc;have b:=hz _ ha';have n0:0<=c.size*p:=Rat.mul_nonneg hc'.size (ZT p0);rw[QL];refine⟨hc'.one,hc'.other,hc'.ne,n0,?_,hc'.nm⟩;have v:c.size*p<((2^80:Nat):Rat):=by exact SU b
  exact VN (ZT v) (by
   exact_mod_cast (ZV xp xp:2^80<2^300))
 .
  refine⟨yV ((VB R p q).asks.map (·.size)),nB _,?_,λa ha=>rf (List.mem_map_of_mem ha)⟩;refine Yc (AW (b:=80) _ λz hm=>?_) (ZV xp ?_)
  . obtain⟨a,ha,rfl⟩:=XY.mp hm;exact hz a ha
  . rw[tv];omega
theorem Qd{R:aD}(h:R.Ok)(hs:∀a∈R.asks,RB 40 a.size)(hl:R.asks.length<=3):(mj R).Ok/\SB (mj R)/\(mj R).asks.length<=7:=by
 have hl':(mj R).asks.length<=3:=by rw[wY];exact X0 (GR R) hl
 refine⟨PY h λa ha=>(hs a ha).mono xp,⟨130,xp,xL,λa ha=>?_⟩,xL⟩;obtain⟨k,hk,rfl⟩:=XY.mp ha;show RB 130 (HK R k);unfold HK;refine(RB.sum (b:=40) _ λq hq=>?_).mono ?_
 . obtain⟨l,hm,rfl⟩:=XY.mp hq;have h1:=(jk.mp hm).1;rw[qH h1];exact hs _ (X8 h1)
 .
  rw[tv];have:(VO (VQ R) R.asks.length (VQ R k)).length<=R.asks.length:=by unfold VO;refine X0 (ZO _ _) ?_;rw[X6];exact XZ _
  omega
end My
set_option exponentiation.threshold 1000
namespace Hd
open PySem PySem.W PyProof.Rows
noncomputable abbrev pr:Program:=PySem.Challenge.pw_ringloads_k67_whole_tops_alike
noncomputable def top(i:Nat):Stmt:=pr.main.body.getD i (.Pass ⟨0,0,0,0⟩)
noncomputable def Qe(st:Stmt)(j:Nat):Stmt:=match st with
 |.ClassDef _ _ _ b ..=>b.getD j (.Pass ⟨0,0,0,0⟩)
 |_=>.Pass ⟨0,0,0,0⟩
noncomputable def G4(s:Stmt):Str:=match s with
 |.FunctionDef n ..=>n
 |_=>""
noncomputable def Qf(s:Stmt):Arguments:=match s with
 |.FunctionDef _ a _ _ _ _ _ _ _ _=>a
 |_=>{posonlyargs:=[],args:=[],vararg:=none,kwonlyargs:=[],kw_defaults:=[],kwarg:=none,defaults:=[] }
noncomputable def Rx(s:Stmt):List Stmt:=match s with
 |.FunctionDef _ _ b _ _ _ _ _ _ _=>b
 |_=>[]
noncomputable def Qg(s:Stmt):Scope:=match s with
 |.FunctionDef _ _ _ _ _ _ sc _ _ _=>sc
 |_=>{kind:=.function,names:=[],isGenerator:=false,isCoroutine:=false}
noncomputable def R7(s:Stmt):Pos:=match s with
 |.FunctionDef _ _ _ _ _ _ _ _ _ p=>p
 |_=>⟨0,0,0,0⟩
noncomputable def QM (st:Stmt) (q:Str) (g:Addr) (md cd:Value):FuncData:={ name:=G4 st,qualname:=q,params:=Qf st,body:=.stmts (Rx st),scope:=Qg st,globals:=g,closure:=[],defaults:=.none,kwdefaults:=.none,doc:=.none,pyModule:=md,annotations:=none,code:=cd,closureTuple:=.none,builtins:=0 }
noncomputable def kh(P:Params)(x:Str):Int:=PySem.PyData.keyHash P x
noncomputable abbrev acm(P:Params)(x:Str)(n:Nat)(v:Value):DictEntry:=⟨kh P x,.str x n,v⟩
noncomputable abbrev acn(l:Array Value):Obj:=⟨.type "tuple",none,.seq l 0,#[]⟩
noncomputable abbrev aco(x:String)(l:Array Value):Obj:=⟨.type x,none,.fields l,#[]⟩
noncomputable abbrev acp(l:Array Value):Obj:=⟨.none,none,.fields l,#[]⟩
noncomputable abbrev acq(l:Array DictEntry)(n:Nat):Obj:=⟨.type "dict",none,.dict l n,#[]⟩
noncomputable abbrev acB(n:Nat):Value:=.str "/claim/cut.py" n
noncomputable def Qh(vs:List Value):Obj:=⟨.type "tuple",none,.seq vs.toArray 0,#[]⟩
noncomputable def CU(vs:List Value):Obj:=⟨.none,none,.fields vs.toArray,#[]⟩
noncomputable def R8:Nat->List Str->List Value
 |_,[]=>[]
 |t,x::r=>.str x t::R8 (t+1) r
noncomputable def Qi(st:Stmt)(a t:Nat)(v1 v2:Value)(tm u:Nat):Obj:=⟨.type "code",none,.fields #[.str (G4 st) t,.str (G4 st) (t+1),.str "/claim/cut.py" (t+2),.int (R7 st).line 0,.int (Qf st).args.length 0,.int 0 0,.int 0 0,.int 3 0,.ref a,.bool true,.int 181 0,.ref (a+1),.none,v1,v2,.ref tm,.int u 0,.int (R7 st).line 0,.str "/claim/cut.py" (u+1)],#[]⟩
noncomputable def VZ(st:Stmt)(md:Value)(cd:Nat):Obj:=⟨.type "function",none,.func (QM st (G4 st) 3 md (.ref cd)),#[]⟩
noncomputable def V0(st:Stmt):Obj:=⟨.none,none,.func (QM st (G4 st) 0 .none .none),#[]⟩
noncomputable def bX(st:Stmt)(a t:Nat)(vs:List Str)(md:Value):List Obj:=[Qh [],CU [],Qh (R8 (t+3) vs),Qh [],V0 st,Qi st a t (.ref (a+2)) (.ref (a+3)) (a+4) (t+3+vs.length),VZ st md (a+5)]
noncomputable def c9(st:Stmt)(a t:Nat)(md:Value):List Obj:=[Qh [],CU [],V0 st,Qi st a t .none .none (a+2) (t+3),VZ st md (a+3)]
noncomputable def uK (P:Params) (nm:Value) (es:List DictEntry) (n:Nat):Obj:=⟨.type "dict",none,.dict (([⟨kh P "__name__",.str "__name__" 165,nm⟩,⟨kh P "__doc__",.str "__doc__" 166,.none⟩,⟨kh P "__package__",.str "__package__" 167,.none⟩,⟨kh P "__loader__",.str "__loader__" 168,.builtin "__main__.__loader__#opaque"⟩,⟨kh P "__spec__",.str "__spec__" 169,.none⟩,⟨kh P "__annotations__",.str "__annotations__" 170,.ref 6⟩,⟨kh P "__builtins__",.str "__builtins__" 171,.ref 4⟩,⟨kh P "__file__",.str "__file__" 173,.str "/claim/cut.py" 172⟩,⟨kh P "__cached__",.str "__cached__" 174,.none⟩]:List DictEntry)++es).toArray n,#[]⟩
noncomputable def SV:Obj:=⟨.type "code",none,.fields #[.str "<module>" 182,.str "<module>" 183,.str "/claim/cut.py" 184,.int 1 0,.int 0 0,.int 0 0,.int 0 0,.int 0 0,.ref 11,.bool false,.int 181 0,.ref 12,.none,.none,.none,.none,.int 185 0,.int 1 0,.str "/claim/cut.py" 186],#[]⟩
noncomputable def SW:Obj:=⟨.type "frame",none,.plain,#[some (.ref 13),some (.ref 3),some (.ref 3),none,some (.str "__main__" 164),none,some (.ref 0)]⟩
noncomputable def NP(P:Params):List Obj:=[boot_o_0 P,boot_o_1 P,boot_o_2 P,boot_o_3 P,boot_o_4 P,boot_o_5 P,boot_o_6 P,boot_o_7 P,boot_o_8 P,boot_o_9 P,boot_o_10 P,Qh [],CU [],SV,SW]
noncomputable def nN:Life:=⟨[],[],[],0,[],[],false,#[],[],0,false,false,false,0,[2000,10,10],false,0,true,[],[],0,false⟩
noncomputable def Ry(l:List (Nat×Obj))(b:Nat):Option Obj:=@List.rec (Nat×Obj) (λ_=>Option Obj) none (λx _ ih=>bif Nat.beq x.1 b then some x.2 else ih) l
noncomputable def Qj(P:Params)(ob:Params->Nat->Obj)(b:Nat):Obj:=bif b.blt 15 then(NP P).getD b default else ob P b
noncomputable def SX(l:List Nat)(b:Nat):Bool:=@List.rec Nat (λ_=>Bool) false (λx _ ih=>@Bool.rec (λ_=>Bool) ih true (Nat.beq x b)) l
noncomputable def G5(ks:List Nat)(P:Params)(ov:List (Nat×Obj))(ob:Params->Nat->Obj)(b j:Nat):Obj:=@Bool.rec (λ_=>Obj) (Qj P ob b) ((Ry ov b).getD default) (SX ks b)
noncomputable def L0(n:Nat)(f:Nat->Obj)(a b j:Nat):BT:=.nil
noncomputable def acC(g:Nat->(Nat->Obj)->Nat->Nat->Nat->BT)(n:Nat)(f:Nat->Obj)(a b j:Nat):BT:=@Bool.rec (λ_=>BT) .nil (.node (f b) (g n f (2*a) (a+b) j) (g n f (2*a) (2*a+b) j)) (b.blt n)
noncomputable def L1:=acC L0
noncomputable def L2:=acC L1
noncomputable def L3:=acC L2
noncomputable def L4:=acC L3
noncomputable def L5:=acC L4
noncomputable def L6:=acC L5
noncomputable def L7:=acC L6
noncomputable def L8:=acC L7
noncomputable def L9:=acC L8
noncomputable def V1:=acC L9
noncomputable def V2:=acC V1
noncomputable def V3:=acC V2
theorem ly{p:Program}{w:World}{m:Nat}{ann:Option Value}{b n:Nat}{s:SharedT}{t:Thread}{r:Option (Flow×SharedT×Code×Pos)}(h:Fast.tw10110043849684766642 Fast.tw14364793385576792824 p w m ann b n s t=r):segRunT treeTable p w m ann b n s t=r:=by rw[Fast.te10110043849684766642,Z2];exact h
theorem Qk{p:Program}{w:World}{m:Nat}{ann:Option Value}{n:Nat}{s:Shared}{t:Thread}{r:Option Shared}(h:Fast.tw14082659384304107361 Fast.tw14364793385576792824 p w m ann n s t=r):topRun treeTable p w m ann n s t=r:=by rw[Fast.te14082659384304107361,Z2];exact h
theorem Ql:denote treeTable=Fast.tw11892475500146522536 Fast.tw14364793385576792824:=by rw[<- Fast.te11892475500146522536,<- Z2]
theorem Rz{p:Program}{w:World}{m:Nat}{ann:Option Value}{n:Nat}{s:Shared}{t:Thread}{r:Option (Shared×Thread)}(h:Fast.tw15667345088766844465 Fast.tw14364793385576792824 p w m ann n s t=r):topGo treeTable p w m ann n s t=r:=by rw[Fast.te15667345088766844465,Z2];exact h
theorem NQ{b b':List Stmt}(e:b=b'){tb:String->Option Builtin}{p:Program}{w:World}{m:Nat}{ann:Option Value}{n:Nat}{s:Shared}{env:Env}{c:Code}{ps:Pos}{B:List Frame}{r:Option Shared}(h:topRun tb p w m ann n s (restOf b' env c ps B)=r):topRun tb p w m ann n s (restOf b env c ps B)=r:=by rw[e];exact h
noncomputable def f1(P:Params):List Obj:=bX (top 1) 15 189 ["one","other","rest"] (.str "ringloads.divisors" 187)
noncomputable def f2(P:Params):List Obj:=bX (top 2) 22 198 ["one","other"] (.str "ringloads.divisors" 187)
noncomputable def f4(P:Params):List Obj:=[(acn #[(.type "ValueError")]),
 (aco "builtin_function_or_method" #[(.builtin "type.__prepare__"),(.type "type")]),
 (acq #[(acm P "__module__" 215 acs),(acm P "__qualname__" 217 (.str "LoadError" 216)),(acm P "__firstlineno__" 219 (.int 11 218)),(acm P "__init__" 227 (.ref 42)),(acm P "__static_attributes__" 228 (.ref 43))] 5),
 (acn #[]),
 (acp #[(.int 13 0),(.int 4 0),(.ref 41)]),
 (aco "code" #[(.str "LoadError" 210),(.str "LoadError" 211),(acB 212),(.int 11 0),(.int 0 0),(.int 0 0),(.int 0 0),(.int 0 0),(.ref 32),(.bool false),(.int 181 0),(.ref 33),.none,.none,.none,.none,(.int 213 0),(.int 11 0),(acB 214)]),
 (.mk (.type "frame") none .plain #[(some (.ref 34)),(some (.ref 3)),(some (.ref 31)),none,(some acs),none,(some (.ref 0))]),
 (acn #[]),
 (acp #[]),
 (acn #[(.str "self" 223),(.str "text" 224)]),
 (acn #[]),
 (.mk .none none (.func (QM (Qe (top 4) 0) "LoadError.__init__" 0 .none .none)) #[]),
 (aco "code" #[(.str "__init__" 220),(.str "LoadError.__init__" 221),(acB 222),(.int 13 0),(.int 2 0),(.int 0 0),(.int 0 0),(.int 3 0),(.ref 36),(.bool true),(.int 181 0),(.ref 37),.none,(.ref 38),(.ref 39),(.ref 40),(.int 225 0),(.int 13 0),(acB 226)]),
 (.mk (.type "function") none (.func (QM (Qe (top 4) 0) "LoadError.__init__" 3 acs (.ref 41))) #[]),
 (acn #[]),
 (acq #[(acm P "__module__" 215 acs),(acm P "__firstlineno__" 219 (.int 11 218)),(acm P "__init__" 227 (.ref 42)),(acm P "__static_attributes__" 228 (.ref 43)),(acm P "__weakref__" 230 (.ref 46)),(acm P "__doc__" 231 .none)] 3),
 (.mk (.type "type") none (.cls (.mk "LoadError" [(.type "ValueError")] [(.ref 45),(.type "ValueError"),(.type "Exception"),(.type "BaseException"),(.type "object")] 44 "LoadError" true [] [(.ref 58),(.ref 70),(.ref 82)] false none false)) #[(some (.ref 29)),none,(some (.str "LoadError" 208)),(some (.str "LoadError" 216)),(some (.builtin "ValueError.__new__")),(some (.bool true))]),
 (aco "getset_descriptor" #[(.str "__weakref__" 229),(.ref 45),(.builtin "ExceptionGroup.__weakref__"),.none]),
 (aco "super" #[(.ref 45),(.ref 45),(.ref 45)]),
 (aco "builtin_function_or_method" #[(.builtin "object.__init_subclass__"),(.ref 45)])]
noncomputable def f5(P:Params):List Obj:=[(acn #[(.ref 45)]),
 (aco "builtin_function_or_method" #[(.builtin "type.__prepare__"),(.type "type")]),
 (acq #[(acm P "__module__" 241 acs),(acm P "__qualname__" 243 (.str "NoNumber" 242)),(acm P "__firstlineno__" 245 (.int 15 244)),(acm P "__static_attributes__" 246 (.ref 56))] 4),
 (acn #[]),
 (acp #[]),
 (aco "code" #[(.str "NoNumber" 236),(.str "NoNumber" 237),(acB 238),(.int 15 0),(.int 0 0),(.int 0 0),(.int 0 0),(.int 0 0),(.ref 52),(.bool false),(.int 181 0),(.ref 53),.none,.none,.none,.none,(.int 239 0),(.int 15 0),(acB 240)]),
 (.mk (.type "frame") none .plain #[(some (.ref 54)),(some (.ref 3)),(some (.ref 51)),none,(some acs),none,(some (.ref 0))]),
 (acn #[]),
 (acq #[(acm P "__module__" 241 acs),(acm P "__firstlineno__" 245 (.int 15 244)),(acm P "__static_attributes__" 246 (.ref 56)),(acm P "__doc__" 247 .none)] 2),
 (.mk (.type "type") none (.cls (.mk "NoNumber" [(.ref 45)] [(.ref 58),(.ref 45),(.type "ValueError"),(.type "Exception"),(.type "BaseException"),(.type "object")] 57 "NoNumber" true [] [] false none false)) #[(some (.ref 49)),none,(some (.str "NoNumber" 234)),(some (.str "NoNumber" 242)),(some (.builtin "ValueError.__new__")),(some (.bool true))]),
 (aco "super" #[(.ref 58),(.ref 58),(.ref 58)]),
 (aco "builtin_function_or_method" #[(.builtin "object.__init_subclass__"),(.ref 58)])]
noncomputable def f6(P:Params):List Obj:=[(acn #[(.ref 45)]),
 (aco "builtin_function_or_method" #[(.builtin "type.__prepare__"),(.type "type")]),
 (acq #[(acm P "__module__" 257 acs),(acm P "__qualname__" 259 (.str "TooMany" 258)),(acm P "__firstlineno__" 261 (.int 17 260)),(acm P "__static_attributes__" 262 (.ref 68))] 4),
 (acn #[]),
 (acp #[]),
 (aco "code" #[(.str "TooMany" 252),(.str "TooMany" 253),(acB 254),(.int 17 0),(.int 0 0),(.int 0 0),(.int 0 0),(.int 0 0),(.ref 64),(.bool false),(.int 181 0),(.ref 65),.none,.none,.none,.none,(.int 255 0),(.int 17 0),(acB 256)]),
 (.mk (.type "frame") none .plain #[(some (.ref 66)),(some (.ref 3)),(some (.ref 63)),none,(some acs),none,(some (.ref 0))]),
 (acn #[]),
 (acq #[(acm P "__module__" 257 acs),(acm P "__firstlineno__" 261 (.int 17 260)),(acm P "__static_attributes__" 262 (.ref 68)),(acm P "__doc__" 263 .none)] 2),
 (.mk (.type "type") none (.cls (.mk "TooMany" [(.ref 45)] [(.ref 70),(.ref 45),(.type "ValueError"),(.type "Exception"),(.type "BaseException"),(.type "object")] 69 "TooMany" true [] [] false none false)) #[(some (.ref 61)),none,(some (.str "TooMany" 250)),(some (.str "TooMany" 258)),(some (.builtin "ValueError.__new__")),(some (.bool true))]),
 (aco "super" #[(.ref 70),(.ref 70),(.ref 70)]),
 (aco "builtin_function_or_method" #[(.builtin "object.__init_subclass__"),(.ref 70)])]
noncomputable def f7(P:Params):List Obj:=[(acn #[(.ref 45)]),
 (aco "builtin_function_or_method" #[(.builtin "type.__prepare__"),(.type "type")]),
 (acq #[(acm P "__module__" 273 acs),(acm P "__qualname__" 275 (.str "NoPlace" 274)),(acm P "__firstlineno__" 277 (.int 19 276)),(acm P "__static_attributes__" 278 (.ref 80))] 4),
 (acn #[]),
 (acp #[]),
 (aco "code" #[(.str "NoPlace" 268),(.str "NoPlace" 269),(acB 270),(.int 19 0),(.int 0 0),(.int 0 0),(.int 0 0),(.int 0 0),(.ref 76),(.bool false),(.int 181 0),(.ref 77),.none,.none,.none,.none,(.int 271 0),(.int 19 0),(acB 272)]),
 (.mk (.type "frame") none .plain #[(some (.ref 78)),(some (.ref 3)),(some (.ref 75)),none,(some acs),none,(some (.ref 0))]),
 (acn #[]),
 (acq #[(acm P "__module__" 273 acs),(acm P "__firstlineno__" 277 (.int 19 276)),(acm P "__static_attributes__" 278 (.ref 80)),(acm P "__doc__" 279 .none)] 2),
 (.mk (.type "type") none (.cls (.mk "NoPlace" [(.ref 45)] [(.ref 82),(.ref 45),(.type "ValueError"),(.type "Exception"),(.type "BaseException"),(.type "object")] 81 "NoPlace" true [] [] false none false)) #[(some (.ref 73)),none,(some (.str "NoPlace" 266)),(some (.str "NoPlace" 274)),(some (.builtin "ValueError.__new__")),(some (.bool true))]),
 (aco "super" #[(.ref 82),(.ref 82),(.ref 82)]),
 (aco "builtin_function_or_method" #[(.builtin "object.__init_subclass__"),(.ref 82)])]
noncomputable def f9(P:Params):List Obj:=bX (top 9) 85 284 ["thing"] (.str "ringloads.names" 282)
noncomputable def V4(P:Params):List Obj:=[(acn #[(.int 0 293),(.int 1 294)])]
noncomputable def V5(P:Params):List Obj:=bX (top 12) 93 296 ["top","bottom","shared"] acu
noncomputable def V6(P:Params):List Obj:=bX (top 13) 100 305 ["top","bottom"] acu
noncomputable def V7(P:Params):List Obj:=bX (top 14) 107 313 ["one","other"] acu
noncomputable def V8(P:Params):List Obj:=bX (top 15) 114 321 ["one","other"] acu
noncomputable def V9(P:Params):List Obj:=bX (top 16) 121 329 ["one","other"] acu
noncomputable def Wa(P:Params):List Obj:=bX (top 17) 128 337 ["one","other"] acu
noncomputable def Wb(P:Params):List Obj:=bX (top 18) 135 345 ["one","other"] acu
noncomputable def Wc(P:Params):List Obj:=bX (top 19) 142 353 ["one","other"] acu
noncomputable def Wd(P:Params):List Obj:=bX (top 20) 149 361 ["some","whole","one"] acu
noncomputable def We(P:Params):List Obj:=c9 (top 22) 156 372 acx
noncomputable def Wf(P:Params):List Obj:=c9 (top 23) 161 378 acx
noncomputable def Wg(P:Params):List Obj:=c9 (top 24) 166 384 acx
noncomputable def Wh(P:Params):List Obj:=c9 (top 25) 171 390 acx
noncomputable def Wi(P:Params):List Obj:=c9 (top 26) 176 396 acx
noncomputable def Wj(P:Params):List Obj:=bX (top 28) 181 404 ["cut","place"] acv
noncomputable def Wk(P:Params):List Obj:=bX (top 29) 188 412 ["cut","one","other"] acv
noncomputable def Wl(P:Params):List Obj:=c9 (top 30) 195 421 acv
noncomputable def Wm(P:Params):List Obj:=bX (top 31) 200 427 ["ring","cut"] acv
noncomputable def Wn(P:Params):List Obj:=bX (top 32) 207 435 ["ring","cut"] acv
noncomputable def Wo(P:Params):List Obj:=c9 (top 33) 214 443 acv
noncomputable def Wp(P:Params):List Obj:=bX (top 34) 219 449 ["ring","found","cut","shown"] acv
noncomputable def Wq(P:Params):List Obj:=c9 (top 36) 226 461 (.str "ringloads.units" 459)
noncomputable def Wr(P:Params):List Obj:=bX (top 37) 231 467 ["some","bottom","one"] (.str "ringloads.units" 459)
noncomputable def Ws(P:Params):List Obj:=c9 (top 38) 238 476 (.str "ringloads.units" 459)
noncomputable def Wt(P:Params):List Obj:=bX (top 42) 243 488 ["way"] (.str "ringloads.ways" 482)
noncomputable def Wu(P:Params):List Obj:=c9 (top 43) 250 495 (.str "ringloads.ways" 482)
noncomputable def Wv(P:Params):List Obj:=bX (top 44) 255 501 ["ring","k","way","tie","places","one","other","lies_on"] (.str "ringloads.ways" 482)
noncomputable def Ww(P:Params):List Obj:=bX (top 46) 262 517 ["ring","sending","k","tie"] acw
noncomputable def Wx(P:Params):List Obj:=c9 (top 47) 269 527 acw
noncomputable def Wy(P:Params):List Obj:=c9 (top 48) 274 533 acw
noncomputable def Wz(P:Params):List Obj:=c9 (top 49) 279 539 acw
noncomputable def WA(P:Params):List Obj:=bX (top 50) 284 545 ["ring","sending","strains","top","tie","strain"] acw
noncomputable def WB(P:Params):List Obj:=c9 (top 52) 291 559 (.str "ringloads.sendings" 557)
noncomputable def WC(P:Params):List Obj:=bX (top 53) 296 565 ["ring","ways"] (.str "ringloads.sendings" 557)
noncomputable def WD(P:Params):List Obj:=c9 (top 55) 303 575 (.str "ringloads.wishes" 573)
noncomputable def WE(P:Params):List Obj:=bX (top 56) 308 581 ["wish","load","bound"] (.str "ringloads.wishes" 573)
noncomputable def WG(P:Params):List Obj:=bX (top 57) 315 590 ["wish","ways"] (.str "ringloads.wishes" 573)
noncomputable def WH(P:Params):List Obj:=c9 (top 63) 322 608 acy
noncomputable def WI(P:Params):List Obj:=c9 (top 64) 327 614 acy
noncomputable def WJ(P:Params):List Obj:=c9 (top 65) 332 620 acy
noncomputable def WL(P:Params):List Obj:=bX (top 66) 337 626 ["wish","bounds","fixed","loads","cut","bound"] acy
noncomputable def WM(P:Params):List Obj:=c9 (top 68) 344 640 (.str "ringloads.best" 638)
noncomputable def WN(P:Params):List Obj:=c9 (top 69) 349 646 (.str "ringloads.best" 638)
noncomputable def WO(P:Params):List Obj:=bX (top 71) 354 654 ["ring","top","scale","waiting","free","sending","k","size","part"] acz
noncomputable def WQ(P:Params):List Obj:=bX (top 72) 361 669 ["ring","k","waiting","free","ties","twice","g","h"] acz
noncomputable def WR(P:Params):List Obj:=c9 (top 73) 368 683 acz
noncomputable def WS(P:Params):List Obj:=c9 (top 74) 373 689 acz
noncomputable def WT(P:Params):List Obj:=bX (top 76) 378 697 ["ring","greatest"] (.str "ringloads.leasts" 695)
noncomputable def WU(P:Params):List Obj:=c9 (top 80) 385 711 (.str "ringloads.placing" 709)
noncomputable def WV(P:Params):List Obj:=c9 (top 81) 390 717 (.str "ringloads.placing" 709)
noncomputable def WW(P:Params):List Obj:=bX (top 82) 395 723 ["rooms","place","joined"] (.str "ringloads.placing" 709)
noncomputable def WX(P:Params):List Obj:=c9 (top 84) 402 734 acA
noncomputable def WY(P:Params):List Obj:=c9 (top 85) 407 740 acA
noncomputable def WZ(P:Params):List Obj:=c9 (top 86) 412 746 acA
noncomputable def W0(P:Params):List Obj:=bX (top 88) 417 754 ["_law_script","_law_k","_law_cell"] acr
noncomputable def W1(P:Params):List Obj:=bX (top 89) 424 763 ["_law_state","_law_many","_law_digit","_law_drawn","_law_turn"] acr
noncomputable def W2(P:Params):List Obj:=bX (top 90) 431 774 ["_law_top","_law_bottom","_law_one","_law_share"] acr
noncomputable def W3(P:Params):List Obj:=bX (top 91) 438 784 ["_law_state","_law_least","_law_kind","_law_bottom","_law_top"] acr
noncomputable def W4(P:Params):List Obj:=c9 (top 92) 445 795 acr
noncomputable def W5(P:Params):List Obj:=bX (top 93) 450 801 ["_law_state","_law_ties","_law_kind","_law_alike","_law_one","_law_rooms_here","_law_more"] acr
noncomputable def W6(P:Params):List Obj:=bX (top 94) 457 814 ["_law_state","_law_shape","_law_places","_law_k","_law_one","_law_other"] acr
noncomputable def W7(P:Params):List Obj:=bX (top 95) 464 826 ["_law_script","_law_at","_law_most","_law_count","_law_state","_law_places","_law_many","_law_kinds","_law_shape","_law_names_here","_law_rooms_here","_law_asks","_law_k","_law_one","_law_other"] acr
noncomputable def W8(P:Params):List Obj:=bX (top 96) 471 847 ["_law_one","_law_other"] acr
noncomputable def W9(P:Params):List Obj:=bX (top 97) 478 855 ["_law_one","_law_other"] acr
noncomputable def Xa(P:Params):List Obj:=bX (top 98) 485 863 ["_law_one","_law_other"] acr
noncomputable def Xb(P:Params):List Obj:=c9 (top 99) 492 871 acr
noncomputable def RA(P:Params):List Obj:=bX (top 100) 497 877 ["_law_ring_here"] acr
noncomputable def RC(P:Params):List Obj:=c9 (top 101) 504 884 acr
noncomputable def RD(P:Params):List Obj:=c9 (top 102) 509 890 acr
noncomputable def RE(P:Params):List Obj:=bX (top 103) 514 896 ["_law_script","_law_at"] acr
noncomputable def RF(P:Params)(b:Nat):Obj:=(bif b.blt 61 then(bif b.blt 29 then(bif b.blt 22 then(f1 P).getD (b-15) default else(f2 P).getD (b-22) default)else(bif b.blt 49 then(f4 P).getD (b-29) default else(f5 P).getD (b-49) default))else(bif b.blt 85 then(bif b.blt 73 then(f6 P).getD (b-61) default else(f7 P).getD (b-73) default)else(bif b.blt 92 then(f9 P).getD (b-85) default else(bif b.blt 93 then(V4 P).getD (b-92) default else(V5 P).getD (b-93) default))))
noncomputable def RG(P:Params)(b:Nat):Obj:=(bif b.blt 135 then(bif b.blt 114 then(bif b.blt 107 then(V6 P).getD (b-100) default else(V7 P).getD (b-107) default)else(bif b.blt 121 then(V8 P).getD (b-114) default else(bif b.blt 128 then(V9 P).getD (b-121) default else(Wa P).getD (b-128) default)))else(bif b.blt 149 then(bif b.blt 142 then(Wb P).getD (b-135) default else(Wc P).getD (b-142) default)else(bif b.blt 156 then(Wd P).getD (b-149) default else(bif b.blt 161 then(We P).getD (b-156) default else(Wf P).getD (b-161) default))))
noncomputable def SY(P:Params)(b:Nat):Obj:=bif b.blt 100 then RF P b else RG P b
noncomputable def RH(P:Params)(b:Nat):Obj:=(bif b.blt 195 then(bif b.blt 176 then(bif b.blt 171 then(Wg P).getD (b-166) default else(Wh P).getD (b-171) default)else(bif b.blt 181 then(Wi P).getD (b-176) default else(bif b.blt 188 then(Wj P).getD (b-181) default else(Wk P).getD (b-188) default)))else(bif b.blt 207 then(bif b.blt 200 then(Wl P).getD (b-195) default else(Wm P).getD (b-200) default)else(bif b.blt 214 then(Wn P).getD (b-207) default else(bif b.blt 219 then(Wo P).getD (b-214) default else(Wp P).getD (b-219) default))))
noncomputable def RI(P:Params)(b:Nat):Obj:=(bif b.blt 255 then(bif b.blt 238 then(bif b.blt 231 then(Wq P).getD (b-226) default else(Wr P).getD (b-231) default)else(bif b.blt 243 then(Ws P).getD (b-238) default else(bif b.blt 250 then(Wt P).getD (b-243) default else(Wu P).getD (b-250) default)))else(bif b.blt 269 then(bif b.blt 262 then(Wv P).getD (b-255) default else(Ww P).getD (b-262) default)else(bif b.blt 274 then(Wx P).getD (b-269) default else(bif b.blt 279 then(Wy P).getD (b-274) default else(Wz P).getD (b-279) default))))
noncomputable def SZ(P:Params)(b:Nat):Obj:=bif b.blt 226 then RH P b else RI P b
noncomputable def Xd(P:Params)(b:Nat):Obj:=bif b.blt 166 then SY P b else SZ P b
noncomputable def RJ(P:Params)(b:Nat):Obj:=(bif b.blt 308 then(bif b.blt 296 then(bif b.blt 291 then(WA P).getD (b-284) default else(WB P).getD (b-291) default)else(bif b.blt 303 then(WC P).getD (b-296) default else(WD P).getD (b-303) default))else(bif b.blt 322 then(bif b.blt 315 then(WE P).getD (b-308) default else(WG P).getD (b-315) default)else(bif b.blt 327 then(WH P).getD (b-322) default else(bif b.blt 332 then(WI P).getD (b-327) default else(WJ P).getD (b-332) default))))
noncomputable def RK(P:Params)(b:Nat):Obj:=(bif b.blt 368 then(bif b.blt 349 then(bif b.blt 344 then(WL P).getD (b-337) default else(WM P).getD (b-344) default)else(bif b.blt 354 then(WN P).getD (b-349) default else(bif b.blt 361 then(WO P).getD (b-354) default else(WQ P).getD (b-361) default)))else(bif b.blt 378 then(bif b.blt 373 then(WR P).getD (b-368) default else(WS P).getD (b-373) default)else(bif b.blt 385 then(WT P).getD (b-378) default else(bif b.blt 390 then(WU P).getD (b-385) default else(WV P).getD (b-390) default))))
noncomputable def Ta(P:Params)(b:Nat):Obj:=bif b.blt 337 then RJ P b else RK P b
noncomputable def RL(P:Params)(b:Nat):Obj:=(bif b.blt 424 then(bif b.blt 407 then(bif b.blt 402 then(WW P).getD (b-395) default else(WX P).getD (b-402) default)else(bif b.blt 412 then(WY P).getD (b-407) default else(bif b.blt 417 then(WZ P).getD (b-412) default else(W0 P).getD (b-417) default)))else(bif b.blt 438 then(bif b.blt 431 then(W1 P).getD (b-424) default else(W2 P).getD (b-431) default)else(bif b.blt 445 then(W3 P).getD (b-438) default else(bif b.blt 450 then(W4 P).getD (b-445) default else(W5 P).getD (b-450) default))))
noncomputable def RM(P:Params)(b:Nat):Obj:=(bif b.blt 492 then(bif b.blt 471 then(bif b.blt 464 then(W6 P).getD (b-457) default else(W7 P).getD (b-464) default)else(bif b.blt 478 then(W8 P).getD (b-471) default else(bif b.blt 485 then(W9 P).getD (b-478) default else(Xa P).getD (b-485) default)))else(bif b.blt 504 then(bif b.blt 497 then(Xb P).getD (b-492) default else(RA P).getD (b-497) default)else(bif b.blt 509 then(RC P).getD (b-504) default else(bif b.blt 514 then(RD P).getD (b-509) default else(RE P).getD (b-514) default))))
noncomputable def Tb(P:Params)(b:Nat):Obj:=bif b.blt 457 then RL P b else RM P b
noncomputable def Xe(P:Params)(b:Nat):Obj:=bif b.blt 395 then Ta P b else Tb P b
noncomputable def ob(P:Params)(b:Nat):Obj:=bif b.blt 284 then Xd P b else Xe P b
noncomputable def HM(P:Params):List DictEntry:=[(acm P "greatest_shared" 197 (.ref 21)),
 (acm P "least_common" 205 (.ref 28)),
 (acm P "LoadError" 233 (.ref 45)),
 (acm P "NoNumber" 249 (.ref 58)),
 (acm P "TooMany" 265 (.ref 70)),
 (acm P "NoPlace" 281 (.ref 82)),
 (acm P "is_whole" 290 (.ref 91)),
 (acm P "NOUGHT" 295 (.ref 92)),
 (acm P "lowest" 304 (.ref 99)),
 (acm P "ratio" 312 (.ref 106)),
 (acm P "plus" 320 (.ref 113)),
 (acm P "minus" 328 (.ref 120)),
 (acm P "times" 336 (.ref 127)),
 (acm P "over" 344 (.ref 134)),
 (acm P "under" 352 (.ref 141)),
 (acm P "lesser" 360 (.ref 148)),
 (acm P "sum_of" 369 (.ref 155)),
 (acm P "turned_ring" 377 (.ref 160)),
 (acm P "mirrored_ring" 383 (.ref 165)),
 (acm P "renumbered" 389 (.ref 170)),
 (acm P "scaled_ring" 395 (.ref 175)),
 (acm P "told_round" 401 (.ref 180)),
 (acm P "is_within" 411 (.ref 187)),
 (acm P "parts_places" 420 (.ref 194)),
 (acm P "across" 426 (.ref 199)),
 (acm P "rooms_of" 434 (.ref 206)),
 (acm P "shown_by" 442 (.ref 213)),
 (acm P "all_cuts" 448 (.ref 218)),
 (acm P "greatest_cut" 458 (.ref 225)),
 (acm P "weighed" 466 (.ref 230)),
 (acm P "common_bottom" 475 (.ref 237)),
 (acm P "in_units" 481 (.ref 242)),
 (acm P "ON" 485 (.str "on" 484)),
 (acm P "BACK" 487 (.str "back" 486)),
 (acm P "other_way" 494 (.ref 249)),
 (acm P "ties_of" 500 (.ref 254)),
 (acm P "is_over" 514 (.ref 261)),
 (acm P "sent_over" 526 (.ref 268)),
 (acm P "load_of" 532 (.ref 273)),
 (acm P "loads_of" 538 (.ref 278)),
 (acm P "strains_of" 544 (.ref 283)),
 (acm P "top_of" 556 (.ref 290)),
 (acm P "sent_by" 564 (.ref 295)),
 (acm P "top_by" 572 (.ref 302)),
 (acm P "turned_by" 580 (.ref 307)),
 (acm P "is_too_much" 589 (.ref 314)),
 (acm P "are_too_many" 597 (.ref 321)),
 (acm P "CUT" 599 (.str "cut" 598)),
 (acm P "TURNED" 601 (.str "turned" 600)),
 (acm P "SPLIT" 603 (.str "split" 602)),
 (acm P "MOST_SEARCHED" 607 (.int 7 606)),
 (acm P "ways_for" 613 (.ref 326)),
 (acm P "bounds_of" 619 (.ref 331)),
 (acm P "searched" 625 (.ref 336)),
 (acm P "reason_against" 637 (.ref 343)),
 (acm P "wish_for_less" 645 (.ref 348)),
 (acm P "best_ways" 651 (.ref 353)),
 (acm P "sent_one_by_one" 668 (.ref 360)),
 (acm P "most_on" 682 (.ref 367)),
 (acm P "still_across" 688 (.ref 372)),
 (acm P "left_free" 694 (.ref 377)),
 (acm P "least_top" 704 (.ref 384)),
 (acm P "FEWEST_TIES" 706 (.int 2 705)),
 (acm P "MOST_TIES" 708 (.int 12 707)),
 (acm P "place_put" 716 (.ref 389)),
 (acm P "place_taken" 722 (.ref 394)),
 (acm P "joined_rooms" 731 (.ref 401)),
 (acm P "asks_like" 739 (.ref 406)),
 (acm P "first_asks" 745 (.ref 411)),
 (acm P "put_together" 751 (.ref 416)),
 (acm P "_law_begun" 762 (.ref 423)),
 (acm P "_law_take" 773 (.ref 430)),
 (acm P "_law_low" 783 (.ref 437)),
 (acm P "_law_amount" 794 (.ref 444)),
 (acm P "_law_names" 800 (.ref 449)),
 (acm P "_law_rooms" 813 (.ref 456)),
 (acm P "_law_ends" 825 (.ref 463)),
 (acm P "_law_ring" 846 (.ref 470)),
 (acm P "_law_times" 854 (.ref 477)),
 (acm P "_law_over" 862 (.ref 484)),
 (acm P "_law_under" 870 (.ref 491)),
 (acm P "_law_same" 876 (.ref 496)),
 (acm P "_law_tops" 883 (.ref 503)),
 (acm P "_law_rings" 889 (.ref 508)),
 (acm P "_law_good" 895 (.ref 513)),
 (acm P "law" 903 (.ref 520))]
noncomputable def Xf:List Value:=[(.int 2 0),(.int 0 0),(.ref 20),(.int 8 0),(.int 0 0),(.ref 27),(.int 11 0),(.int 0 0),(.ref 34),(.int 15 0),(.int 0 0),(.ref 54),(.int 17 0),(.int 0 0),(.ref 66),(.int 19 0),(.int 0 0),(.ref 78),(.int 22 0),(.int 0 0),(.ref 90),(.int 26 0),(.int 0 0),(.ref 98),(.int 31 0),(.int 0 0),(.ref 105),(.int 35 0),(.int 0 0),(.ref 112),(.int 37 0),(.int 0 0),(.ref 119),(.int 39 0),(.int 0 0),(.ref 126),(.int 41 0),(.int 0 0),(.ref 133),(.int 45 0),(.int 0 0),(.ref 140),(.int 47 0),(.int 0 0),(.ref 147),(.int 49 0),(.int 0 0),(.ref 154),(.int 55 0),(.int 0 0),(.ref 159),(.int 59 0),(.int 0 0),(.ref 164),(.int 63 0),(.int 0 0),(.ref 169),(.int 65 0),(.int 0 0),(.ref 174),(.int 68 0),(.int 0 0),(.ref 179),(.int 72 0),(.int 0 0),(.ref 186),(.int 74 0),(.int 0 0),(.ref 193),(.int 76 0),(.int 0 0),(.ref 198),(.int 78 0),(.int 0 0),(.ref 205),(.int 80 0),(.int 0 0),(.ref 212),(.int 82 0),(.int 0 0),(.ref 217),(.int 87 0),(.int 0 0),(.ref 224),(.int 95 0),(.int 0 0),(.ref 229),(.int 100 0),(.int 0 0),(.ref 236),(.int 105 0),(.int 0 0),(.ref 241),(.int 110 0),(.int 0 0),(.ref 248),(.int 112 0),(.int 0 0),(.ref 253),(.int 119 0),(.int 0 0),(.ref 260),(.int 126 0),(.int 0 0),(.ref 267),(.int 130 0),(.int 0 0),(.ref 272),(.int 132 0),(.int 0 0),(.ref 277),(.int 134 0),(.int 0 0),(.ref 282),(.int 136 0),(.int 0 0),(.ref 289),(.int 144 0),(.int 0 0),(.ref 294),(.int 146 0),(.int 0 0),(.ref 301),(.int 149 0),(.int 0 0),(.ref 306),(.int 152 0),(.int 0 0),(.ref 313),(.int 154 0),(.int 0 0),(.ref 320),(.int 161 0),(.int 0 0),(.ref 325),(.int 166 0),(.int 0 0),(.ref 330),(.int 172 0),(.int 0 0),(.ref 335),(.int 187 0),(.int 0 0),(.ref 342),(.int 195 0),(.int 0 0),(.ref 347),(.int 197 0),(.int 0 0),(.ref 352),(.int 206 0),(.int 0 0),(.ref 359),(.int 216 0),(.int 0 0),(.ref 366),(.int 224 0),(.int 0 0),(.ref 371),(.int 227 0),(.int 0 0),(.ref 376),(.int 230 0),(.int 0 0),(.ref 383),(.int 236 0),(.int 0 0),(.ref 388),(.int 242 0),(.int 0 0),(.ref 393),(.int 247 0),(.int 0 0),(.ref 400),(.int 253 0),(.int 0 0),(.ref 405),(.int 256 0),(.int 0 0),(.ref 410),(.int 258 0),(.int 0 0),(.ref 415),(.int 263 0),(.int 0 0),(.ref 422),(.int 268 0),(.int 0 0),(.ref 429),(.int 279 0),(.int 0 0),(.ref 436),(.int 287 0),(.int 0 0),(.ref 443),(.int 291 0),(.int 0 0),(.ref 448),(.int 297 0),(.int 0 0),(.ref 455),(.int 307 0),(.int 0 0),(.ref 462),(.int 317 0),(.int 0 0),(.ref 469),(.int 331 0),(.int 0 0),(.ref 476),(.int 333 0),(.int 0 0),(.ref 483),(.int 335 0),(.int 0 0),(.ref 490),(.int 337 0),(.int 0 0),(.ref 495),(.int 351 0),(.int 0 0),(.ref 502),(.int 353 0),(.int 0 0),(.ref 507),(.int 364 0),(.int 0 0),(.ref 512),(.int 379 0),(.int 0 0),(.ref 519)]
noncomputable def Xg(P:Params):List (Nat×Obj):=[(12,CU (Xf.take 0))]
noncomputable def T0(P:Params):BT:=V3 15 (λb=>G5 [12] P (Xg P) ob b 0) 1 0 0
noncomputable abbrev S0(w:World)(os:OsState):SharedT:=⟨T0 w.params,15,nN,#[],⟨0,0,0,0⟩,187,os⟩
noncomputable def Xh(P:Params):List (Nat×Obj):=[(3,uK P acs ((HM P).take 3) 12),(12,CU (Xf.take 9)),(45,(.mk (.type "type") none (.cls (.mk "LoadError" [(.type "ValueError")] [(.ref 45),(.type "ValueError"),(.type "Exception"),(.type "BaseException"),(.type "object")] 44 "LoadError" true [] [] false none false)) #[(some (.ref 29)),none,(some (.str "LoadError" 208)),(some (.str "LoadError" 216)),(some (.builtin "ValueError.__new__")),(some (.bool true))]))]
noncomputable def T1(P:Params):BT:=V3 49 (λb=>G5 [3,12,45] P (Xh P) ob b 1) 1 0 1
noncomputable abbrev S1(w:World)(os:OsState):SharedT:=⟨T1 w.params,49,nN,#[],⟨0,0,0,0⟩,234,os⟩
noncomputable def Xi(P:Params):List (Nat×Obj):=[(3,uK P acs ((HM P).take 4) 13),(12,CU (Xf.take 12)),(45,(.mk (.type "type") none (.cls (.mk "LoadError" [(.type "ValueError")] [(.ref 45),(.type "ValueError"),(.type "Exception"),(.type "BaseException"),(.type "object")] 44 "LoadError" true [] [(.ref 58)] false none false)) #[(some (.ref 29)),none,(some (.str "LoadError" 208)),(some (.str "LoadError" 216)),(some (.builtin "ValueError.__new__")),(some (.bool true))]))]
noncomputable def T2(P:Params):BT:=V3 61 (λb=>G5 [3,12,45] P (Xi P) ob b 2) 1 0 2
noncomputable abbrev S2(w:World)(os:OsState):SharedT:=⟨T2 w.params,61,nN,#[],⟨0,0,0,0⟩,250,os⟩
noncomputable def Xj(P:Params):List (Nat×Obj):=[(3,uK P acs ((HM P).take 5) 14),(12,CU (Xf.take 15)),(45,(.mk (.type "type") none (.cls (.mk "LoadError" [(.type "ValueError")] [(.ref 45),(.type "ValueError"),(.type "Exception"),(.type "BaseException"),(.type "object")] 44 "LoadError" true [] [(.ref 58),(.ref 70)] false none false)) #[(some (.ref 29)),none,(some (.str "LoadError" 208)),(some (.str "LoadError" 216)),(some (.builtin "ValueError.__new__")),(some (.bool true))]))]
noncomputable def T3(P:Params):BT:=V3 73 (λb=>G5 [3,12,45] P (Xj P) ob b 3) 1 0 3
noncomputable abbrev S3(w:World)(os:OsState):SharedT:=⟨T3 w.params,73,nN,#[],⟨0,0,0,0⟩,266,os⟩
noncomputable def Xk(P:Params):List (Nat×Obj):=[(3,uK P acu ((HM P).take 12) 21),(12,CU (Xf.take 33))]
noncomputable def T4(P:Params):BT:=V3 121 (λb=>G5 [3,12] P (Xk P) ob b 4) 1 0 4
noncomputable abbrev S4(w:World)(os:OsState):SharedT:=⟨T4 w.params,121,nN,#[],⟨0,0,0,0⟩,329,os⟩
noncomputable def Xl(P:Params):List (Nat×Obj):=[(3,uK P acv ((HM P).take 25) 34),(12,CU (Xf.take 72))]
noncomputable def T5(P:Params):BT:=V3 200 (λb=>G5 [3,12] P (Xl P) ob b 5) 1 0 5
noncomputable abbrev S5(w:World)(os:OsState):SharedT:=⟨T5 w.params,200,nN,#[],⟨0,0,0,0⟩,427,os⟩
noncomputable def Xm(P:Params):List (Nat×Obj):=[(3,uK P acw ((HM P).take 39) 48),(12,CU (Xf.take 108))]
noncomputable def T6(P:Params):BT:=V3 274 (λb=>G5 [3,12] P (Xm P) ob b 6) 1 0 6
noncomputable abbrev S6(w:World)(os:OsState):SharedT:=⟨T6 w.params,274,nN,#[],⟨0,0,0,0⟩,533,os⟩
noncomputable def Xn(P:Params):List (Nat×Obj):=[(3,uK P acy ((HM P).take 54) 63),(12,CU (Xf.take 141))]
noncomputable def T7(P:Params):BT:=V3 337 (λb=>G5 [3,12] P (Xn P) ob b 7) 1 0 7
noncomputable abbrev S7(w:World)(os:OsState):SharedT:=⟨T7 w.params,337,nN,#[],⟨0,0,0,0⟩,626,os⟩
noncomputable def Xo(P:Params):List (Nat×Obj):=[(3,uK P acA ((HM P).take 67) 76),(12,CU (Xf.take 174))]
noncomputable def T8(P:Params):BT:=V3 402 (λb=>G5 [3,12] P (Xo P) ob b 8) 1 0 8
noncomputable abbrev S8(w:World)(os:OsState):SharedT:=⟨T8 w.params,402,nN,#[],⟨0,0,0,0⟩,734,os⟩
noncomputable def Xp(P:Params):List (Nat×Obj):=[(3,uK P acr ((HM P).take 79) 88),(12,CU (Xf.take 210))]
noncomputable def T9(P:Params):BT:=V3 478 (λb=>G5 [3,12] P (Xp P) ob b 9) 1 0 9
noncomputable abbrev S9(w:World)(os:OsState):SharedT:=⟨T9 w.params,478,nN,#[],⟨0,0,0,0⟩,855,os⟩
noncomputable def R9(P:Params):List (Nat×Obj):=[(3,uK P acr ((HM P).take 86) 95),(12,CU (Xf.take 231))]
noncomputable def Xq(P:Params):BT:=V3 521 (λb=>G5 [3,12] P (R9 P) ob b 10) 1 0 10
noncomputable abbrev Xr(w:World)(os:OsState):SharedT:=⟨Xq w.params,521,nN,#[],⟨0,0,0,0⟩,904,os⟩
noncomputable abbrev env:Env:={scope:=pr.main.scope,locals:=mainNs,globals:=mainNs,cells:=[],code:=.ref 13,frame:=some 14}
noncomputable abbrev cE:Code:=.body (behindTheImports pr) env
noncomputable abbrev B:List Frame:=[topFrame ⟨0,0,0,0⟩]
noncomputable def Sa:List Stmt:=(pr.main.body.drop 0).take 5
theorem Xs(w:World)(os:OsState):segRunT treeTable pr w 11 (some (.ref 6)) 1 297 (S0 w os) (piecesOf Sa env cE ⟨0,0,0,0⟩ B)=some (.next,S1 w os,cE,⟨11,0,14,39⟩):=ly z_
noncomputable def Sb:List Stmt:=(pr.main.body.drop 5).take 1
theorem Xu(w:World)(os:OsState):segRunT treeTable pr w 11 (some (.ref 6)) 1 214 (S1 w os) (piecesOf Sb env cE ⟨11,0,14,39⟩ B)=some (.next,S2 w os,cE,⟨15,0,16,8⟩):=ly z_
noncomputable def Sd:List Stmt:=(pr.main.body.drop 6).take 1
theorem Xv(w:World)(os:OsState):segRunT treeTable pr w 11 (some (.ref 6)) 1 214 (S2 w os) (piecesOf Sd env cE ⟨15,0,16,8⟩ B)=some (.next,S3 w os,cE,⟨17,0,18,8⟩):=ly z_
noncomputable def Se:List Stmt:=(pr.main.body.drop 7).take 9
theorem Xw(w:World)(os:OsState):segRunT treeTable pr w 11 (some (.ref 6)) 1 394 (S3 w os) (piecesOf Se env cE ⟨17,0,18,8⟩ B)=some (.next,S4 w os,cE,⟨37,0,38,75⟩):=ly z_
noncomputable def Sf:List Stmt:=(pr.main.body.drop 16).take 15
theorem Xx(w:World)(os:OsState):segRunT treeTable pr w 11 (some (.ref 6)) 1 387 (S4 w os) (piecesOf Sf env cE ⟨37,0,38,75⟩ B)=some (.next,S5 w os,cE,⟨76,0,77,83⟩):=ly z_
noncomputable def Sg:List Stmt:=(pr.main.body.drop 31).take 17
theorem Xy(w:World)(os:OsState):segRunT treeTable pr w 11 (some (.ref 6)) 1 396 (S5 w os) (piecesOf Sg env cE ⟨76,0,77,83⟩ B)=some (.next,S6 w os,cE,⟨130,0,131,82⟩):=ly z_
noncomputable def Sh:List Stmt:=(pr.main.body.drop 48).take 18
theorem Xz(w:World)(os:OsState):segRunT treeTable pr w 11 (some (.ref 6)) 1 371 (S6 w os) (piecesOf Sh env cE ⟨130,0,131,82⟩ B)=some (.next,S7 w os,cE,⟨172,0,186,51⟩):=ly z_
noncomputable def Si:List Stmt:=(pr.main.body.drop 66).take 18
theorem XA(w:World)(os:OsState):segRunT treeTable pr w 11 (some (.ref 6)) 1 388 (S7 w os) (piecesOf Si env cE ⟨172,0,186,51⟩ B)=some (.next,S8 w os,cE,⟨252,0,252,8⟩):=ly z_
noncomputable def Sj:List Stmt:=(pr.main.body.drop 84).take 13
theorem XB(w:World)(os:OsState):segRunT treeTable pr w 11 (some (.ref 6)) 1 385 (S8 w os) (piecesOf Sj env cE ⟨252,0,252,8⟩ B)=some (.next,S9 w os,cE,⟨331,0,332,77⟩):=ly z_
noncomputable def Qm:List Stmt:=(pr.main.body.drop 97).take 7
theorem Tc(w:World)(os:OsState):segRunT treeTable pr w 11 (some (.ref 6)) 1 198 (S9 w os) (piecesOf Qm env cE ⟨331,0,332,77⟩ B)=some (.next,Xr w os,cE,⟨379,0,383,15⟩):=ly z_
noncomputable abbrev H1(P:Params):Heap:=absHeap (Xq P) 521 nN
theorem pre(w:World)(os:OsState):topGo treeTable pr w 11 (some (.ref 6)) 12 ⟨boot_heap w.params,#[],boot_drawn,boot_toks,os⟩ (topStub pr)=some (⟨⟨⟨NP w.params⟩,nN⟩,#[],⟨0,0,0,0⟩,187,os⟩,⟨denote treeTable cE,cE,⟨0,0,0,0⟩,B⟩):=by rw[Ql];exact Rz z_
theorem Li(w:World)(os:OsState):segRun treeTable pr w 11 (some (.ref 6)) 1 1 ⟨⟨⟨NP w.params⟩,nN⟩,#[],⟨0,0,0,0⟩,187,os⟩ (blockOf (behindTheImports pr) env cE ⟨0,0,0,0⟩ B)=some (.next,(S0 w os).abs,cE,⟨0,0,0,0⟩):=by kernel_rfl
theorem Tw(w:World)(os:OsState):topRun treeTable pr w 11 (some (.ref 6)) 2 (Xr w os).abs ⟨doneF .next,cE,⟨379,0,383,15⟩,B⟩=some ⟨H1 w.params,#[],⟨0,0,0,0⟩,904,os⟩:=Qk z_
theorem NR:behindTheImports pr=(Sa++(Sb++(Sd++(Se++(Sf++(Sg++(Sh++(Si++(Sj++(Qm++[])))))))))):=by kernel_rfl
theorem run(w:World)(os:OsState):topRun treeTable pr w 11 (some (.ref 6)) (12+(1+(297+(214+(214+(394+(387+(396+(371+(388+(385+(198+2)))))))))))) ⟨boot_heap w.params,#[],boot_drawn,boot_toks,os⟩ (topStub pr)=some ⟨H1 w.params,#[],⟨0,0,0,0⟩,904,os⟩ :=
 go_top (pre w os) (piece_block (Li w os) (NQ NR (aaz (aay (Xs w os)) (aaz (aay (Xu w os)) (aaz (aay (Xv w os)) (aaz (aay (Xw w os)) (aaz (aay (Xx w os)) (aaz (aay (Xy w os)) (aaz (aay (Xz w os)) (aaz (aay (XA w os)) (aaz (aay (XB w os)) (aaz (aay (Tc w os)) (piece_nil (Tw w os))))))))))))))
noncomputable abbrev q:Program:=view pr [103]
noncomputable def loose:List Str:=(["greatest_shared","least_common","LoadError","NoNumber","TooMany","NoPlace","is_whole","NOUGHT","lowest","ratio","plus","minus","times","over","under","lesser","sum_of","turned_ring","mirrored_ring","renumbered","scaled_ring","told_round","is_within","parts_places","across","rooms_of","shown_by","all_cuts","greatest_cut","weighed","common_bottom","in_units","ON","BACK","other_way","ties_of","is_over","sent_over","load_of","loads_of","strains_of","top_of","sent_by","top_by","turned_by","is_too_much","are_too_many","CUT","TURNED","SPLIT","MOST_SEARCHED","ways_for","bounds_of","searched","reason_against","wish_for_less","best_ways","sent_one_by_one","most_on","still_across","left_free","least_top","FEWEST_TIES","MOST_TIES","place_put","place_taken","joined_rooms","asks_like","first_asks","put_together","_law_begun","_law_take","_law_low","_law_amount","_law_names","_law_rooms","_law_ends","_law_ring","_law_times","_law_over","_law_under","_law_same","_law_tops","_law_rings","_law_good"]:List String).map Str.ofString
noncomputable def Kf(P:Params):Frag:=(3,((R9 P).getD 0 (0,default)).2)::[(20,(f1 P).getD 5 default),(21,(f1 P).getD 6 default),(27,(f2 P).getD 5 default),(28,(f2 P).getD 6 default),(29,(f4 P).getD 0 default),(30,(f4 P).getD 1 default),(31,(f4 P).getD 2 default),(32,(f4 P).getD 3 default),(33,(f4 P).getD 4 default),(34,(f4 P).getD 5 default),(35,(f4 P).getD 6 default),(36,(f4 P).getD 7 default),(37,(f4 P).getD 8 default),(38,(f4 P).getD 9 default),(39,(f4 P).getD 10 default),(40,(f4 P).getD 11 default),(41,(f4 P).getD 12 default),(42,(f4 P).getD 13 default),(43,(f4 P).getD 14 default),(44,(f4 P).getD 15 default),(45,(f4 P).getD 16 default),(46,(f4 P).getD 17 default),(47,(f4 P).getD 18 default),(48,(f4 P).getD 19 default),(49,(f5 P).getD 0 default),(50,(f5 P).getD 1 default),(51,(f5 P).getD 2 default),(52,(f5 P).getD 3 default),(53,(f5 P).getD 4 default),(54,(f5 P).getD 5 default),(55,(f5 P).getD 6 default),(56,(f5 P).getD 7 default),(57,(f5 P).getD 8 default),(58,(f5 P).getD 9 default),(59,(f5 P).getD 10 default),(60,(f5 P).getD 11 default),(61,(f6 P).getD 0 default),(62,(f6 P).getD 1 default),(63,(f6 P).getD 2 default),(64,(f6 P).getD 3 default),(65,(f6 P).getD 4 default),(66,(f6 P).getD 5 default),(67,(f6 P).getD 6 default),(68,(f6 P).getD 7 default),(69,(f6 P).getD 8 default),(70,(f6 P).getD 9 default),(71,(f6 P).getD 10 default),(72,(f6 P).getD 11 default),(73,(f7 P).getD 0 default),(74,(f7 P).getD 1 default),(75,(f7 P).getD 2 default),(76,(f7 P).getD 3 default),(77,(f7 P).getD 4 default),(78,(f7 P).getD 5 default),(79,(f7 P).getD 6 default),(80,(f7 P).getD 7 default),(81,(f7 P).getD 8 default),(82,(f7 P).getD 9 default),(83,(f7 P).getD 10 default),(84,(f7 P).getD 11 default),(90,(f9 P).getD 5 default),(91,(f9 P).getD 6 default),(92,(V4 P).getD 0 default),(98,(V5 P).getD 5 default),(99,(V5 P).getD 6 default),(105,(V6 P).getD 5 default),(106,(V6 P).getD 6 default),(112,(V7 P).getD 5 default),(113,(V7 P).getD 6 default),(119,(V8 P).getD 5 default),(120,(V8 P).getD 6 default),(126,(V9 P).getD 5 default),(127,(V9 P).getD 6 default),(133,(Wa P).getD 5 default),(134,(Wa P).getD 6 default),(140,(Wb P).getD 5 default),(141,(Wb P).getD 6 default),(147,(Wc P).getD 5 default),(148,(Wc P).getD 6 default),(154,(Wd P).getD 5 default),(155,(Wd P).getD 6 default),(159,(We P).getD 3 default),(160,(We P).getD 4 default),(164,(Wf P).getD 3 default),(165,(Wf P).getD 4 default),(169,(Wg P).getD 3 default),(170,(Wg P).getD 4 default),(174,(Wh P).getD 3 default),(175,(Wh P).getD 4 default),(179,(Wi P).getD 3 default),(180,(Wi P).getD 4 default),(186,(Wj P).getD 5 default),(187,(Wj P).getD 6 default),(193,(Wk P).getD 5 default),(194,(Wk P).getD 6 default),(198,(Wl P).getD 3 default),(199,(Wl P).getD 4 default),(205,(Wm P).getD 5 default),(206,(Wm P).getD 6 default),(212,(Wn P).getD 5 default),(213,(Wn P).getD 6 default),(217,(Wo P).getD 3 default),(218,(Wo P).getD 4 default),(224,(Wp P).getD 5 default),(225,(Wp P).getD 6 default),(229,(Wq P).getD 3 default),(230,(Wq P).getD 4 default),(236,(Wr P).getD 5 default),(237,(Wr P).getD 6 default),(241,(Ws P).getD 3 default),(242,(Ws P).getD 4 default),(248,(Wt P).getD 5 default),(249,(Wt P).getD 6 default),(253,(Wu P).getD 3 default),(254,(Wu P).getD 4 default),(260,(Wv P).getD 5 default),(261,(Wv P).getD 6 default),(267,(Ww P).getD 5 default),(268,(Ww P).getD 6 default),(272,(Wx P).getD 3 default),(273,(Wx P).getD 4 default),(277,(Wy P).getD 3 default),(278,(Wy P).getD 4 default),(282,(Wz P).getD 3 default),(283,(Wz P).getD 4 default),(289,(WA P).getD 5 default),(290,(WA P).getD 6 default),(294,(WB P).getD 3 default),(295,(WB P).getD 4 default),(301,(WC P).getD 5 default),(302,(WC P).getD 6 default),(306,(WD P).getD 3 default),(307,(WD P).getD 4 default),(313,(WE P).getD 5 default),(314,(WE P).getD 6 default),(320,(WG P).getD 5 default),(321,(WG P).getD 6 default),(325,(WH P).getD 3 default),(326,(WH P).getD 4 default),(330,(WI P).getD 3 default),(331,(WI P).getD 4 default),(335,(WJ P).getD 3 default),(336,(WJ P).getD 4 default),(342,(WL P).getD 5 default),(343,(WL P).getD 6 default),(347,(WM P).getD 3 default),(348,(WM P).getD 4 default),(352,(WN P).getD 3 default),(353,(WN P).getD 4 default),(359,(WO P).getD 5 default),(360,(WO P).getD 6 default),(366,(WQ P).getD 5 default),(367,(WQ P).getD 6 default),(371,(WR P).getD 3 default),(372,(WR P).getD 4 default),(376,(WS P).getD 3 default),(377,(WS P).getD 4 default),(383,(WT P).getD 5 default),(384,(WT P).getD 6 default),(388,(WU P).getD 3 default),(389,(WU P).getD 4 default),(393,(WV P).getD 3 default),(394,(WV P).getD 4 default),(400,(WW P).getD 5 default),(401,(WW P).getD 6 default),(405,(WX P).getD 3 default),(406,(WX P).getD 4 default),(410,(WY P).getD 3 default),(411,(WY P).getD 4 default),(415,(WZ P).getD 3 default),(416,(WZ P).getD 4 default),(422,(W0 P).getD 5 default),(423,(W0 P).getD 6 default),(429,(W1 P).getD 5 default),(430,(W1 P).getD 6 default),(436,(W2 P).getD 5 default),(437,(W2 P).getD 6 default),(443,(W3 P).getD 5 default),(444,(W3 P).getD 6 default),(448,(W4 P).getD 3 default),(449,(W4 P).getD 4 default),(455,(W5 P).getD 5 default),(456,(W5 P).getD 6 default),(462,(W6 P).getD 5 default),(463,(W6 P).getD 6 default),(469,(W7 P).getD 5 default),(470,(W7 P).getD 6 default),(476,(W8 P).getD 5 default),(477,(W8 P).getD 6 default),(483,(W9 P).getD 5 default),(484,(W9 P).getD 6 default),(490,(Xa P).getD 5 default),(491,(Xa P).getD 6 default),(495,(Xb P).getD 3 default),(496,(Xb P).getD 4 default),(502,(RA P).getD 5 default),(503,(RA P).getD 6 default),(507,(RC P).getD 3 default),(508,(RC P).getD 4 default),(512,(RD P).getD 3 default),(513,(RD P).getD 4 default),(519,(RE P).getD 5 default),(520,(RE P).getD 6 default)]
noncomputable abbrev as:List Addr:=[3,20,21,27,28,29,30,31,32,33,34,35,36,37,38,39,40,41,42,43,44,45,46,47,48,49,50,51,52,53,54,55,56,57,58,59,60,61,62,63,64,65,66,67,68,69,70,71,72,73,74,75,76,77,78,79,80,81,82,83,84,90,91,92,98,99,105,106,112,113,119,120,126,127,133,134,140,141,147,148,154,155,159,160,164,165,169,170,174,175,179,180,186,187,193,194,198,199,205,206,212,213,217,218,224,225,229,230,236,237,241,242,248,249,253,254,260,261,267,268,272,273,277,278,282,283,289,290,294,295,301,302,306,307,313,314,320,321,325,326,330,331,335,336,342,343,347,348,352,353,359,360,366,367,371,372,376,377,383,384,388,389,393,394,400,401,405,406,410,411,415,416,422,423,429,430,436,437,443,444,448,449,455,456,462,463,469,470,476,477,483,484,490,491,495,496,502,503,507,508,512,513,519,520]
noncomputable abbrev Hk:Hook:=kHook Kf as (λ_=>by kernel_rfl)
noncomputable abbrev Xt:Shared→Bool:=fun s=>xlAt q [] s && recOk (RowW.records PySem.Challenge.rw_ringloads_k67_whole_tops_alike.row.toRowW) s
theorem size (w:World):((boot_heap w.params).isNs mainGlobals && (#[]:Array GenState).size == 0,(boot_heap w.params).objs.size,(boot_heap w.params).nsMap mainGlobals "__annotations__")=(true,11,some (.ref 6)):=by kernel_rfl
theorem RN(w:World)(os:OsState):(staticsOk (importedModules pr.main.body) (boot_heap w.params) (H1 w.params) && namesBound pr (H1 w.params) && gensDone ⟨H1 w.params,#[],⟨0,0,0,0⟩,904,os⟩ && laidKept (boot_heap w.params) (H1 w.params))=true:=by kernel_rfl
theorem RO(w:World)(os:OsState):openSeen q loose (importedModules pr.main.body) Xt true ⟨H1 w.params,#[],⟨0,0,0,0⟩,904,os⟩=openGood q loose:=by rw[Fast.te4187177175401517315];kernel_rfl
theorem RP(w:World)(os:OsState):Hk.obs ⟨H1 w.params,#[],⟨0,0,0,0⟩,904,os⟩=Hk.val w:=by kernel_rfl
theorem Qn:opening pr=plainProg pr.main.scope.names:=by kernel_rfl
theorem left:LeftO pr q loose Xt Hk.obs Hk.val 7168:=LeftO.of_pieces (M:=(12+(1+(297+(214+(214+(394+(387+(396+(371+(388+(385+(198+2))))))))))))) (boot_open Qn xp (λs=>by kernel_rfl)) size run y_ (λw=>funext λos=>looks_pair (RN w os) (looks_pair (RO w os) (RP w os)))
end Hd
namespace My
open PySem L2
local macro_rules | `(tactic| walk_at $q:str)=>do
 if q.getString == "o" then Lean.Macro.throwUnsupported
 let ids:=("IV MG IW IE Fs OK Ie LD OM Ig LF Iq O2 LY Mj MH IX O8 Re Ml O9 Rf Mo Rg yM OH OI Ic EE Mg O7 ID Mh Fp Di IG QF Mm aZ UF ba ay UE ak jt wC bA bF rG ck aJ bI a8 ar l8 aH Uy N6 ma KD lg vg LH QB UC vV Q4 EG EJ bp fY D9 EW LU HI U0 Ah fw IF Mi Fq List.all_cons List.all_nil Bool.and_true Bool.true_and Rc Af Q6 LW yy iu Ij oU wa QD Mf Ms KM Pi IS Mz Md B7 AO AQ Dr aR FT FU Ji ir bO yN dF bD oX eA C8 D8 LJ EN OQ p6 Il vW Jc Jd Je Jf Jg MI MJ MK ML Pu Pv MN MO Rm Rn F4 F5 MQ O5 Iu KQ Ck F7 FQ Cm vp yW Pw Jh List.length_map FR FV FW FY Jj Ds FZ AR AS AU yX AV wq Jk MM C9 ET Im EU yA mf Cb Jl MR Jm Jn Jo Jp Dt yY yZ F6 MS AB yI De beq_self_eq_true String.reduceBEq String.reduceEq reduceCtorEq Ag Da bK cS fu bE Dg Fh vk o4 Fg O4 List.getElem?_cons_zero List.getElem?_cons_succ List.set_cons_zero List.set_cons_succ List.cons_append List.nil_append List.replicate_succ List.replicate_zero List.map_cons List.map_nil List.drop_succ_cons List.drop_zero Option.getD_some true_and decide_eq_true_eq Bool.not_eq_true' decide_eq_false_iff_not ite_true ite_false Bool.false_eq_true Bool.true_eq_false if_true if_false List.length_cons List.length_nil Nat.reduceAdd Nat.reduceSub yR AM Po Pp Rk SN SO SQ Option.some.injEq exists_eq_left' exists_eq_left".splitOn " ").toArray.map fun s=>Lean.mkIdent ((s.splitOn ".").foldl Lean.Name.mkStr Lean.Name.anonymous)
 if q.getString=="v" then `(tactic| try simp only [$[$ids:ident],*]) else if q.getString=="w" then `(tactic| ((try dsimp only [$[$ids:ident],*]); try simp only [$[$ids:ident],*])) else `(tactic|(unfold $(Lean.mkIdent (Lean.Name.mkSimple q.getString)):ident;walk_at"w"))
local macro_rules | `(tactic| walk_at "o")=>`(tactic| first | exact Or.inl rfl | exact Or.inr rfl)
theorem v6{a b:Prop}(h:a∨b:=by walk_at "o"):a∨b:=h
noncomputable section
abbrev dS:=Hd.top 1
abbrev pA:List Str:=["one","other","rest"]
abbrev gF:=Hd.top 2
abbrev uL:List Str:=["one","other"]
abbrev pB:=Hd.top 9
abbrev DP:List Str:=["thing"]
abbrev w8:=Hd.top 12
abbrev Kc:List Str:=["top","bottom","shared"]
abbrev Bb:=Hd.top 13
abbrev NS:List Str:=["top","bottom"]
abbrev G6:=Hd.top 14
abbrev Qo:List Str:=["one","other"]
abbrev Bc:=Hd.top 15
abbrev NT:List Str:=["one","other"]
abbrev Bd:=Hd.top 16
abbrev NU:List Str:=["one","other"]
abbrev G7:=Hd.top 17
abbrev Qp:List Str:=["one","other"]
abbrev Be:=Hd.top 18
abbrev NV:List Str:=["one","other"]
abbrev w9:=Hd.top 19
abbrev Kd:List Str:=["one","other"]
abbrev xa:=Hd.top 20
abbrev Ke:List Str:=["some","whole","one"]
abbrev gk:=Hd.top 24
abbrev qd:List Str:=["asks","numbers"]
abbrev dn:=Hd.top 22
abbrev iH:List Str:=["ring","many","places","rooms"]
abbrev dz:=Hd.top 23
abbrev jH:List Str:=["ring","places","rooms"]
abbrev dA:=Hd.top 25
abbrev iI:List Str:=["ring","size","room","asks"]
abbrev gm:=Hd.top 26
abbrev qe:List Str:=["ring","some","asks"]
abbrev ml:=Hd.top 28
abbrev Bf:List Str:=["cut","place"]
abbrev gG:=Hd.top 29
abbrev uM:List Str:=["cut","one","other"]
abbrev rk:=Hd.top 30
abbrev CV:List Str:=["ring","cut"]
abbrev pC:=Hd.top 31
abbrev DQ:List Str:=["ring","cut"]
abbrev pD:=Hd.top 32
abbrev DS:List Str:=["ring","cut"]
abbrev kT:=Hd.top 33
abbrev vD:List Str:=["ring","cuts","g"]
abbrev gH:=Hd.top 34
abbrev uN:List Str:=["ring","found","cut","shown"]
abbrev fF:=Hd.top 37
abbrev sM:List Str:=["some","bottom","one"]
abbrev kU:=Hd.top 38
abbrev vE:List Str:=["some","units"]
abbrev jI:=Hd.top 36
abbrev sN:List Str:=["ring","top","sizes","most","units"]
abbrev mn:=Hd.top 42
abbrev Bg:List Str:=["way"]
abbrev jJ:=Hd.top 43
abbrev sO:List Str:=["ring","k","way","places","one","other"]
abbrev sP:=Hd.top 44
abbrev G8:List Str:=["ring","k","way","tie","places","one","other","lies_on"]
abbrev mq:=Hd.top 46
abbrev Bh:List Str:=["ring","sending","k","tie"]
abbrev nO:=Hd.top 47
abbrev zv:List Str:=["ring","sending","tie"]
abbrev kW:=Hd.top 48
abbrev vF:List Str:=["ring","sending"]
abbrev gn:=Hd.top 49
abbrev qf:List Str:=["ring","sending"]
abbrev xb:=Hd.top 50
abbrev Kg:List Str:=["ring","sending","strains","top","tie","strain"]
abbrev nP:=Hd.top 52
abbrev zw:List Str:=["ring","ways"]
abbrev xc:=Hd.top 53
abbrev Kh:List Str:=["ring","ways"]
abbrev iJ:=Hd.top 55
abbrev sQ:List Str:=["elder","ways","pairs"]
abbrev iK:=Hd.top 56
abbrev xf:List Str:=["wish","load","bound"]
abbrev gI:=Hd.top 57
abbrev uO:List Str:=["wish","ways"]
abbrev eN:=Hd.top 66
abbrev qJ:List Str:=["wish","bounds","fixed","loads","cut","bound"]
abbrev kX:=Hd.top 65
abbrev vG:List Str:=["ring","wish","sizes","bounds","fixed","loads","k","reason","trees","way","fuller","found"]
abbrev fG:=Hd.top 64
abbrev mr:List Str:=["ring","scale","most","bounds","ask","size"]
abbrev kY:=Hd.top 63
abbrev vH:List Str:=["ring","wish","scale"]
abbrev dB:=Hd.top 68
abbrev jK:List Str:=["ring","top"]
abbrev iL:=Hd.top 69
abbrev sR:List Str:=["ring","ways","top","found"]
abbrev d8:=Hd.top 73
abbrev lz:List Str:=["ring","k","waiting","cut","asks"]
abbrev sS:=Hd.top 72
abbrev G9:List Str:=["ring","k","waiting","free","ties","twice","g","h"]
abbrev iM:=Hd.top 74
abbrev sT:List Str:=["ring","k","free","part","rest"]
abbrev dU:=Hd.top 71
abbrev pE:List Str:=["ring","top","scale","waiting","free","sending","k","size","part"]
abbrev mv:=Hd.top 76
abbrev Bi:List Str:=["ring","greatest"]
abbrev iN:=Hd.top 80
abbrev sU:List Str:=["ring","tie","rooms","numbers"]
abbrev gJ:=Hd.top 82
abbrev uP:List Str:=["rooms","place","joined"]
abbrev dC:=Hd.top 81
abbrev iO:List Str:=["ring","place","numbers"]
abbrev iP:=Hd.top 84
abbrev sV:List Str:=["ring","k","ends"]
abbrev gq:=Hd.top 85
abbrev qg:List Str:=["ring"]
abbrev d9:=Hd.top 86
abbrev lA:List Str:=["ring","asks","joined"]
abbrev mw:=Hd.top 100
abbrev Bj:List Str:=["_law_ring_here"]
abbrev jL:=Hd.top 98
abbrev zx:List Str:=["_law_one","_law_other"]
abbrev mx:=Hd.top 89
abbrev Bk:List Str:=["_law_state","_law_many","_law_digit","_law_drawn","_law_turn"]
abbrev cH:=Hd.top 101
abbrev eE:List Str:=["_law_ring_here","_law_state","_law_places","_law_some","_law_rings_here","_law_ends_here","_law_free"]
abbrev pF:=Hd.top 90
abbrev DT:List Str:=["_law_top","_law_bottom","_law_one","_law_share"]
abbrev iQ:=Hd.top 91
abbrev xg:List Str:=["_law_state","_law_least","_law_kind","_law_bottom","_law_top"]
abbrev my:=Hd.top 97
abbrev Bl:List Str:=["_law_one","_law_other"]
abbrev jM:=Hd.top 96
abbrev zy:List Str:=["_law_one","_law_other"]
abbrev iR:=Hd.top 99
abbrev sW:List Str:=["_law_found","_law_due"]
abbrev iS:=Hd.top 102
abbrev sX:List Str:=["_law_ring_here","_law_state","_law_tops_here","_law_one","_law_size","_law_room","_law_share","_law_wide","_law_together"]
abbrev jN:=Hd.top 88
abbrev zz:List Str:=["_law_script","_law_k","_law_cell"]
abbrev eF:=Hd.top 92
abbrev jO:List Str:=["_law_state","_law_many","_law_letters","_law_base","_law_at","_law_turn"]
abbrev jP:=Hd.top 93
abbrev zB:List Str:=["_law_state","_law_ties","_law_kind","_law_alike","_law_one","_law_rooms_here","_law_more"]
abbrev mz:=Hd.top 94
abbrev Bm:List Str:=["_law_state","_law_shape","_law_places","_law_k","_law_one","_law_other"]
abbrev mB:=Hd.top 95
abbrev Bn:List Str:=["_law_script","_law_at","_law_most","_law_count","_law_state","_law_places","_law_many","_law_kinds","_law_shape","_law_names_here","_law_rooms_here","_law_asks","_law_k","_law_one","_law_other"]
abbrev Ki:=Hd.top 103
abbrev RQ:List Str:=["_law_script","_law_at"]
end
def cA:FS:=λls kz=>∃a b:Int,ls=[.d (.int a),.d (.int b)]/\kz (.d (.int (Int.gcd a b))) ls
def mC:W Fl:=(aZ (bA 2 (ay eA (ak 0) (ak 1)))
  (aZ (bA 0 (ak 1))
  (bA 1 (ak 2))))
def dW:W Fl:=(aZ (yv (ba (ay Il (ak 1) (wC (.int 0)))) mC)
  (bF (a8 C9 (ar (ak 0) aH))))
abbrev aaF(n k:Nat)(f:FS)(m:W Fl):Prop:=∀ls kz,ls.length=n->f ls kz->m (ls++List.replicate k .un) (aU ls kz)
theorem mD:aaF 2 1 cA dW:=by
 rintro ls kz - ⟨a,b,rfl,h⟩;walk_at"dW";refine⟨λn ρ=>∃x y r,ρ=[.d (.int x),.d (.int y),r]/\Int.gcd x y=Int.gcd a b/\n=y.natAbs,⟨_,a,b,_,rfl,rfl,rfl⟩,?_⟩;rintro n ρ ⟨x,y,r,rfl,hg,rfl⟩;walk_at"w";split
 .
  rename_i hy;have hy:y≠0:=by simpa using hy
  exact⟨hy,_,lr x hy,y,x.fmod y,_,rfl,by rw[B3];exact hg,rfl⟩
 .
  rename_i hy;have hy:y=0:=by simpa using hy
  subst hy;refine⟨_,ao (ao aQ),?_⟩
  have e:(if x<0 then -x else x)=((Int.gcd a b:Nat):Int):=by rw[<- hg,Int.gcd_zero_right];split<;>omega
  rw[e];exact h
def fH:FS:=λls kz=>∃a b:Nat,ls=[.d (.int a),.d (.int b)]/\0<b/\a<2^4400/\b<2^4400/\kz (.d (.int (Nat.lcm a b))) ls
def gK:W Fl:=(bF (ay bD (ay oX (ak 0) (aJ cA (ar (ak 0) (ar (ak 1) aH)))) (ak 1)))
theorem qK:aaF 2 0 fH gK:=by
 rintro ls kz - ⟨a,b,rfl,hb,ha,hb2,h⟩;walk_at"gK";refine⟨_,_,rfl,?_⟩;walk_at"w";have g0:0<Int.gcd (a:Int) (b:Int):=Nat.gcd_pos_of_pos_right _ hb;have g1:Int.gcd (a:Int) (b:Int)<=b:=Nat.gcd_le_right _ hb;have e1:((a:Int).fdiv (Int.gcd (a:Int) (b:Int):Int)).natAbs<=a:=by rw[Zl _ xL];show(((a:Int) / ((Nat.gcd a b:Nat):Int))).natAbs<=a;rw[<- Int.natCast_ediv,Yh];exact Nat.div_le_self _ _
 refine⟨xL,?_,?_,?_,?_⟩
 . rw[Yh];exact Yc g1 (XX hb2 (X9 xp xp))
 . exact ny (Yc e1 ha) xp
 . exact ny (n:=4400) (by rw[Yh];exact hb2) xp
 . rw[M9 hb];exact⟨_,ao (ao aQ),h⟩
def iT:FS:=λls kz=>(∃i:Int,ls=[.d (.int i)]/\kz (.d (.bl true)) ls)∨∃d:D,ls=[.d d]/\(∀i,d≠.int i)/\kz (.d (.bl false)) ls
def kZ:W Fl:=(bF (vV (UE (mf "int") (ak 0)) (EG (ba (UE (mf "bool") (ak 0))))))
theorem zC:aaF 1 0 iT kZ:=by
 rintro ls kz-(⟨i,rfl,h⟩|⟨d,rfl,hd,h⟩)
 . walk_at"kZ";exact⟨_,ao aQ,h⟩
 .
  unfold kZ
  cases d with
  |int i=>exact absurd rfl (hd i)
  |_=>walk_at"w"; exact⟨_,ao aQ,h⟩
def fJ:FS:=λls kz=>∃t b:Int,ls=[.d (.int t),.d (.int b)]/\b≠0/\b.natAbs<2^9000/\kz (.d (UV (Rat.divInt t b))) ls
def xh:W Fl:=(aZ (bA 2 (bp (aJ cA (ar (ak 0) (ar (ak 1) aH)))))
  (aZ (UF (ba (ay D8 (ak 1) (wC (.int 0)))) (bA 2 (UE vW (ak 2))) ck)
  (bF (lg (ar (ay oX (ak 0) (ak 2)) (ar (ay oX (ak 1) (ak 2)) aH))))))
theorem DU:aaF 2 1 fJ xh:=by
 rintro ls kz - ⟨t,b,rfl,hb,hz,h⟩;walk_at"xh";refine⟨t,b,rfl,?_⟩;walk_at"w";have h1:=B4 (t:=t) hb;have h2:=Yc (B5 (t:=t) hb) hz
 have Tw:∀{g:Int}{ρ:Ev},g=cT t b->g≠0/\g.natAbs<2^9000/\g≠0/\g.natAbs<2^9000/\2<=sizeLine/\aU [.d (.int t),.d (.int b)] kz (.rt (.d (.tup [.int (t.fdiv g),.int (b.fdiv g)]))) ρ:=λ{g ρ} e=>by
  have e1:g≠0:=by rw[e];exact h1
  have e2:g.natAbs<2^9000:=by rw[e];exact h2
  refine⟨e1,e2,e1,e2,xp,_,ao (ao aQ),?_⟩;rw[Cj hb e];exact h
 split
 . rename_i hlt;exact Tw (by simp[cT,hlt])
 . rename_i hlt;exact Tw (by simp[cT,hlt])
def xi:FS:=λls kz=>∃t b:Int,ls=[.d (.int t),.d (.int b)]/\b≠0/\b.natAbs<2^9000/\kz (.d (UV (Rat.divInt t b))) ls
def Bo:W Fl:=(aZ (UF (UC (LH (ba (aJ iT (ar (ak 0) aH)))) (UC (LH (ba (aJ iT (ar (ak 1) aH)))) (ba (ay p6 (ak 1) (wC (.int 0)))))) vf ck)
  (bF (aJ fJ (ar (ak 0) (ar (ak 1) aH)))))
theorem Ha:aaF 2 0 xi Bo:=by rintro ls kz - ⟨t,b,rfl,hb,hb2,h⟩;walk_at"Bo";refine .inl ⟨_,rfl,?_⟩;walk_at"w";refine .inl ⟨_,rfl,?_⟩;walk_at"w";rw[if_neg hb];refine⟨_,_,rfl,hb,hb2,?_⟩;exact⟨_,ao (ao aQ),h⟩
def sY:FS:=λls kz=>∃p q:Rat,ls=[.d (UV p),.d (UV q)]/\RB 400000 p/\RB 400000 q/\p.den*q.den<2^9000/\kz (.d (UV (p+q))) ls
def Hb:W Fl:=(bF (aJ fJ (ar (bp (ay bO (ay bD (ay aI (ak 0) (wC (.int 0))) (ay aI (ak 1) (wC (.int 1)))) (ay bD (ay aI (ak 1) (wC (.int 0))) (ay aI (ak 0) (wC (.int 1)))))) (ar (bp (ay bD (ay aI (ak 0) (wC (.int 1))) (ay aI (ak 1) (wC (.int 1))))) aH))))
theorem Kj:aaF 2 0 sY Hb:=by rintro ls kz - ⟨p,q,rfl,hp,hq,hz,h⟩;unfold Hb;simp only[UV];walk_at"w";refine⟨hp.bn xp,hq.bd xp,hq.bn xp,hp.bd xp,hp.bd xp,hq.bd xp,_,_,rfl,sf p q,by rw[nA];exact hz,_,ao (ao aQ),?_⟩;rw[B6];exact h
theorem Kk{p q:Rat}{kz:L->List L->Prop}(hp:RB 4400 p)(hq:RB 4400 q)(h:kz (.d (UV (p+q))) [.d (UV p),.d (UV q)]):sY [.d (UV p),.d (UV q)] kz :=
 ⟨p,q,rfl,hp.mono xp,hq.mono xp,XX (bC hp.2 hq.2) (X9 xp xp),h⟩
def rm:FS:=λls kz=>∃p q:Rat,ls=[.d (UV p),.d (UV q)]/\RB 400000 p/\RB 400000 q/\p.den*q.den<2^9000/\kz (.d (UV (p-q))) ls
def Bp:W Fl:=(bF (aJ fJ (ar (ay dF (ay bD (ay aI (ak 0) (wC (.int 0))) (ay aI (ak 1) (wC (.int 1)))) (ay bD (ay aI (ak 1) (wC (.int 0))) (ay aI (ak 0) (wC (.int 1))))) (ar (bp (ay bD (ay aI (ak 0) (wC (.int 1))) (ay aI (ak 1) (wC (.int 1))))) aH))))
theorem Hc:aaF 2 0 rm Bp:=by rintro ls kz - ⟨p,q,rfl,hp,hq,hz,h⟩;unfold Bp;simp only[UV];walk_at"w";refine⟨hp.bn xp,hq.bd xp,hq.bn xp,hp.bd xp,hp.bd xp,hq.bd xp,_,_,rfl,sf p q,by rw[nA];exact hz,_,ao (ao aQ),?_⟩;rw[O3];exact h
theorem He{p q:Rat}{kz:L->List L->Prop}(hp:RB 4400 p)(hq:RB 4400 q)(h:kz (.d (UV (p-q))) [.d (UV p),.d (UV q)]):rm [.d (UV p),.d (UV q)] kz :=
 ⟨p,q,rfl,hp.mono xp,hq.mono xp,XX (bC hp.2 hq.2) (X9 xp xp),h⟩
def nQ:FS:=λls kz=>∃p q:Rat,ls=[.d (UV p),.d (UV q)]/\RB 4400 p/\RB 4400 q/\kz (.d (UV (p*q))) ls
def Bq:W Fl:=(bF (aJ fJ (ar (bp (ay bD (ay aI (ak 0) (wC (.int 0))) (ay aI (ak 1) (wC (.int 0))))) (ar (bp (ay bD (ay aI (ak 0) (wC (.int 1))) (ay aI (ak 1) (wC (.int 1))))) aH))))
theorem Hf:aaF 2 0 nQ Bq:=by
 rintro ls kz - ⟨p,q,rfl,hp,hq,h⟩;walk_at"Bq";refine⟨hp.bn xp,hq.bn xp,hp.bd xp,hq.bd xp,_,_,rfl,sf p q,?_,_,ao (ao aQ),?_⟩
 . rw[nA];exact XX (bC hp.2 hq.2) (X9 xp xp)
 . rw[FM];exact h
def xj:FS:=λls kz=>∃p q:Rat,ls=[.d (UV p),.d (UV q)]/\RB 4400 p/\RB 4400 q/\q≠0/\kz (.d (UV (p / q))) ls
def Hg:W Fl:=(aZ (UF (ba (ay p6 (ay aI (ak 1) (wC (.int 0))) (wC (.int 0)))) vf ck)
  (bF (aJ fJ (ar (bp (ay bD (ay aI (ak 0) (wC (.int 0))) (ay aI (ak 1) (wC (.int 1))))) (ar (bp (ay bD (ay aI (ak 0) (wC (.int 1))) (ay aI (ak 1) (wC (.int 0))))) aH)))))
theorem Kl:aaF 2 0 xj Hg:=by
 rintro ls kz - ⟨p,q,rfl,hp,hq,h0,h⟩;walk_at"Hg";rw[if_neg (Ci h0)];walk_at"w";refine⟨hp.bn xp,hq.bd xp,hp.bd xp,hq.bn xp,_,_,rfl,aab (mi p) (Ci h0),?_,_,ao (ao aQ),?_⟩
 . rw[Zj,Yh];exact XX (bC hp.2 hq.1) (X9 xp xp)
 . rw[FN p h0];exact h
def nR:FS:=λls kz=>∃p q:Rat,ls=[.d (UV p),.d (UV q)]/\RB 400000 p/\RB 400000 q/\kz (.d (.bl (decide (p<q)))) ls
def Br:W Fl:=(bF (ay D8 (ay bD (ay aI (ak 0) (wC (.int 0))) (ay aI (ak 1) (wC (.int 1)))) (ay bD (ay aI (ak 1) (wC (.int 0))) (ay aI (ak 0) (wC (.int 1))))))
theorem Hh:aaF 2 0 nR Br:=by rintro ls kz - ⟨p,q,rfl,hp,hq,h⟩;walk_at"Br";refine⟨hp.bn xp,hq.bd xp,hq.bn xp,hp.bd xp,_,ao (ao aQ),?_⟩;rw[Pq];exact h
def td:FS:=λls kz=>∃p q:Rat,ls=[.d (UV p),.d (UV q)]/\RB 400000 p/\RB 400000 q/\kz (.d (UV (if q<p then q else p))) ls
def xk:W Fl:=(bF (EJ (ba (aJ nR (ar (ak 1) (ar (ak 0) aH)))) (ak 1) (ak 0)))
theorem DV:aaF 2 0 td xk:=by
 rintro ls kz - ⟨p,q,rfl,hp,hq,h⟩;walk_at"xk";refine⟨q,p,rfl,hq,hp,?_⟩;walk_at"w";split
 . rename_i hl;rw[if_pos hl]at h;exact⟨_,ao (ao aQ),h⟩
 . rename_i hl;rw[if_neg hl]at h;exact⟨_,ao (ao aQ),h⟩
def jQ:FS:=λls kz=>∃(qs:List Rat)(x:D),ls=[.d x]/\(x=.lst (qs.map UV)∨x=.tup (qs.map UV))/\qs.length<=63/\(∀q∈qs,RB 4400 q)/\Pz qs/\kz (.d (UV (df qs))) ls
def hG:W Fl:=(bA 1 (aJ sY (ar (ak 1) (ar (ak 2) aH))))
def xl:W Fl:=(aZ (bA 1 (wC (.tup [(.int 0),(.int 1)])))
  (aZ (yy (oU (ak 0)) (aR 2) hG)
  (bF (jt 1))))
theorem xm{x:D}{kz:Fl->Ev->Prop}:∀(qs:List Rat)(acc:Rat)(n:Nat)(r:L),qs.length<=63->n+4401*qs.length<=400000->RB n acc->(∀q∈qs,RB 4400 q)->acc.den*yV qs<2^9000->(∀r',kz .nx [.d x,.d (UV (qs.foldl (·+·) acc)),r']) ->
  eX (aR 2) hG (qs.map UV) [.d x,.d (UV acc),r] kz
 |[],acc,n,r,_,_,_,_,_,h=>h r
 | q::qs,acc,n,r,hl,hn,ha,hq,hd,h=>by have hd':acc.den*(q.den*yV qs)<2^9000:=hd;have hq1:=hq q XU;have hlc:(q::qs).length=qs.length+1:=rfl;have dpos:0<yV qs:=nB qs;have hz:acc.den*q.den<2^9000:=Yc (by rw[<- Nat.mul_assoc];exact Nat.le_mul_of_pos_right _ dpos) hd';show eX _ _ (UV q::qs.map UV) _ _;unfold eX hG;walk_at"w";refine⟨acc,q,rfl,ha.mono xL,hq1.mono xp,hz,?_⟩;refine xm qs (acc+q) (n+4400+1) _ xL xL (ha.add hq1) (λz hz=>hq z (p3 _ hz)) (Yc ?_ hd') h;rw[<- Nat.mul_assoc];exact Nat.mul_le_mul_right _ (Df acc q)
theorem tj{x:D}{E:Nat}(e0:0<E)(e1:E<2^4400){kz:Fl->Ev->Prop}:∀(qs:List Rat)(acc:Rat)(n:Nat)(r:L),qs.length<=63->n+4401*qs.length<=400000->RB n acc->(∀q∈qs,RB 4400 q)->acc.den∣E->(∀q∈qs,q.den∣E)->(∀r',kz .nx [.d x,.d (UV (qs.foldl (·+·) acc)),r']) ->
  eX (aR 2) hG (qs.map UV) [.d x,.d (UV acc),r] kz
 |[],acc,n,r,_,_,_,_,_,_,h=>h r
 | q::qs,acc,n,r,hl,hn,ha,hq,hd,hds,h=>by have hq1:=hq q XU;have hq2:=hds q XU;have hlc:(q::qs).length=qs.length+1:=rfl;have hz:acc.den*q.den<2^9000:=XX (bC (m:=4400) (n:=4400) (Yc (aam e0 hd) e1) (Yc (aam e0 hq2) e1)) (X9 xp xp);show eX _ _ (UV q::qs.map UV) _ _;unfold eX hG;walk_at"w";refine⟨acc,q,rfl,ha.mono xL,hq1.mono xp,hz,?_⟩;exact tj e0 e1 qs (acc+q) (n+4400+1) _ xL xL (ha.add hq1) (λz hz=>hq z (p3 _ hz)) (Gj e0 hd hq2) (λz hz=>hds z (p3 _ hz)) h
theorem DW:aaF 1 2 jQ xl:=by
 rintro ls kz - ⟨qs,x,rfl,hx,hl,hq,hd,h⟩;unfold xl;have Tw:∀r',aU [.d x] kz (.rt (.d (UV (df qs)))) [.d x,.d (UV (df qs)),r']:=λr'=>⟨_,ao aQ,h⟩;rcases hx with rfl|rfl
 .
  walk_at"w";rcases hd with hd|⟨E,e0,e1,hd⟩
  . exact xm qs 0 1 .un hl xL ⟨xp,xp⟩ hq (by show 1*_<_;rw[Nat.one_mul];exact hd) λr'=>Tw r'
  . exact tj e0 e1 qs 0 1 .un hl xL ⟨xp,xp⟩ hq (Nat.one_dvd _) hd λr'=>Tw r'
 .
  walk_at"w";rcases hd with hd|⟨E,e0,e1,hd⟩
  . exact xm qs 0 1 .un hl xL ⟨xp,xp⟩ hq (by show 1*_<_;rw[Nat.one_mul];exact hd) λr'=>Tw r'
  . exact tj e0 e1 qs 0 1 .un hl xL ⟨xp,xp⟩ hq (Nat.one_dvd _) hd λr'=>Tw r'
noncomputable def Sl(f:Nat->Nat)(a:Vo):Vo:=⟨a.nm,f a.one,f a.other,a.size⟩
def cL:FS:=λls kz=>∃(as:List Vo)(n:Nat)(f:Nat->Nat),ls=[.d (.lst (as.map d6)),.d (.lst ((List.range n).map λi=>D.int (f i:Nat)))]/\as.length<=20/\(∀a∈as,a.one<n/\a.other<n)/\∀b,kz (.own b ((as.map (Sl f)).map d6)) ls
def lB:W L:=(lg (ar (ay aI (ak 0) (wC (.int 0))) (ar (ay aI (ak 1) (ay aI (ak 0) (wC (.int 1)))) (ar (ay aI (ak 1) (ay aI (ak 0) (wC (.int 2)))) (ar (ay aI (ak 0) (wC (.int 3))) aH)))))
def jR:W Fl:=(bF (bK 1 [1] (oU (ak 0)) (aR 0) bW lB))
theorem La{n i:Nat}{f:Nat->Nat}(h:i<n):Ud ((List.range n).map λi=>D.int (f i:Nat)) (i:Int)=some (.int (f i:Nat)):=by rw[cf (by simpa using h),YV]
theorem uQ:aaF 2 0 cL jR:=by
 rintro ls kz - ⟨as,n,f,rfl,hl,ha,h⟩;walk_at"jR";refine⟨cz xL,bc (h:=λa=>d6 (Sl f a)) as [] _ (λa hm Q hq=>?_) λl' b=>?_⟩
 . unfold lB;obtain⟨h1,h2⟩:=ha a hm;walk_at"w";refine⟨_,La h1,_,La h2,?_⟩;walk_at"w";exact⟨xp,hq⟩
 . rw[Yk];have h:=h b;rw[Yd]at h;exact⟨_,ao (ao aQ),h⟩
def gL:FS:=λls kz=>∃(R:aD)(m:Nat),ls=[.d (aX R),.d (.int (m:Int))]/\NA R/\m<R.n/\∀a b,kz (.bx none [.own a ((bQ R m).rooms.map UV),.own b ((bQ R m).asks.map d6)]) ls
def jS:W L:=(ay eA (ay bO (ak 0) (ak 1)) (ak 2))
def jT:W L:=(ay aI (ay aI (ak 1) (wC (.int 0))) (ay eA (ay dF (ak 0) (ak 2)) (ak 3)))
def iU:W Fl:=(aZ (bA 2 (bp (a8 cn (ar (ay aI (ak 0) (wC (.int 0))) aH))))
  (aZ (bA 3 (bK 1 [0,1,2] (iu (ak 2)) (aR 0) bW jT))
  (bF (yM (ar (jt 3) (ar (aJ cL (ar (ay aI (ak 0) (wC (.int 1))) (ar (bp (bK 1 [1,2] (iu (ak 2)) (aR 0) bW jS)) aH))) aH))))))
theorem Km{n t m:Nat}(hn:0<n)(hm:m<n):((t:Int)-(m:Int)).fmod (n:Int)=(((t+(n-m)) % n:Nat):Int):=by rw[Yl _ xL];rw[show(t:Int)-(m:Int)=((t+(n-m):Nat):Int)+(n:Int)*(-1) by omega,Int.add_mul_emod_self_left];exact(Int.natCast_emod _ _).symm
theorem wD{R:aD}{k:Nat}(h:k<R.n):Ud (R.rooms.map UV) (k:Int)=some (UV (R.rooms.getD k 0)):=by rw[cf h,k4,gV h];rfl
theorem tq:aaF 2 2 gL iU:=by
 rintro ls kz - ⟨R,m,rfl,hR,hm,h⟩;have hlo:=hR.lo;have hhi:=hR.hi;walk_at"iU";rw[Yx,cg];refine⟨⟨xL,xL⟩,by simp only[tv,X6];exact cz xL,bc (h:=λt=>UV (R.rooms.getD ((t+(R.n-m)) % R.n) 0)) (List.range R.n) [] _ (λt ht Q hq=>?_) λl1 a1=>?_⟩
 . walk_at"jT";refine⟨xL,?_⟩;rw[Km xL hm];exact⟨_,wD (YW _ xL),hq⟩
 walk_at"w";rw[Yx,cg];refine⟨⟨xL,xL⟩,by simp only[tv,X6];exact cz xL,bc (h:=λp=>D.int (((p+m) % R.n:Nat):Int)) (List.range R.n) [] _ (λt ht Q hq=>?_) λl2 a2=>?_⟩
 . walk_at"jS";refine⟨xL,?_⟩;rw[show(t:Int)+(m:Int)=((t+m:Nat):Int) by omega,Yl _ xL,<- Int.natCast_emod];exact hq
 rw[Yk];refine⟨R.asks,R.n,λp=>(p+m) % R.n,rfl,hR.few,hR.one,λb=>⟨xp,_,ao (ao aQ),?_⟩⟩;have h:=h a1 b;unfold bQ at h;simp only[Yd]at h ⊢;exact h
def eO:FS:=λls kz=>∃(R:aD),ls=[.d (aX R)]/\NA R/\∀a b,kz (.bx none [.own a ((lj R).rooms.map UV),.own b ((lj R).asks.map d6)]) ls
def hJ:W L:=(ay dF (ay dF (ak 1) (wC (.int 1))) (ak 0))
def fK:W Fl:=(aZ (bA 1 (bp (a8 cn (ar (ay aI (ak 0) (wC (.int 0))) aH))))
  (aZ (bA 2 (ay bO (ME (Ag (ay aI (ak 0) (wC (.int 0))) none (some (UE vW (wC (.int 1)))))) (Ag (ay aI (ak 0) (wC (.int 0))) (some (UE vW (wC (.int 1)))) none)))
  (bF (yM (ar (jt 2) (ar (aJ cL (ar (ay aI (ak 0) (wC (.int 1))) (ar (bp (bK 1 [1] (iu (ak 1)) (aR 0) bW hJ)) aH))) aH))))))
theorem Hi{R:aD}(h:2<=R.n):(R.rooms.take (R.n-1)).reverse++R.rooms.drop (R.n-1)=(lj R).rooms:=by
 have hl:R.rooms.length=R.n:=rfl;refine(nK (by simp;omega) λt ht=>?_).symm;rw[J2 h ht,k4,k4]
 congr 1
 split
 .
  rw[Ym (by simp;omega),List.getElem?_reverse (by simp;omega)];simp only[YK];rw[List.getElem?_take,if_pos (by omega)]
  congr 1
  omega
 .
  rw[Yg (by simp;omega),Z7]
  congr 1
  simp;omega
theorem pG:aaF 1 2 eO fK:=by
 rintro ls kz - ⟨R,rfl,hR,h⟩;have hlo:=hR.lo;have hhi:=hR.hi;have hl:R.rooms.length=R.n:=rfl;walk_at"fK";walk_at"ME";have e1:rM (R.rooms.map UV) none (some (-1))=(R.rooms.take (R.n-1)).map UV:=by rw[Nm (by simp;omega),tv,List.map_take];rfl
 have e2:rM (R.rooms.map UV) (some (-1)) none=(R.rooms.drop (R.n-1)).map UV:=by rw[JW (by simp;omega),tv,List.map_drop];rfl
 rw[e1,e2,<- List.map_reverse,<- Yq,Hi hlo];refine λ_ _ _=>⟨?_,λc=>?_⟩
 . simp only[tv,aan,YK,YS];exact cz xL
 walk_at"w";rw[Yx,cg];refine⟨⟨xL,xL⟩,by simp only[tv,X6];exact cz xL,bc (h:=λp=>D.int ((R.n-1-p:Nat):Int)) (List.range R.n) [] _ (λt ht Q hq=>?_) λl2 a2=>?_⟩
 . have ht:=Yb.mp ht;walk_at"hJ";rw[show(R.n:Int)-1-(t:Int)=((R.n-1-t:Nat):Int) by omega];exact hq
 rw[Yk];refine⟨R.asks,R.n,λp=>R.n-1-p,rfl,hR.few,hR.one,λb=>⟨xp,_,ao aQ,?_⟩⟩;exact h c b
def gM:FS:=λls kz=>∃(R:aD)(p q:Rat),ls=[.d (aX R),.d (UV p),.d (UV q)]/\VC 1000 R/\RB 1000 p/\RB 1000 q/\∀a b,kz (.bx none [.own a ((VB R p q).rooms.map UV),.own b ((VB R p q).asks.map d6)]) ls
def jU:W L:=(aJ nQ (ar (ak 0) (ar (ak 1) aH)))
def jV:W L:=(ay yN (Ag (ak 0) none (some (wC (.int 3)))) (lg (ar (bp (aJ nQ (ar (ay aI (ak 0) (wC (.int 3))) (ar (ak 1) aH)))) aH)))
def iV:W Fl:=(aZ (bA 3 (bK 1 [1] (oU (ay aI (ak 0) (wC (.int 1)))) (aR 0) bW jV))
  (bF (yM (ar (bK 1 [2] (oU (ay aI (ak 0) (wC (.int 0)))) (aR 0) bW jU) (ar (jt 3) aH)))))
theorem tw:aaF 3 1 gM iV:=by
 rintro ls kz - ⟨R,p,q,rfl,hB,hp,hq,h⟩;obtain⟨b1,b2,b3,b4,b5⟩:=hB;walk_at"iV";refine⟨X0 b2 xp,?_⟩;refine bc (enc:=d6) (h:=λa=>d6 (GB p a)) R.asks _ _ (λa ha Q hQ=>?_) λl b=>?_
 . unfold jV;simp only[d6];walk_at"w";refine⟨xp,a.size,p,rfl,(b4 a ha).mono xp,hp.mono xp,?_⟩;walk_at"w";exact⟨xp,(λz=>nomatch z),(λz=>nomatch z),(show 3+1<=sizeLine by decide),hQ⟩
 .
  walk_at"w";refine⟨X0 b1 xp,?_⟩;refine bc (enc:=UV) (h:=λx=>UV (x*q)) R.rooms _ _ (λa ha Q hQ=>?_) λl c=>?_
  . walk_at"jU";refine⟨a,q,rfl,(b3 a ha).mono xp,hq.mono xp,?_⟩;walk_at"w";exact hQ
  . walk_at"w";have h:=h c b;simp only[VB,Yd]at h;exact⟨xp,_,ao (ao (ao aQ)),h⟩
def iW:FS:=λls kz=>∃(R:aD)(s:List Nat),ls=[.d (aX R),.d (.lst (s.map λ(t:Nat)=>D.int (t:Int)))]/\NA R/\∀a b,kz (.bx none [.own a ((eM R s).rooms.map UV),.own b ((eM R s).asks.map d6)]) ls
def lC:W L:=(EJ (ba (ay (De false) (ak 0) (ak 2))) (lg (ar (ay aI (ak 1) (wC (.int 0))) (ar (ay aI (ak 1) (wC (.int 2))) (ar (ay aI (ak 1) (wC (.int 1))) (ar (ay aI (ak 1) (wC (.int 3))) aH))))) (ak 1))
def jW:W Fl:=(aZ (bA 2 (bK 2 [1] (wa (ay aI (ak 0) (wC (.int 1)))) (dO [0,1]) bW lC))
  (bF (yM (ar (a8 yA (ar (ay aI (ak 0) (wC (.int 0))) aH)) (ar (jt 2) aH)))))
theorem NW(R:aD):eZ (R.asks.map d6)=(List.range R.asks.length).map λ(k:Nat)=>D.tup [.int (k:Int),d6 (aB R k)]:=by
 apply List.ext_getElem?;intro k;by_cases hk:k<R.asks.length
 . rw[X1,Yn hk];simp[eZ,hk,aB]
 . rw[ZN (by simp[eZ];omega),ZN (by simp;omega)]
theorem uR:aaF 2 1 iW jW:=by
 rintro ls kz - ⟨R,s,rfl,hR,h⟩;have hfew:=hR.few;walk_at"jW";rw[NW];refine⟨by simp only[tv,X6];exact cz xL,fB (h:=λ(k:Nat)=>d6 (sL s k (aB R k))) (List.range R.asks.length) [] _ _ (λk hm Q hq=>?_) λl1 l2 a2=>?_⟩
 .
  walk_at"lC";refine⟨rfl,by simp[qG],?_⟩;rw[wA];unfold sL at hq;by_cases c:k∈s
  . rw[if_pos c]at hq;rw[Y6 c,if_pos rfl];exact⟨xp,hq⟩
  . rw[if_neg c]at hq;rw[Yt c,if_neg (by decide)];exact hq
 . rw[Yk];walk_at"w";refine λa=>⟨xp,_,ao (ao aQ),?_⟩;have h:=h a a2;unfold eM at h;simp only[Yd]at h;exact h
def gu:FS:=λls kz=>∃(c:Nat×Nat)(p:Nat),ls=[.d (ig c),.d (.int p)]/\kz (.d (.bl (g7 c p))) ls
def mE:W Fl:=(bF (B7 D8 LJ (ay aI (ak 0) (wC (.int 0))) (ak 1) (ay aI (ak 0) (wC (.int 1)))))
theorem xn:aaF 2 0 gu mE:=by
 rintro ls kz - ⟨c,p,rfl,h⟩;walk_at"mE";unfold g7 at h;split
 .
  rename_i h1;refine⟨_,ao (ao aQ),?_⟩;have e:decide ((p:Int)<=(c.2:Int))=decide (c.1<p/\p<=c.2):=by rw[YA];omega
  rw[e];exact h
 . rename_i h1;refine⟨_,ao (ao aQ),?_⟩;rw[Yt (show ¬(c.1<p/\p<=c.2) by omega)]at h;exact h
def cI:FS:=λls kz=>∃(c:Nat×Nat)(i j:Nat),ls=[.d (ig c),.d (.int i),.d (.int j)]/\kz (.d (.bl (apart c i j))) ls
def gN:W Fl:=(bF (ay Il (aJ gu (ar (ak 0) (ar (ak 1) aH))) (aJ gu (ar (ak 0) (ar (ak 2) aH)))))
theorem qL:aaF 3 0 cI gN:=by
 rintro ls kz - ⟨c,i,j,rfl,h⟩;walk_at"gN";refine⟨c,i,rfl,?_⟩;walk_at"w";refine⟨c,j,rfl,?_⟩;walk_at"w";refine⟨_,ao (ao (ao aQ)),?_⟩;have e:(!decide (g7 c i=g7 c j))=apart c i j:=by unfold apart;cases g7 c i<;>cases g7 c j<;>rfl
 rw[e];exact h
theorem jX{α β:Type}(p:α->Bool)(f:α->β):∀xs:List α,xs.filterMap (λa=>if p a=true then some (f a)else none)=(xs.filter p).map f
 |[]=>rfl
 | x::xs=>by
  rw[Y0,YM];cases e:p x
  . simp[jX p f xs]
  . simp[jX p f xs]
def tD:FS:=λls kz=>∃(R:aD)(c:Nat×Nat),ls=[.d (aX R),.d (ig c)]/\R.Ok/\kz (.d (UV (bz R.asks c))) ls
def vI:W L:=(ay aI (ak 0) (wC (.int 3)))
def xo:W Fl:=(bF (aJ jQ (ar (bp (bK 1 [1] (oU (ay aI (ak 0) (wC (.int 1)))) (aR 0) (ba (aJ cI (ar (ak 1) (ar (ay aI (ak 0) (wC (.int 1))) (ar (ay aI (ak 0) (wC (.int 2))) aH))))) vI)) aH)))
theorem DX:aaF 2 0 tD xo:=by
 rintro ls kz - ⟨R,c,rfl,hR,h⟩;have hfew:=hR.few;walk_at"xo";refine⟨X0 hfew xp,?_⟩
 refine fA (h:=λa:Vo=>if apart c a.one a.other=true then some (UV a.size)else none) _ _ _ (λa ha Q q=>?_) λl' cc=>?_
 .
  walk_at"w";refine⟨c,a.one,a.other,rfl,?_⟩;walk_at"w";unfold vI;cases e:apart c a.one a.other
  . rw[e]at q;walk_at"w";exact q
  . rw[e]at q;walk_at"w";exact q
 .
  walk_at"w";have fl:=ZO (λa:Vo=>apart c a.one a.other) R.asks
  have e:R.asks.filterMap (λa:Vo=>if apart c a.one a.other=true then some (UV a.size)else none)=((R.asks.filter λa=>apart c a.one a.other).map (·.size)).map UV:=by rw[jX (λa:Vo=>apart c a.one a.other) (λa=>UV a.size),Yd];rfl
  rw[e];obtain⟨E,e0,e1,hd⟩:=hR.cd;refine⟨_,_,rfl,.inl rfl,by rw[tv];omega,λq hq=>?_,.inr ⟨E,e0,XX e1 (X9 xp xp),λq hq=>?_⟩,⟨_,ao (ao aQ),h⟩⟩
  . obtain⟨a,ha,rfl⟩:=XY.mp hq;exact(hR.rb (ZK.mp ha).1).mono xp
  . obtain⟨a,ha,rfl⟩:=XY.mp hq;exact hd a (ZK.mp ha).1
def mF:FS:=λls kz=>∃(R:aD)(c:Nat×Nat),ls=[.d (aX R),.d (ig c)]/\R.Ok/\hC R.n c/\kz (.d (UV (jC R c))) ls
def pH:W Fl:=(bF (aJ sY (ar (ay aI (ay aI (ak 0) (wC (.int 0))) (ay aI (ak 1) (wC (.int 0)))) (ar (ay aI (ay aI (ak 0) (wC (.int 0))) (ay aI (ak 1) (wC (.int 1)))) aH))))
theorem zD:aaF 2 0 mF pH:=by
 rintro ls kz - ⟨R,c,rfl,hR,hc,h⟩;have h1:c.1<R.n:=by have:=hc.1;have:=hc.2;omega
 walk_at"pH";refine⟨_,wD h1,?_⟩;walk_at"w";refine⟨_,wD hc.2,?_⟩;exact Kk ((dQ hR h1).2.mono xp) ((dQ hR hc.2).2.mono xp) ⟨_,ao (ao aQ),h⟩
def mG:FS:=λls kz=>∃(R:aD)(c:Nat×Nat),ls=[.d (aX R),.d (ig c)]/\R.Ok/\hC R.n c/\kz (.d (UV (cG R c))) ls
def pJ:W Fl:=(bF (aJ xj (ar (bp (aJ tD (ar (ak 0) (ar (ak 1) aH)))) (ar (bp (aJ mF (ar (ak 0) (ar (ak 1) aH)))) aH))))
theorem zE:aaF 2 0 mG pJ:=by rintro ls kz - ⟨R,c,rfl,hR,hc,h⟩;obtain⟨r1,r2⟩:=jE hR hc;walk_at"pJ";refine⟨R,c,rfl,hR,?_⟩;walk_at"w";refine⟨R,c,rfl,hR,hc,?_⟩;walk_at"w";exact⟨_,_,rfl,(y9 hR c).mono xp,r2.mono xp,(by grind),_,ao (ao aQ),h⟩
def iX:FS:=λls kz=>∃(R:aD),ls=[.d (aX R)]/\R.Ok/\∀c,kz (.own c ((jD R.n).map ig)) ls
def qh:W L:=(lg (ar (ak 1) (ar (ak 0) aH)))
def qj:W Fl:=(rG (Rc 1 (bK 1 [2] (Ij (ak 2) (a8 cn (ar (ay aI (ak 0) (wC (.int 0))) aH))) (aR 0) bW qh)))
def pK:W Fl:=(aZ (bA 1 (vg aH))
  (aZ (yy (iu (a8 cn (ar (ay aI (ak 0) (wC (.int 0))) aH))) (aR 2) qj)
  (bF (jt 1))))
theorem DY{α:Type}(f:Nat->List α)(k:Nat):(List.range (k+1)).flatMap f=(List.range k).flatMap f++f k:=by rw[List.range_succ,List.flatMap_append];simp
theorem Hj{n k:Nat}(hn:n<=12)(hk:k<=n):((List.range k).flatMap λg=>(List.range (n-g)).map λi=>(g,g+i)).length<=144:=by
 have:∀(m:Fin 13)(j:Fin 13),((List.range j.1).flatMap λg=>(List.range (m.1-g)).map λi=>(g,g+i)).length<=144:=by decide
 exact this ⟨n,xL⟩ ⟨k,xL⟩
theorem zF:aaF 1 2 iX pK:=by
 rintro ls kz - ⟨R,rfl,hR,h⟩;have hhi:=hR.hi;walk_at"pK";refine⟨xp,λc=>⟨⟨xL,xL⟩,?_⟩⟩;rw[Yx];refine FL _ (λk ρ=>∃x2,ρ=[.d (aX R),.own c (((List.range k).flatMap λg=>(List.range (R.n-g)).map λi=>(g,g+i)).map ig),x2]) _ ⟨_,rfl⟩ ?_ ?_
 .
  rintro g ρ hg ⟨x2,rfl⟩ Q h1 h2 h3 h4;walk_at"qj";refine⟨⟨xL,xL⟩,⟨xL,xL⟩,?_⟩;have e:((R.n:Int)-(g:Int)).toNat=R.n-g:=by omega
  have e2:vh (g:Int) (R.n-g)=(List.range (R.n-g)).map λ(i:Nat)=>D.int ((g:Int)+(i:Int)):=rfl;rw[e,e2];refine⟨by rw[tv,X6];exact X0 (show R.n-g<=12 by omega) xp,?_⟩;refine bc (h:=λi=>ig (g,g+i)) _ _ _ (λi hi Q' q=>?_) λl' a=>?_
  .
   walk_at"qh";refine⟨xp,?_⟩;have e3:D.tup [.int (g:Int),.int ((g:Int)+(i:Int))]=ig (g,g+i):=by unfold ig;show _=D.tup [.int (g:Int),.int ((g+i:Nat):Int)];rw[Int.natCast_add]
   rw[e3];exact q
  .
   walk_at"w";have hl:=Hj (k:=g) hhi xL;refine⟨?_,h1 _ ⟨.d (.int g),?_⟩⟩
   . rw[X6];exact X0 (show _<=200 by omega) xp
   . rw[DY,Yq,Yd];rfl
 . rintro ρ ⟨x2,rfl⟩;walk_at"w";exact⟨_,ao aQ,h c⟩
def fL:FS:=λls kz=>∃(R:aD),ls=[.d (aX R)]/\R.Ok/\kz (.d (gP (eL R))) ls
def jm:W Fl:=(aZ (bA 3 (bp (aJ mG (ar (ak 0) (ar (ak 2) aH)))))
  (UF (UC (ba (ay AB (ak 1) (wC .non))) (ba (aJ nR (ar (ay aI (ak 1) (wC (.int 0))) (ar (ak 3) aH))))) (bA 1 (lg (ar (ak 3) (ar (ak 2) aH)))) ck))
def gO:W Fl:=(aZ (bA 1 (wC .non))
  (aZ (yy (oU (aJ iX (ar (ak 0) aH))) (aR 2) jm)
  (bF (jt 1))))
theorem qM:aaF 1 3 fL gO:=by
 rintro ls kz - ⟨R,rfl,hR,h⟩;have hlo:=hR.lo;obtain⟨di,hrest⟩:=Gn (n:=R.n) xL;walk_at"gO";refine⟨R,rfl,hR,λcc=>?_⟩;walk_at"w"
 refine e8 (enc:=ig) (jD R.n) (λpre ρ=>∃x2 x3,ρ=[.d (aX R),.d (if pre=[]then .non else gP (pre.foldl (cV R) (0,(0,0)))),x2,x3]/\RB 1707 (pre.foldl (cV R) (0,(0,0))).1) _ ⟨_,_,rfl,RB.zero.mono xp⟩ ?_ ?_
 .
  rintro pre c suf ρ hsp ⟨x2,x3,rfl,hb⟩ Q h1 h2 h3 h4;have hc:hC R.n c:=kN.mp (by rw[hsp];simp);have hs:=Cw hR hc
  have hb2:RB 1707 ((pre++[c]).foldl (cV R) (0,(0,0))).1:=by
   rw[aaf];show RB 1707 (cV R _ c).1;unfold cV;split
   . exact hs
   . exact hb
  walk_at"jm";refine⟨R,c,rfl,hR,hc,?_⟩;walk_at"w";have hne:¬pre++[c]=[]:=by simp
  rw[if_neg hne]at h1;by_cases hp:pre=[]
  .
   subst hp;have ec:c=(0,0):=by rw[hrest]at hsp;exact((List.cons.inj hsp).1).symm
   subst ec;simp only[Zh];walk_at"w";have e3:D.tup [UV (cG R (0,0)),ig (0,0)]=gP (([]++[(0,0)]).foldl (cV R) (0,(0,0))):=by show _=gP (cV R (0,(0,0)) (0,0));unfold cV;rw[if_neg (by show ¬(0:Rat)<cG R (0,0);rw[A0];decide),A0];rfl
   rw[e3];exact⟨xp,h1 _ ⟨_,_,rfl,hb2⟩⟩
  .
   rw[if_neg hp];have e1:∀(K:L->Prop),AB (gP (pre.foldl (cV R) (0,(0,0)))) .non K=K (.d (.bl false)):=λ_=>rfl;have e2:(pre++[c]).foldl (cV R) (0,(0,0))=cV R (pre.foldl (cV R) (0,(0,0))) c:=by rw[aaf];rfl
   simp only[gP]at h1 ⊢;walk_at"w";refine⟨_,_,rfl,hb.mono xp,hs.mono xp,?_⟩;walk_at"w";split
   .
    rename_i hlt;have e3:D.tup [UV (cG R c),ig c]=gP ((pre++[c]).foldl (cV R) (0,(0,0))):=by rw[e2];rw[Gk hlt];rfl
    rw[e3];exact⟨xp,h1 _ ⟨_,_,rfl,hb2⟩⟩
   .
    rename_i hlt;have e3:gP (pre.foldl (cV R) (0,(0,0)))=gP ((pre++[c]).foldl (cV R) (0,(0,0))):=by rw[e2];rw[Gm hlt]
    have e4:D.tup [UV (pre.foldl (cV R) (0,(0,0))).1,ig (pre.foldl (cV R) (0,(0,0))).2]=gP ((pre++[c]).foldl (cV R) (0,(0,0))):=e3;rw[e4];exact h1 _ ⟨_,_,rfl,hb2⟩
 . rintro ρ ⟨x2,x3,rfl,hb⟩;walk_at"w";rw[if_neg (by rw[hrest];simp)];exact⟨_,ao aQ,h⟩
def eP:FS:=λls kz=>∃(qs:List Rat)(P:Nat),ls=[.d (.lst (qs.map UV))]/\(∀q∈qs,q.den∣P)/\0<P/\P<2^4400/\kz (.d (.int (Vx qs))) ls
def hW:W Fl:=(bA 1 (aJ fH (ar (ak 1) (ar (ay aI (ak 2) (wC (.int 1))) aH))))
def fM:W Fl:=(aZ (bA 1 (wC (.int 1)))
  (aZ (yy (oU (ak 0)) (aR 2) hW)
  (bF (jt 1))))
theorem pL:aaF 1 2 eP fM:=by
 rintro ls kz - ⟨qs,P,rfl,hd,hP,hP2,h⟩;walk_at"fM";refine e8 (enc:=UV) qs (λpre ρ=>∃x2,ρ=[.d (.lst (qs.map UV)),.d (.int (Vx pre)),x2]) _ ⟨_,rfl⟩ ?_ ?_
 .
  rintro pre q suf ρ hsp ⟨x2,rfl⟩ Q h1 h2 h3 h4;have hq:q.den∣P:=hd q (by rw[hsp];simp);have hc:Vx pre∣P:=M7 λp hp=>hd p (by rw[hsp];simp[hp]);have e:Vx (pre++[q])=Nat.lcm (Vx pre) q.den:=by unfold Vx;rw[aaf];rfl
  rw[e]at h1;walk_at"hW";refine⟨Vx pre,q.den,rfl,den_pos q,Yc (aam hP hc) hP2,Yc (aam hP hq) hP2,?_⟩;exact h1 _ ⟨_,rfl⟩
 . rintro ρ ⟨x2,rfl⟩;walk_at"w";exact⟨_,ao aQ,h⟩
def iY:FS:=λls kz=>∃(qs:List Rat)(u:Nat),ls=[.d (.lst (qs.map UV)),.d (.int u)]/\qs.length<=63/\(∀q∈qs,RB 4400 q)/\u<2^4400/\∀c,kz (.own c (qs.map λq=>D.int (nG u q))) ls
def qk:W L:=(ay bD (ay aI (ak 0) (wC (.int 0))) (ay oX (ak 1) (ay aI (ak 0) (wC (.int 1)))))
def pM:W Fl:=(bF (bK 1 [1] (oU (ak 0)) (aR 0) bW qk))
theorem zG:aaF 2 0 iY pM:=by
 rintro ls kz - ⟨qs,u,rfl,hl,hq,hu,h⟩;walk_at"pM";refine⟨X0 hl xp,?_⟩;refine bc (h:=λq=>D.int (nG u q)) _ _ _ (λq hm Q hQ=>?_) λl' c=>?_
 .
  walk_at"qk";have hb:=hq q hm;have e:(u:Int).fdiv (q.den:Int)=((u / q.den:Nat):Int):=by rw[Zl _ xL,Int.natCast_ediv]
  rw[e];refine⟨mi q,?_,hb.bn xp,?_,hQ⟩
  . rw[Yh];exact XX hb.2 (X9 xp xp)
  . exact ny (n:=4400) (by rw[Yh];exact Yc (Nat.div_le_self _ _) hu) xp
 . walk_at"w";exact⟨_,ao (ao aQ),h c⟩
def k6:FS:=λls kz=>∃(R:aD)(q:Rat),ls=[.d (aX R),.d (UV q)]/\R.Ok/\RB 1750 q/\kz (.d (.tup [.int (bU R q),.lst (fE R.asks.length (wI R q)),.lst (fE R.n (Vz R q))])) ls
def tE:W L:=(aJ nQ (ar (ak 1) (ar (ak 0) aH)))
def tF:W L:=(ay aI (ak 0) (wC (.int 3)))
def tG:W Fl:=(aZ (bA 2 (bK 1 [] (oU (ay aI (ak 0) (wC (.int 1)))) (aR 0) bW tF))
  (aZ (bA 3 (bK 1 [1] (oU (ay aI (ak 0) (wC (.int 0)))) (aR 0) bW tE))
  (aZ (bA 4 (bp (ay bD (wC (.int 2)) (aJ eP (ar (bp (ay bO (ak 2) (ak 3))) aH)))))
  (bF (lg (ar (ak 4) (ar (bp (aJ iY (ar (ak 2) (ar (ak 4) aH)))) (ar (bp (aJ iY (ar (ak 3) (ar (ak 4) aH)))) aH))))))))
theorem Bs:aaF 2 3 k6 tG:=by
 rintro ls kz - ⟨R,q,rfl,hR,hq,h⟩;have hfew:=hR.few;have hhi:=hR.hi;walk_at"tG";refine⟨X0 hfew xp,?_⟩;refine bc (h:=λa=>UV a.size) _ _ _ (λa hm Q hQ=>?_) λl' c1=>?_
 . walk_at"tF";exact hQ
 walk_at"w";refine⟨X0 hhi xp,?_⟩;refine bc (h:=λr=>UV (q*r)) _ _ _ (λr hm Q hQ=>?_) λl' c2=>?_
 . walk_at"tE";refine⟨_,_,rfl,hq.mono xp,(hR.room r hm).2.mono xp,?_⟩;walk_at"w";exact hQ
 obtain⟨u0,u1⟩:=wG hR hq;have e1:R.asks.map (λa=>UV a.size)=(lx R).map UV:=by unfold lx;rw[Yd];rfl
 have e2:R.rooms.map (λr=>UV (q*r))=(uH R q).map UV:=by unfold uH;rw[Yd];rfl
 rw[e1,e2];walk_at"w";rw[<- Yq];have ls1:(lx R).length<=20:=by unfold lx;rw[tv];exact hfew
 have ls2:(uH R q).length<=12:=by unfold uH;rw[tv];exact hhi
 have c0:=Gw R q;have c1':Vy R q<2^3952:=Yc (show Vy R q<=bU R q by unfold bU;omega) u1;refine⟨X0 (show _<=32 by omega) xp,λ_=>⟨_,Vy R q,rfl,λp hp=>Gs hp,c0,XX c1' (X9 xp xp),?_⟩⟩;walk_at"w";have eu:(2:Int)*((Vx (lx R++uH R q):Nat):Int)=((bU R q:Nat):Int):=by show(2:Int)*((Vy R q:Nat):Int)=((2*Vy R q:Nat):Int);omega
 rw[eu];have u2:bU R q<2^4400:=XX u1 (X9 xp xp);refine⟨bG xp,ny (n:=3952) (by rw[Yh];exact c1') xp,?_⟩;refine⟨lx R,bU R q,rfl,xL,λp hp=>?_,u2,λc3=>?_⟩
 . obtain⟨a,ha,rfl⟩:=XY.mp hp;exact(hR.rb ha).mono xp
 walk_at"w";refine⟨uH R q,bU R q,rfl,xL,λp hp=>?_,u2,λc4=>?_⟩
 . obtain⟨r,hr,rfl⟩:=XY.mp hp;exact(hq.mul (hR.room r hr).2).mono xp
 walk_at"w";rw[PN,PP];exact⟨xp,_,ao (ao aQ),h⟩
def jY:FS:=λls kz=>∃w:Bool,ls=[.d (.str (oV w))]/\kz (.d (.str (oV !w))) ls
def mH:W Fl:=(bF (EJ (ba (ay p6 (ak 0) (wC (.str "on")))) (wC (.str "back")) (wC (.str "on"))))
theorem xq:aaF 1 0 jY mH:=by
 rintro ls kz - ⟨w,rfl,h⟩;walk_at"mH";cases w
 . exact⟨_,ao aQ,h⟩
 . exact⟨_,ao aQ,h⟩
def pN:FS:=λls kz=>∃(R:aD)(k:Nat)(w:Bool)(hk:k<R.asks.length),ls=[.d (aX R),.d (.int k),.d (.str (oV w))]/\R.Ok/\∀c,kz (.own c ((Ai R.n R.asks[k] w).map λ(t:Nat)=>D.int (t:Int))) ls
def tH:W L:=(ay eA (ay dF (ay dF (ak 1) (wC (.int 1))) (ak 0)) (ak 2))
def tI:W L:=(ay eA (ay bO (ak 1) (ak 0)) (ak 2))
def tJ:W Fl:=(bF (bK 1 [4,3] (iu (ay eA (ay dF (ak 4) (ak 5)) (ak 3))) (aR 0) bW tH))
def tK:W Fl:=(aZ (UF (ba (ay p6 (ak 2) (wC (.str "on")))) (bF (bK 1 [4,3] (iu (ay eA (ay dF (ak 5) (ak 4)) (ak 3))) (aR 0) bW tI)) ck)
  tJ)
def tM:W Fl:=(aZ (bA 5 (ay aI (ay aI (ay aI (ak 0) (wC (.int 1))) (ak 1)) (wC (.int 2))))
  tK)
def tN:W Fl:=(aZ (bA 4 (ay aI (ay aI (ay aI (ak 0) (wC (.int 1))) (ak 1)) (wC (.int 1))))
  tM)
def tO:W Fl:=(aZ (bA 3 (bp (a8 cn (ar (ay aI (ak 0) (wC (.int 0))) aH))))
  tN)
theorem Bt:aaF 3 3 pN tO:=by
 rintro ls kz - ⟨R,k,w,hk,rfl,hR,h⟩;have ha:=hR.ask _ (X8 hk);have h1:=ha.one;have h2:=ha.other;have hlo:=hR.lo;have hhi:=hR.hi;walk_at"tO";walk_at"tN";refine⟨_,cf hk,?_⟩;walk_at"w";walk_at"tM";refine⟨_,cf hk,?_⟩;walk_at"w";walk_at"tK";have f1:=wx h1 h2;have f2:=wx h2 h1;have b1:=YW (R.asks[k].other+R.n-R.asks[k].one) (y:=R.n) xL;have b2:=YW (R.asks[k].one+R.n-R.asks[k].other) (y:=R.n) xL;split
 .
  rename_i hw;subst hw;rw[f1];refine⟨xL,⟨xL,xL⟩,?_⟩;rw[cg,Yx];refine⟨by rw[tv,X6];exact X0 (show _<=12 by omega) xp,?_⟩;refine bc (h:=λs=>D.int (((R.asks[k].one+s) % R.n:Nat):Int)) _ _ _ (λs hs Q q=>?_) λl'=>?_
  . walk_at"tI";refine⟨xL,?_⟩;rw[Jt];exact q
  . walk_at"w";intro c;refine⟨_,ao (ao (ao aQ)),?_⟩;have:=h c;simp only[Ai,Vq,Zh,Yd]at this;exact this
 .
  rename_i hw;have hw:w=false:=by simpa using hw
  subst hw;walk_at"tJ";rw[f2];refine⟨xL,⟨xL,xL⟩,?_⟩;rw[cg,Yx];refine⟨by rw[tv,X6];exact X0 (show _<=12 by omega) xp,?_⟩;refine bc (h:=λs=>D.int (((R.asks[k].one+R.n-1-s) % R.n:Nat):Int)) _ _ _ (λs hs Q q=>?_) λl'=>?_
  . walk_at"tH";refine⟨xL,?_⟩;have hs:=Yb.mp hs;rw[Ju xL xL];exact q
  . walk_at"w";intro c;refine⟨_,ao (ao (ao aQ)),?_⟩;have:=h c;simp only[Ai,uG,YL,ZH,Yd]at this;exact this
def hX:FS:=λls kz=>∃(R:aD)(k:Nat)(w:Bool)(t:Nat)(hk:k<R.asks.length),ls=[.d (aX R),.d (.int k),.d (.str (oV w)),.d (.int t)]/\R.Ok/\t<R.n/\kz (.d (.bl (b7 R.n R.asks[k] t == w))) ls
def tP:W Fl:=(bF (ay p6 (ak 7) (ay p6 (ak 2) (wC (.str "on")))))
def tQ:W Fl:=(aZ (bA 7 (ay D8 (ay eA (ay dF (ak 3) (ak 5)) (ak 4)) (ay eA (ay dF (ak 6) (ak 5)) (ak 4))))
  tP)
def tR:W Fl:=(aZ (bA 6 (ay aI (ay aI (ay aI (ak 0) (wC (.int 1))) (ak 1)) (wC (.int 2))))
  tQ)
def tS:W Fl:=(aZ (bA 5 (ay aI (ay aI (ay aI (ak 0) (wC (.int 1))) (ak 1)) (wC (.int 1))))
  tR)
def tT:W Fl:=(aZ (bA 4 (bp (a8 cn (ar (ay aI (ak 0) (wC (.int 0))) aH))))
  tS)
theorem Bu:aaF 4 4 hX tT:=by
 rintro ls kz - ⟨R,k,w,t,hk,rfl,hR,ht,h⟩;have ha:=hR.ask _ (X8 hk);have h1:=ha.one;have h2:=ha.other;walk_at"tT";walk_at"tS";refine⟨_,cf hk,?_⟩;walk_at"w";walk_at"tR";refine⟨_,cf hk,?_⟩;walk_at"w";walk_at"tQ";rw[wx h1 h2,wx h1 ht];refine⟨xL,xL,?_⟩;walk_at"tP";refine⟨_,ao (ao (ao (ao aQ))),?_⟩
 have e:decide (decide ((((t+R.n-R.asks[k].one) % R.n:Nat):Int)<(((R.asks[k].other+R.n-R.asks[k].one) % R.n:Nat):Int))=decide (w=true))=(b7 R.n R.asks[k] t == w):=by
  have e1:decide ((((t+R.n-R.asks[k].one) % R.n:Nat):Int)<(((R.asks[k].other+R.n-R.asks[k].one) % R.n:Nat):Int))=b7 R.n R.asks[k] t:=by unfold b7 Vr;rw[YA];omega
  rw[e1];cases b7 R.n R.asks[k] t<;>cases w<;>rfl
 rw[e];exact h
def jZ:FS:=λls kz=>∃(R:aD)(ps:List Rat)(k t:Nat)(hk:k<R.asks.length)(hp:k<ps.length),ls=[.d (aX R),.d (.lst (ps.map UV)),.d (.int k),.d (.int t)]/\R.Ok/\RB 4400 ps[k]/\t<R.n/\kz (.d (UV (lu R.n R.asks[k] ps[k] t))) ls
def mI:W Fl:=(aZ (UF (ba (aJ hX (ar (ak 0) (ar (ak 2) (ar (wC (.str "on")) (ar (ak 3) aH)))))) (bF (ay aI (ak 1) (ak 2))) ck)
  (bF (aJ rm (ar (ay aI (ay aI (ay aI (ak 0) (wC (.int 1))) (ak 2)) (wC (.int 3))) (ar (ay aI (ak 1) (ak 2)) aH)))))
theorem xr:aaF 4 0 jZ mI:=by
 rintro ls kz - ⟨R,ps,k,t,hk,hp,rfl,hR,hb,ht,h⟩;have ha:=hR.ask _ (X8 hk);walk_at"mI";refine⟨R,k,true,t,hk,rfl,hR,ht,?_⟩;walk_at"w";unfold lu at h;cases e:b7 R.n R.asks[k] t
 . rw[e]at h;walk_at"w";refine⟨_,cf hk,?_⟩;walk_at"w";refine⟨_,cf hp,?_⟩;exact He ((hR.rb (X8 hk)).mono xp) (hb.mono xp) ⟨_,ao (ao (ao (ao aQ))),h⟩
 . rw[e]at h;walk_at"w";exact⟨_,cf hp,_,ao (ao (ao (ao aQ))),h⟩
def pO:FS:=λls kz=>∃(R:aD)(ps:List Rat)(t:Nat),ls=[.d (aX R),.d (.lst (ps.map UV)),.d (.int t)]/\R.Ok/\ps.length=R.asks.length/\LB R ps/\t<R.n/\kz (.d (UV (cj R.n R.asks ps t))) ls
def tU:W L:=(aJ jZ (ar (ak 1) (ar (ak 2) (ar (ak 0) (ar (ak 3) aH)))))
def tV:W Fl:=(bF (aJ jQ (ar (bp (bK 1 [0,1,2] (iu (a8 cn (ar (ay aI (ak 0) (wC (.int 1))) aH))) (aR 0) bW tU)) aH)))
theorem Bv:aaF 3 0 pO tV:=by
 rintro ls kz - ⟨R,ps,t,rfl,hR,hl,hb,ht,h⟩;have hfew:=hR.few;walk_at"tV";refine⟨⟨xL,xL⟩,?_⟩;rw[Yx,cg];refine⟨by rw[tv,X6];exact X0 hfew xp,?_⟩;refine bc (h:=λk=>UV (((R.asks.zip ps).map λx=>lu R.n x.1 x.2 t).getD k 0)) _ _ _ (λk hk Q q=>?_) λl' a=>?_
 .
  have hk:=Yb.mp hk;walk_at"tU";refine⟨R,ps,k,t,hk,xL,rfl,hR,(hb.p _ (X8 _)).mono xp,ht,?_⟩;walk_at"w";have e:(((R.asks.zip ps).map λx=>lu R.n x.1 x.2 t).getD k 0)=lu R.n R.asks[k] (ps[k]'(by omega)) t:=by rw[k4,X1,gV (by rw[Zp];omega),ZC];rfl
  rw[e]at q;exact q
 .
  walk_at"w";have e:(List.range R.asks.length).map (λk=>UV (((R.asks.zip ps).map λx=>lu R.n x.1 x.2 t).getD k 0))=((R.asks.zip ps).map λx=>lu R.n x.1 x.2 t).map UV:=by refine Gi _ (by rw[tv,Zp];omega) _ λk hk=>?_;rw[k4,gV hk];rfl
  rw[e];refine⟨_,_,rfl,.inl rfl,by rw[tv,Zp];omega,λq hq=>?_,hb.sm t,⟨_,ao (ao (ao aQ)),h⟩⟩;obtain⟨x,hx,rfl⟩:=XY.mp hq;obtain⟨j,hj,e⟩:=Zk.mp hx;have hj':j<R.asks.length:=by rw[Zp]at hj;omega
  rw[ZC]at e;rw[<- e];exact(hb.st j hj' xL t).mono xp
def mJ:FS:=λls kz=>∃(R:aD)(ps:List Rat),ls=[.d (aX R),.d (.lst (ps.map UV))]/\R.Ok/\ps.length=R.asks.length/\LB R ps/\∀a,kz (.own a (Vp R.n (cj R.n R.asks ps))) ls
def ql:W L:=(aJ pO (ar (ak 1) (ar (ak 2) (ar (ak 0) aH))))
def pP:W Fl:=(bF (bK 1 [0,1] (iu (a8 cn (ar (ay aI (ak 0) (wC (.int 0))) aH))) (aR 0) bW ql))
theorem zH:aaF 2 0 mJ pP:=by
 rintro ls kz - ⟨R,ps,rfl,hR,hl,hb,h⟩;have hhi:=hR.hi;walk_at"pP";refine⟨⟨xL,xL⟩,?_⟩;rw[Yx,cg];refine⟨by rw[tv,X6];exact X0 hhi xp,?_⟩;refine bc (h:=λt=>UV (cj R.n R.asks ps t)) _ _ _ (λt ht Q q=>?_) λl' a=>?_
 . walk_at"ql";refine⟨R,ps,t,rfl,hR,hl,hb,Yb.mp ht,?_⟩;walk_at"w";exact q
 . walk_at"w";exact⟨_,ao (ao aQ),h a⟩
def iZ:FS:=λls kz=>∃(R:aD)(ps:List Rat),ls=[.d (aX R),.d (.lst (ps.map UV))]/\R.Ok/\ps.length=R.asks.length/\LB R ps/\∀a,kz (.own a (Vp R.n (bg R ps))) ls
def lD:W L:=(aJ xj (ar (ak 0) (ar (ak 1) aH)))
def j4:W Fl:=(bF (bK 2 [] (QD (aJ mJ (ar (ak 0) (ar (ak 1) aH))) (ay aI (ak 0) (wC (.int 0)))) (dO [0,1]) bW lD))
theorem uS:aaF 2 0 iZ j4:=by
 rintro ls kz - ⟨R,ps,rfl,hR,hl,hb,h⟩;have hhi:=hR.hi;walk_at"j4";refine⟨R,ps,rfl,hR,hl,hb,λ_=>?_⟩;walk_at"w";rw[JB,MZ];refine⟨by rw[tv,X6];exact X0 hhi xp,?_⟩;refine fB (h:=λt=>UV (bg R ps t)) _ _ _ _ (λt ht Q q=>?_) λl m a=>?_
 . have ht:=Yb.mp ht;obtain⟨r1,r2⟩:=dQ hR ht;walk_at"lD";exact⟨_,_,rfl,(hb.all hl t).mono xp,r2.mono xp,(by grind),q⟩
 . walk_at"w";exact⟨_,ao (ao aQ),h a⟩
noncomputable def Sm(R:aD)(ps:List Rat):D:=.tup [UV (bg R ps (Dz R.n (bg R ps))),.int (Dz R.n (bg R ps):Nat)]
def tX:FS:=λls kz=>∃(R:aD)(ps:List Rat),ls=[.d (aX R),.d (.lst (ps.map UV))]/\R.Ok/\ps.length=R.asks.length/\LB R ps/\kz (.d (Sm R ps)) ls
def vJ:W Fl:=(UF (ba (aJ nR (ar (ay aI (ak 2) (ak 3)) (ar (ak 5) aH)))) (bA 3 (ak 4)) ck)
def xt:W Fl:=(aZ (bA 2 (bp (aJ iZ (ar (ak 0) (ar (ak 1) aH)))))
  (aZ (bA 3 (wC (.int 0)))
  (aZ (yy (wa (ak 2)) (dO [4,5]) vJ)
  (bF (lg (ar (ay aI (ak 2) (ak 3)) (ar (ak 3) aH)))))))
theorem DZ:aaF 2 4 tX xt:=by
 rintro ls kz - ⟨R,ps,rfl,hR,hl,hb,h⟩;have hlo:=hR.lo;have sb:∀t,t<R.n->RB 4400 (bg R ps t):=λt ht=>((hb.all hl t).div (dQ hR ht).2 (by have:=(dQ hR ht).1;grind)).mono xp;walk_at"xt";refine⟨R,ps,rfl,hR,hl,hb,λ_=>?_⟩;walk_at"w";rw[MY]
 refine e8 (enc:=λ(t:Nat)=>D.tup [.int (t:Int),UV (bg R ps t)]) (List.range R.n) (λpre ρ=>∃(b:Nat)(x4 x5:L),ρ=[.d (aX R),.d (.lst (ps.map UV)),.d (.lst (Vp R.n (bg R ps))),.d (.int b),x4,x5]/\b=pre.foldl (λb t=>if bg R ps b<bg R ps t then t else b) 0/\b<R.n) _ ⟨0,_,_,rfl,rfl,xL⟩ ?_ ?_
 .
  rintro pre t suf ρ hsp ⟨b,x4,x5,rfl,hbe,hbn⟩ Q h1 h2 h3 h4;have ht:t<R.n:=Yb.mp (by rw[hsp];simp)
  have ef:(pre++[t]).foldl (λb t=>if bg R ps b<bg R ps t then t else b) 0=if bg R ps b<bg R ps t then t else b:=by rw[aaf,<- hbe];rfl
  walk_at"vJ";refine⟨_,KS hbn,_,_,rfl,(sb _ hbn).mono xp,(sb _ ht).mono xp,?_⟩;walk_at"w";split
  . rename_i hlt;rw[if_pos hlt]at ef;exact h1 _ ⟨t,_,_,rfl,ef.symm,ht⟩
  . rename_i hlt;rw[if_neg hlt]at ef;exact h1 _ ⟨b,_,_,rfl,ef.symm,hbn⟩
 . rintro ρ ⟨b,x4,x5,rfl,hbe,hbn⟩;walk_at"w";refine⟨_,KS hbn,xp,_,ao (ao aQ),?_⟩;have e:b=Dz R.n (bg R ps):=hbe;rw[e];exact h
noncomputable def Lb(as:List Vo)(ws:List Bool):List Rat:=(as.zip ws).map λx=>if x.2 then x.1.size else 0
def pQ:FS:=λls kz=>∃(R:aD)(ws:List Bool),ls=[.d (aX R),.d (.lst (ws.map λw=>D.str (oV w)))]/\R.asks.length<=20/\ws.length=R.asks.length/\∀c,kz (.own c ((Lb R.asks ws).map UV)) ls
def tY:W L:=(EJ (ba (ay p6 (ak 1) (wC (.str "on")))) (ay aI (ak 0) (wC (.int 3))) (wC (.tup [(.int 0),(.int 1)])))
def tZ:W Fl:=(bF (bK 2 [] (QD (ay aI (ak 0) (wC (.int 1))) (ak 1)) (dO [0,1]) bW tY))
theorem Bw:aaF 2 0 pQ tZ:=by
 rintro ls kz - ⟨R,ws,rfl,hfew,hl,h⟩;walk_at"tZ";have e:o5 (R.asks.map d6) (ws.map λw=>D.str (oV w))=(R.asks.zip ws).map λx=>D.tup [d6 x.1,D.str (oV x.2)]:=by unfold o5;rw[List.zip_map,Yd];rfl
 rw[e];refine⟨by rw[tv,Zp];exact X0 (show min R.asks.length ws.length<=20 by omega) xp,?_⟩
 refine fB (h:=λx=>UV (if x.2 then x.1.size else 0)) _ _ _ _ (λx hx Q q=>?_) λl m a=>?_
 .
  walk_at"tY";split
  . rename_i c;rw[if_pos c]at q;exact q
  . rename_i c;rw[if_neg c]at q;exact q
 . walk_at"w";have:=h a;unfold Lb at this;rw[Yd]at this;exact⟨_,ao (ao aQ),this⟩
def t5:FS:=λls kz=>∃(R:aD)(ws:List Bool),ls=[.d (aX R),.d (ph ws)]/\R.Ok/\SB R/\ws.length=R.asks.length/\kz (.d (UV (eU R ws))) ls
def xu:W Fl:=(bF (ay aI (aJ tX (ar (ak 0) (ar (bp (aJ pQ (ar (ak 0) (ar (ak 1) aH)))) aH))) (wC (.int 0))))
theorem D0:aaF 2 0 t5 xu:=by rintro ls kz - ⟨R,ws,rfl,hR,hT,hw,h⟩;walk_at"xu";refine⟨R,ws,rfl,hR.few,hw,λc=>?_⟩;walk_at"w";refine⟨R,dH R.asks ws,rfl,hR,rg hw,LB.waysB hT ws,?_⟩;walk_at"Sm";exact⟨_,ao (ao aQ),h⟩
def j5:FS:=λls kz=>∃(el ws:List (Option Bool)),ls=[.d (VD el),.d (VD ws)]/\ws.length<=99/\∀a,kz (.own a ((iG el ws).map λ(k:Nat)=>D.int (k:Int))) ls
def nT:W L:=(ak 0)
def mK:W Fl:=(aZ (bA 2 (bp (IS (ar (ak 0) (ar (ak 1) aH)))))
  (bF (bK 2 [] (wa (ak 2)) (dO [0,1]) (QB (ba (ay yI (ay aI (ak 1) (wC (.int 0))) (wC .non))) (ba (ay p6 (ay aI (ak 1) (wC (.int 1))) (aJ jY (ar (ay aI (ak 1) (wC (.int 0))) aH))))) nT)))
theorem NX(l:List ((Option Bool×Option Bool)×Nat)):(l.filterMap λx=>if dm x.1=true then some (D.int (x.2:Int))else none)=((l.filter λx=>dm x.1).map (·.2)).map λ(k:Nat)=>D.int (k:Int):=by
 induction l with
 |nil=>rfl
 | cons x l ih =>
  rw[Y0,YM];cases e:dm x.1
  . simpa[e]using ih
  . simpa[e]using ih
theorem Kn(el ws:List (Option Bool)):eZ (o5 (el.map CC) (ws.map CC))=(el.zip ws).zipIdx.map λx=>D.tup [D.int (x.2:Int),D.tup [CC x.1.1,CC x.1.2]]:=by unfold eZ o5;rw[List.zip_map,Yd];refine YH x_ λj h1 h2=>?_;simp
theorem xv:aaF 2 1 j5 mK:=by
 rintro ls kz - ⟨el,ws,rfl,hl,h⟩;unfold mK VD;walk_at"w";have zl:(o5 (el.map CC) (ws.map CC)).length<=99:=by simp[o5];omega
 refine⟨X0 zl xp,λ_=>?_⟩;rw[Kn];refine⟨by rw[tv,List.length_zipIdx,Zp];exact X0 (show min el.length ws.length<=99 by omega) xp,?_⟩
 refine g9 (e1:=λx=>D.int (x.2:Int)) (e2:=λx=>D.tup [CC x.1.1,CC x.1.2]) (h:=λx=>if dm x.1=true then some (D.int (x.2:Int))else none) ((el.zip ws).zipIdx) _ _ _ (λx hx Q hQ=>?_) λl m=>?_
 .
  obtain⟨⟨o,p⟩,k⟩:=x;unfold nT
  cases o with
  | none =>
   have o1:CC none=.non:=rfl;simp only[o1]at hQ ⊢;walk_at"w";exact hQ
  | some b =>
   have o2:CC (some b)=.str (oV b):=rfl;simp only[o2]at hQ ⊢;walk_at"w";refine⟨b,rfl,?_⟩;walk_at"w";refine⟨DB p,?_⟩;rw[Nc];have e:dm (some b,p)=(p == some !b):=rfl;rw[e]at hQ;cases hp:(p == some !b)
   . rw[hp]at hQ;simpa using hQ
   . rw[hp]at hQ;simpa using hQ
 . intro a;rw[Yk,NX];exact⟨_,ao (ao aQ),h a⟩
def gQ:FS:=λls kz=>∃(w:yc)(x y:Int),ls=[.d (pj w),.d (.int x),.d (.int y)]/\kz (.d (.bl (gE w.strict x y))) ls
def i4:W Fl:=(bF (Q4 (ay EN (ak 1) (ak 2)) (vV (ay aI (ak 0) (wC (.int 1))) (ay p6 (ak 1) (ak 2)))))
theorem t6:aaF 3 0 gQ i4:=by
 rintro ls kz - ⟨w,x,y,rfl,h⟩;unfold i4;unfold gE at h;simp only[pj]at h ⊢;walk_at"w";by_cases c:y<x
 . rw[if_pos c];rw[Y6 c,Bool.true_or]at h;exact⟨_,ao (ao (ao aQ)),h⟩
 .
  rw[if_neg c];rw[Yt c,Bool.false_or]at h;cases e:w.strict
  . rw[e]at h;simp only[YL,ZH];exact⟨_,ao (ao (ao aQ)),h⟩
  . rw[e]at h;simp only[Zh];exact⟨_,ao (ao (ao aQ)),h⟩
def fN:FS:=λls kz=>∃(w:yc)(ws:List (Option Bool)),ls=[.d (pj w),.d (VD ws)]/\ws.length<=99/\kz (.d (.bl (decide (w.most<(iG w.elder ws).length)))) ls
def gR:W Fl:=(bF (ay EN (a8 cn (ar (bp (aJ j5 (ar (ay aI (ak 0) (wC (.int 2))) (ar (ak 1) aH)))) aH)) (ay aI (ak 0) (wC (.int 3)))))
theorem qN:aaF 2 0 fN gR:=by
 rintro ls kz - ⟨w,ws,rfl,hl,h⟩;unfold gR;simp only[pj]at h ⊢;walk_at"w";refine⟨w.elder,ws,rfl,hl,λa=>?_⟩;walk_at"w";refine⟨_,ao (ao aQ),?_⟩;have e:decide (((w.most:Nat):Int)<((iG w.elder ws).length:Int))=decide (w.most<(iG w.elder ws).length):=by rw[YA];omega
 rw[e];exact h
def dX:FS:=λls kz=>∃(R:aD)(w:yc)(ws:List Bool),ls=[.d (pj w),.d (DE R w.top ws.length),.d (ph ws),.d (.lst (fE R.n (VE R w.top ws)))]/\R.Ok/\ws.length<=R.asks.length /\
 (∀T:Tr,T.Ok R w (ju R.asks.length ws)->(∃x xs,VF T=.tup (x::xs))->T.size=1->kz (.d (VF T)) ls)/\(PU R w ws->kz (.d .non) ls)
def gw:W Fl:=(UF (ba (aJ gQ (ar (ak 0) (ar (bp (ay bO (ay aI (ak 3) (ay aI (ak 4) (wC (.int 0)))) (ay aI (ak 3) (ay aI (ak 4) (wC (.int 1)))))) (ar (ak 5) aH))))) (bF (lg (ar (wC (.str "cut")) (ar (ay aI (ak 4) (wC (.int 0))) (ar (ay aI (ak 4) (wC (.int 1))) aH))))) ck)
def eQ:W Fl:=(aZ (UF (ba (aJ fN (ar (ak 0) (ar (ak 2) aH)))) (bF (lg (ar (wC (.str "turned")) aH))) ck)
  (aZ (yy (oU (ak 1)) (dO [4,5]) gw)
  (bF (wC .non))))
theorem nU:aaF 4 2 dX eQ:=by
 rintro ls kz - ⟨R,w,ws,rfl,hR,hw,ht,hf⟩;have few:=hR.few;walk_at"eQ";refine⟨w,ws.map some,by rw[JQ],by rw[tv];omega,?_⟩;walk_at"w";by_cases c:w.most<(iG w.elder (ws.map some)).length
 . simp only[c,Zh];refine⟨xp,_,ao (ao (ao (ao aQ))),ht .turned ?_ ⟨_,_,rfl⟩ rfl⟩;show w.most<(iG w.elder (ju R.asks.length ws)).length;rw[GE];exact c
 .
  simp only[c,ZH];rw[show DE R w.top ws.length=.lst ((jD R.n).map λc=>D.tup [ig c,.int (wO R w.top ws.length c)])from rfl];walk_at"w";refine e8 (enc:=λc=>D.tup [ig c,.int (wO R w.top ws.length c)]) (jD R.n) (λpre ρ=>∃x4 x5,ρ=[.d (pj w),.d (DE R w.top ws.length),.d (ph ws),.d (.lst (fE R.n (VE R w.top ws))),x4,x5]/\∀c∈pre,gE w.strict (VE R w.top ws c.1+VE R w.top ws c.2) (wO R w.top ws.length c)=false) _ ⟨_,_,rfl,λc hc=>by simp at hc⟩ ?_ ?_
  .
   rintro pre c suf ρ hsp ⟨x4,x5,rfl,hpre⟩ Q h1 h2 h3 h4;have hc:hC R.n c:=kN.mp (by rw[hsp];simp);have c1:c.1<R.n:=by have:=hc.1;have:=hc.2;omega
   walk_at"gw";refine⟨_,iE c1,_,iE hc.2,?_⟩;walk_at"w";refine⟨w,_,_,rfl,?_⟩;walk_at"w";cases e:gE w.strict (VE R w.top ws c.1+VE R w.top ws c.2) (wO R w.top ws.length c)
   .
    simp only[YL,ZH];refine h1 _ ⟨_,_,rfl,λd hd=>?_⟩;rcases Ys.mp hd with hd|hd
    . exact hpre d hd
    . rw[YB.mp hd];exact e
   . simp only[Zh];refine⟨xp,h4 _ _ ⟨_,ao (ao (ao (ao aQ))),ht (.cut c) ⟨hc,?_⟩ ⟨_,_,rfl⟩ rfl⟩⟩;rw[<- GG hw];exact e
  . rintro ρ ⟨x4,x5,rfl,hpre⟩;walk_at"w";exact⟨_,ao (ao (ao (ao aQ))),hf ⟨λc hc=>hpre c (kN.mpr hc),xL⟩⟩
def cJ(n:Nat):FS:=λls kz=>∃(R:aD)(w:yc)(ws:List Bool),ls=[.d (aX R),.d (pj w),.d (.lst (fE R.asks.length (wI R w.top))),.d (.lst (A6 R w.top)),.d (ph ws),.d (.lst (fE R.n (VE R w.top ws)))]/\R.Ok/\ws.length<=R.asks.length/\R.asks.length-ws.length<n/\R.asks.length<=7 /\
 (∀ ws':List Bool,ws'.length=R.asks.length->p9 R w ws'->kz (.d (.tup [.str "ways",ph ws'])) ls)/\∀ T:Tr,T.Ok R w (ju R.asks.length ws)->T.size+1<=2^(R.asks.length-ws.length+1)->kz (.d (.tup [.str "none",VF T])) ls
theorem Bx(ls:List L)(kz:L->List L->Prop):¬cJ 0 ls kz:=by rintro⟨R,w,ws,_,_,_,h,_⟩;omega
abbrev t7:FS:=cJ 9
def qn(self:FS):W L:=(ay bO (ak 1) (EJ (ba (aJ hX (ar (ak 2) (ar (ak 3) (ar (ak 4) (ar (ak 0) aH)))))) (ay aI (ak 5) (ak 3)) (wC (.int 0))))
def j6(self:FS):W Fl:=(aZ (bA 10 (bK 2 [0,6,9,2] (wa (ak 5)) (dO [0,1]) bW (qn self)))
  (aZ (bA 11 (aJ self (ar (ak 0) (ar (ak 1) (ar (ak 2) (ar (ak 3) (ar (bp (ay bO (ak 4) (vg (ar (ak 9) aH)))) (ar (ak 10) aH))))))))
  (aZ (UF (ba (ay p6 (ay aI (ak 11) (wC (.int 0))) (wC (.str "ways")))) (bF (jt 11)) ck)
  (rG (HI 8 (ay aI (ak 11) (wC (.int 1))))))))
def qo(self:FS):W Fl:=(bF (lg (ar (wC (.str "none")) (ar (lg (ar (wC (.str "split")) (ar (ak 6) (ar (fY 8 (D9 8 (wC (.int 0))) (ay aI (ak 8) (wC (.int 0)))) (ar (fY 8 (D9 8 (wC (.int 1))) (ay aI (ak 8) (wC (.int 1)))) aH))))) aH))))
def qp(self:FS):W Fl:=(aZ (yy (oU (lg (ar (wC (.str "on")) (ar (wC (.str "back")) aH)))) (aR 9) (j6 self))
  (qo self))
def qq(self:FS):W Fl:=(aZ (bA 8 (vg aH))
  (qp self))
def qr(self:FS):W Fl:=(aZ (UF (ba (ay p6 (ak 6) (a8 cn (ar (ak 2) aH)))) (bF (lg (ar (wC (.str "ways")) (ar (ak 4) aH)))) ck)
  (qq self))
def j7(self:FS):W Fl:=(aZ (UF (ba (ay yI (ak 7) (wC .non))) (bF (lg (ar (wC (.str "none")) (ar (ak 7) aH)))) ck)
  (qr self))
def qt(self:FS):W Fl:=(aZ (bA 7 (bp (aJ dX (ar (ak 1) (ar (ay aI (ak 3) (ay dF (a8 cn (ar (ak 2) aH)) (ak 6))) (ar (ak 4) (ar (ak 5) aH)))))))
  (j7 self))
def pR(self:FS):W Fl:=(aZ (bA 6 (bp (a8 cn (ar (ak 4) aH))))
  (qt self))
theorem NY{R:aD}{q:Rat}{k:Nat}(h:k<=R.asks.length):Ud (A6 R q) ((R.asks.length:Int)-(k:Int))=some (DE R q k):=by
 have e:((R.asks.length:Int)-(k:Int))=((R.asks.length-k:Nat):Int):=by omega
 rw[e];unfold A6;rw[cf (by rw[X6];omega),YV]
 congr 2
 omega
theorem Ko(n:Nat)(f:Nat->Int):eZ (fE n f)=(List.range n).map λ(t:Nat)=>D.tup [.int (t:Int),.int (f t)]:=by unfold eZ fE;refine YH x_ λj h1 h2=>?_;simp
theorem xw:dj (.str "ways"):=d5 (n:=0) y_ xp
theorem xx:dj (.str "none"):=d5 (n:=0) y_ xp
theorem zJ:∀n ls kz,ls.length=6->cJ (n+1) ls kz->pR (cJ n) (ls++List.replicate 6 .un) (aU ls kz):=by
 rintro n ls kz - ⟨R,w,ws,rfl,hR,hw,hn,h7,hk,hT⟩;have hi:=hR.hi;have wl:(ws.map λb=>D.str (oV b)).length=ws.length:=by simp
 unfold pR;rw[show ph ws=.lst (ws.map λb=>D.str (oV b))from rfl];walk_at"w";walk_at"qt";rw[Cz];refine⟨_,NY hw,?_⟩;refine⟨R,w,ws,rfl,hR,hw,λT ht hd hz=>?_,λhf=>?_⟩
 . obtain⟨x,xs,ex⟩:=hd;unfold j7;have pw:2^1<=2^(R.asks.length-ws.length+1):=X9 xp xL;have e2:=hT T ht (by rw[hz];omega);rw[ex]at e2 ⊢;walk_at"w";exact⟨xp,_,ao (ao (ao (ao (ao (ao aQ))))),e2⟩
 .
  walk_at"j7";walk_at"qr";rw[Cz];by_cases ek:ws.length=R.asks.length
  . rw[if_pos (by omega)];exact⟨xp,_,ao (ao (ao (ao (ao (ao aQ))))),hk ws ek (DF hR ek hf)⟩
  .
   rw[if_neg (by omega)];have lt:ws.length<R.asks.length:=by omega
   walk_at"qq";refine⟨xp,λc1=>?_⟩;walk_at"qp";refine⟨xp,?_⟩
   have turn:∀(b:Bool)(x9 x10 x11:L)(ts:List D)(Q:Fl->Ev->Prop),ts.length<=1 ->
     (∀r ρ',aU [.d (aX R),.d (pj w),.d (.lst (fE R.asks.length (wI R w.top))),.d (.lst (A6 R w.top)),.d (.lst (ws.map λb=>D.str (oV b))),.d (.lst (fE R.n (VE R w.top ws)))] kz (.rt r) ρ'->Q (.rt r) ρ') ->
     (∀T:Tr,T.Ok R w (ju R.asks.length (ws++[b]))->T.size+1<=2^(R.asks.length-(ws++[b]).length+1)->∀x10 x11,Q .nx [.d (aX R),.d (pj w),.d (.lst (fE R.asks.length (wI R w.top))),.d (.lst (A6 R w.top)),.d (.lst (ws.map λb=>D.str (oV b))),.d (.lst (fE R.n (VE R w.top ws))),.d (.int (ws.length:Int)),.d .non,.own c1 (ts++[VF T]),.d (.str (oV b)),x10,x11]) ->
     j6 (cJ n) [.d (aX R),.d (pj w),.d (.lst (fE R.asks.length (wI R w.top))),.d (.lst (A6 R w.top)),.d (.lst (ws.map λb=>D.str (oV b))),.d (.lst (fE R.n (VE R w.top ws))),.d (.int (ws.length:Int)),.d .non,.own c1 ts,.d (.str (oV b)),x10,x11] Q:=by
    intro b x9 x10 x11 ts Q htl hrt hnx;walk_at"j6";rw[Ko];refine⟨by rw[tv,X6];exact X0 hi xp,fB (e1:=λ(t:Nat)=>D.int (t:Int)) (e2:=λt=>D.int (VE R w.top ws t)) (h:=λt=>D.int (VE R w.top (ws++[b]) t)) (List.range R.n) _ _ _ (λt ht Q hQ=>?_) λl m c2=>?_⟩
    .
     have ht:=Yb.mp ht;walk_at"qn";refine⟨R,ws.length,b,t,lt,rfl,hR,ht,?_⟩;walk_at"w";have la:=PR R w.top ws b t;unfold Vs at la;rw[d7 lt]at la;cases eo:(b7 R.n R.asks[ws.length] t == b)
     . rw[eo]at la;simp only[YL,ZH]at la ⊢;rw[la]at hQ;exact hQ
     . rw[eo]at la;simp only[Zh]at la ⊢;refine⟨_,iE lt,?_⟩;rw[la]at hQ;walk_at"w";exact hQ
    rw[Yk,show((List.range R.n).map λt=>D.int (VE R w.top (ws++[b]) t))=fE R.n (VE R w.top (ws++[b]))from rfl];walk_at"w";refine⟨xp,λa1=>⟨X0 (show ws.length+1<=8 by omega) xp,λa2=>?_⟩⟩;refine⟨R,w,ws++[b],by rw[ph,Yq];rfl,hR,by simp;omega,by simp;omega,h7,λws' hl hk'=>?_,λT ht hz=>?_⟩
    . have e2:=hk ws' hl hk';walk_at"w";refine⟨xw,xw,hrt _ _ ⟨_,ao (ao (ao (ao (ao (ao aQ))))),e2⟩⟩
    . have e2:=hnx T ht hz;walk_at"w";refine⟨xx,xw,?_⟩;rw[if_neg (by decide)];exact⟨Yc htl xp,e2 _ _⟩
   rw[eX];refine turn true .un .un .un [] _ xp (λr ρ' h=>h) λT1 t1 z1 x10 x11=>?_;dsimp only;rw[eX];refine turn false .un x10 x11 [VF T1] _ (XZ 1) (λr ρ' h=>h) λT2 t2 z2 x10 x11=>?_;dsimp only;rw[eX];dsimp only;unfold qo;have pw:2^(R.asks.length-ws.length+1)=2*2^(R.asks.length-(ws.length+1)+1):=by rw[show R.asks.length-ws.length+1=R.asks.length-(ws.length+1)+1+1 by omega,Nat.pow_succ];omega
   rw[Yw,Y9]at z1 z2;have sz:(Tr.split ws.length T1 T2).size=T1.size+T2.size+1:=rfl;have e2:=hT (.split ws.length T1 T2) ⟨by rw[wM hw];exact lt,by rw[wN,dif_neg (Y1 _)],by rw[CF lt];exact t1,by rw[CF lt];exact t2⟩ (by rw[sz,pw];omega);rw[VF]at e2;walk_at"w";exact⟨xp,xp,_,ao (ao (ao (ao (ao (ao aQ))))),e2⟩
def j8:FS:=λls kz=>∃(R:aD)(q:Rat)(u:Int),ls=[.d (aX R),.d (.tup [.int u,.lst (fE R.asks.length (wI R q)),.lst (fE R.n (Vz R q))])]/\R.Ok/\∀c,kz (.own c (A6 R q)) ls
def nV:W L:=(lg (ar (ak 0) (ar (ay dF (ak 1) (EJ (ba (aJ cI (ar (ak 0) (ar (ay aI (ak 2) (wC (.int 1))) (ar (ay aI (ak 2) (wC (.int 2))) aH))))) (ak 3) (wC (.int 0)))) aH)))
def nW:W Fl:=(rG (HI 3 (bK 2 [4,5] (oU (fY 3 (D9 3 (UE vW (wC (.int 1)))) (ay aI (ak 3) (UE vW (wC (.int 1)))))) (dO [0,1]) bW nV)))
def nX:W L:=(lg (ar (ak 0) (ar (bp (ay bO (ay aI (ak 1) (ay aI (ak 0) (wC (.int 0)))) (ay aI (ak 1) (ay aI (ak 0) (wC (.int 1)))))) aH)))
def mL:W Fl:=(aZ (bA 2 (ay aI (ak 1) (wC (.int 2))))
  (aZ (bA 3 (vg (ar (bp (bK 1 [2] (oU (aJ iX (ar (ak 0) aH))) (aR 0) bW nX)) aH)))
  (aZ (yy (Mz (IS (ar (ay aI (ak 0) (wC (.int 1))) (ar (ay aI (ak 1) (wC (.int 1))) aH)))) (dO [4,5]) nW)
  (bF (jt 3)))))
theorem Hl(R:aD)(q:Rat):o5 (R.asks.map d6) (fE R.asks.length (wI R q))=(List.range R.asks.length).map λi=>D.tup [d6 (aB R i),.int (wI R q i)]:=by
 unfold o5 fE;refine YH x_ λj h1 h2=>?_;have hj:j<R.asks.length:=by simpa using h2
 simp[d7 hj]
theorem Qq{n:Nat}{pre suf:List Nat}{a:Nat}(h:(List.range n).reverse=pre++a::suf):pre.length<n/\a=n-1-pre.length:=by
 have hl:pre.length<n:=by have:=Zy List.length h;simp at this;omega
 refine⟨hl,?_⟩;have e:(List.range n).reverse[pre.length]?=some a:=by rw[h];simp
 rw[List.getElem?_reverse (by simpa using hl),Yn (by simp;omega)]at e;simp at e;omega
theorem xy:aaF 2 4 j8 mL:=by
 rintro ls kz - ⟨R,q,u,rfl,hR,h⟩;have few:=hR.few;have hi:=hR.hi;have cl:=Cv hi;walk_at"mL";refine⟨R,rfl,hR,λc1=>?_⟩;walk_at"w";refine⟨X0 cl xp,bc (enc:=ig) (h:=λc=>D.tup [ig c,.int (wO R q R.asks.length c)]) _ _ _ (λc hc Q hQ=>?_) λl c2=>?_⟩
 .
  have ic:=kN.mp hc;have c1':c.1<R.n:=by have:=ic.1;have:=ic.2;omega
  walk_at"nX";refine⟨_,iE c1',_,iE ic.2,?_⟩;walk_at"w";have e:wO R q R.asks.length c=Vz R q c.1+Vz R q c.2:=by unfold wO;omega
  rw[e]at hQ;exact⟨xp,hQ⟩
 rw[Yk];walk_at"w";refine⟨xp,λc3=>?_⟩;rw[Hl];refine⟨by rw[tv,X6];exact X0 few xp,λc4=>?_⟩;rw[<- List.map_reverse];refine e8 (enc:=λi=>D.tup [d6 (aB R i),.int (wI R q i)]) (List.range R.asks.length).reverse (λpre ρ=>∃x4 x5,ρ=[.d (aX R),.d (.tup [.int u,.lst (fE R.asks.length (wI R q)),.lst (fE R.n (Vz R q))]),.d (.lst (fE R.n (Vz R q))),.own c3 ((List.range (pre.length+1)).map λj=>DE R q (R.asks.length-j)),x4,x5]) _ ⟨_,_,by rfl⟩ ?_ ?_
 .
  rintro pre a suf ρ hsp ⟨x4,x5,rfl⟩ Q h1 h2 h3 h4;obtain⟨pl,ea⟩:=Qq hsp;have el:((List.range (pre.length+1)).map λj=>DE R q (R.asks.length-j)).length=pre.length+1:=by simp
  have at1:Ud ((List.range (pre.length+1)).map λj=>DE R q (R.asks.length-j)) (-1)=some (DE R q (R.asks.length-pre.length)):=by
   have ix:Uc (pre.length+1) (-1)=some pre.length:=by
    unfold Uc;rw[if_neg (by decide),if_pos (by omega)]
    congr 1
    omega
   unfold Ud;rw[el,ix];show((List.range (pre.length+1)).map λj=>DE R q (R.asks.length-j))[pre.length]?=_;rw[X1,Yn xL];rfl
  have ek:R.asks.length-pre.length=a+1:=by omega
  rw[ek]at at1;walk_at"nW";refine⟨_,at1,?_⟩;rw[show DE R q (a+1)=.lst ((jD R.n).map λc=>D.tup [ig c,.int (wO R q (a+1) c)])from rfl];walk_at"w";refine⟨X0 cl xp,fB (e1:=ig) (e2:=λc=>.int (wO R q (a+1) c)) (h:=λc=>D.tup [ig c,.int (wO R q a c)]) _ _ _ _ (λc hc Q hQ=>?_) λl m c5=>?_⟩
  .
   walk_at"nV";refine⟨c,(aB R a).one,(aB R a).other,rfl,?_⟩;walk_at"w";have st:=JT (R:=R) (q:=q) (k:=a) c;unfold gA at st;cases ap:apart c (aB R a).one (aB R a).other
   . rw[ap]at st;simp only[YL,ZH]at st ⊢;rw[st];exact⟨xp,hQ⟩
   . rw[ap]at st;simp only[Zh]at st ⊢;rw[st];exact⟨xp,hQ⟩
  rw[Yk];walk_at"w";refine⟨by rw[X6];exact XX (show pre.length+1<99 by omega) xp,?_⟩
  have er:((List.range (pre.length+1)).map λj=>DE R q (R.asks.length-j))++[D.lst ((jD R.n).map λc=>D.tup [ig c,.int (wO R q a c)])]=(List.range ((pre++[a]).length+1)).map λj=>DE R q (R.asks.length-j):=by
   rw[Yw,Y9,List.range_succ (n:=pre.length+1),Yq]
   congr 1
   rw[List.map_singleton,show R.asks.length-(pre.length+1)=a by omega];rfl
  rw[er];exact h1 _ ⟨_,_,rfl⟩
 . rintro ρ ⟨x4,x5,rfl⟩;walk_at"w";rw[aan,X6];exact⟨_,ao (ao aQ),h c3⟩
def mM:FS:=λls kz=>∃(R:aD)(w:yc),ls=[.d (aX R),.d (pj w)]/\R.Ok/\RB 1750 w.top/\R.asks.length<=7 /\
 (∀ ws:List Bool,ws.length=R.asks.length->p9 R w ws->kz (.d (.tup [.str "ways",ph ws])) ls)/\∀ T:Tr,T.Ok R w (List.replicate R.asks.length none)->T.size<=255->(∀ ws:List Bool,ws.length=R.asks.length->¬ p9 R w ws)->kz (.d (.tup [.str "none",VF T])) ls
def qu:W L:=(wC (.int 0))
def pS:W Fl:=(aZ (UF (ba (ay EN (a8 cn (ar (ay aI (ak 0) (wC (.int 1))) aH)) (wC (.int 7)))) vf ck)
  (aZ (bA 2 (bp (aJ k6 (ar (ak 0) (ar (ay aI (ak 1) (wC (.int 0))) aH)))))
  (bF (aJ t7 (ar (ak 0) (ar (ak 1) (ar (ay aI (ak 2) (wC (.int 1))) (ar (bp (aJ j8 (ar (ak 0) (ar (ak 2) aH)))) (ar (bp (vg aH)) (ar (bp (bK 1 [] (oU (ay aI (ak 0) (wC (.int 0)))) (aR 0) bW qu)) aH))))))))))
theorem Qr(R:aD)(q:Rat):(R.rooms.map λ_=>D.int 0)=fE R.n (VE R q []):=by unfold fE;refine YH (by simp[aD.n]) λj h1 h2=>?_;simp[VE,ij]
theorem Hm{n:Nat}{ws:List Bool}(h:ws.length=n):N8 (ju n []) ws:=by refine⟨by rw[wM (YO _)];exact h,λi b e=>?_⟩;rw[wN,dif_neg (by simp)]at e;cases e
theorem zK:aaF 2 1 mM pS:=by
 rintro ls kz - ⟨R,w,rfl,hR,hq,h7,hk,hT⟩;have hi:=hR.hi;walk_at"pS";rw[if_neg (by omega)];walk_at"pj";refine⟨R,w.top,rfl,hR,hq,?_⟩;walk_at"w";refine⟨R,w.top,_,rfl,hR,λc1=>?_⟩;walk_at"w";refine⟨xp,λc2=>⟨X0 hi xp,?_⟩⟩;refine bc (h:=λ_=>D.int 0) _ _ _ (λa hm Q hQ=>?_) λl' c3=>?_
 . walk_at"qu";exact hQ
 rw[Yk,Qr R w.top];have pw:2^(R.asks.length-([]:List Bool).length+1)<=2^8:=X9 xp (by simp;omega);refine⟨R,w,[],rfl,hR,YO _,by simp;omega,h7,λws hl k=>?_,λT ht hz=>?_⟩
 . exact⟨_,ao (ao aQ),hk ws hl k⟩
 . exact⟨_,ao (ao aQ),hT T ht (Nat.le_of_succ_le_succ (X0 hz pw)) λws hl=>sG hR T _ ws (wM (YO _)) ht (Hm hl)⟩
def eR:FS:=λls kz=>∃(R:aD)(q:Rat),ls=[.d (aX R),.d (UV q)]/\R.Ok/\kz (.d (pj (kP R q))) ls
def ia:W L:=(wC .non)
def fO:W Fl:=(bF (lg (ar (ak 1) (ar (wC (.bl true)) (ar (bp (bK 1 [] (oU (ay aI (ak 0) (wC (.int 1)))) (aR 0) bW ia)) (ar (wC (.int 0)) aH))))))
theorem NZ(as:List Vo):(as.map λ_=>D.non)=(List.replicate as.length none).map CC:=by rw[List.map_replicate];exact List.map_const' ..
theorem pT:aaF 2 0 eR fO:=by
 rintro ls kz - ⟨R,q,rfl,hR,h⟩;walk_at"fO";refine⟨X0 hR.few xp,bc (enc:=d6) (h:=λ_=>D.non) R.asks _ _ (λa ha Q hQ=>?_) λl c=>?_⟩
 . walk_at"ia";exact hQ
 rw[Yk,NZ];walk_at"w";exact⟨xp,_,ao (ao aQ),h⟩
def j9:FS:=λls kz=>∃(R:aD),ls=[.d (aX R)]/\R.Ok/\SB R/\R.asks.length<=7/\∀(ws:List Bool)(T:Tr),uI R ws->T.Ok R (kP R (eU R ws)) (List.replicate R.asks.length none)->T.size<=255->kz (.d (.tup [UV (eU R ws),ph ws,VF T])) ls
def nY:W Fl:=(aZ (bA 2 (bp (aJ t5 (ar (ak 0) (ar (ak 1) aH)))))
  (aZ (bA 3 (bp (aJ mM (ar (ak 0) (ar (bp (aJ eR (ar (ak 0) (ar (ak 2) aH)))) aH)))))
  (aZ (UF (ba (ay p6 (ay aI (ak 3) (wC (.int 0))) (wC (.str "none")))) (bF (lg (ar (ak 2) (ar (ak 1) (ar (ay aI (ak 3) (wC (.int 1))) aH))))) ck)
  (bA 1 (ay aI (ak 3) (wC (.int 1)))))))
def nZ:W L:=(wC (.str "on"))
def mN:W Fl:=(aZ (bA 1 (bK 1 [] (oU (ay aI (ak 0) (wC (.int 1)))) (aR 0) bW nZ))
  (yv (ba (wC (.bl true))) nY))
theorem Qs(as:List Vo):(as.map λ_=>D.str "on")=(List.replicate as.length true).map λw=>D.str (oV w):=by rw[List.map_replicate];exact List.map_const' ..
theorem xA:aaF 1 3 j9 mN:=by
 rintro ls kz - ⟨R,rfl,hR,hT,h7,h⟩;walk_at"mN";refine⟨X0 hR.few xp,bc (enc:=d6) (h:=λ_=>D.str "on") R.asks _ _ (λa ha Q hQ=>?_) λl c=>?_⟩
 . walk_at"nZ";exact hQ
 rw[Yk,Qs];walk_at"w";refine⟨λn ρ=>∃(ws:List Bool)(x1 x2 x3:L),ρ=[.d (aX R),x1,x2,x3]/\(x1=.d (ph ws)∨∃c,x1=.own c (ws.map λw=>D.str (oV w)))/\ws.length=R.asks.length/\n=Nk R ws,⟨_,List.replicate R.asks.length true,_,_,_,rfl,.inr ⟨_,rfl⟩,x_,rfl⟩,?_⟩;rintro n ρ ⟨ws,x1,x2,x3,rfl,hx,hw,rfl⟩;walk_at"w";unfold nY;have tb:=(wV hR hT ws).mono (show 1421<=1750 by decide)
 have none:∀T:Tr,T.Ok R (kP R (eU R ws)) (List.replicate R.asks.length none)->T.size<=255->(∀vs:List Bool,vs.length=R.asks.length->¬p9 R (kP R (eU R ws)) vs)->kz (.d (.tup [UV (eU R ws),ph ws,VF T])) [.d (aX R)]:=λT ht hz hn=>h ws T ⟨hw,λvs hv=>by
  have h1:=hn vs hv;have h2:¬eU R vs<eU R ws:=λz=>h1 (DH hR rfl z (by rw[kP,GH];exact XZ 0))
  grind⟩ ht hz
 rcases hx with rfl|⟨c2,rfl⟩
 all_goals
  walk_at"w";refine⟨R,ws,rfl,hR,hT,hw,?_⟩;walk_at"w";refine⟨R,eU R ws,rfl,hR,?_⟩;walk_at"w";refine⟨R,kP R (eU R ws),rfl,hR,tb,h7,λvs hv hk=>?_,λT ht hz hn=>?_⟩
  . have lt:eU R vs<eU R ws:=DG hR rfl hk;walk_at"w";refine⟨xw,xx,?_⟩;rw[if_neg (by decide)];exact⟨_,Nl hv lt,vs,_,_,_,rfl,.inl rfl,hv,rfl⟩
  . have e2:=none T ht hz hn;walk_at"w";exact⟨xx,xx,xp,_,ao aQ,e2⟩
def fP:FS:=λls kz=>∃(R:aD)(k:Nat)(w:Nat->Int)(c:Nat×Nat),ls=[.d (aX R),.d (.int k),.d (.lst (fE R.asks.length w)),.d (ig c)]/\R.Ok/\k<R.asks.length/\hC R.n c/\kz (.d (.int (dI R w (k+1) c.1 c.2))) ls
def jo:W L:=(ay aI (ak 1) (ak 0))
def gS:W Fl:=(aZ (bA 4 (ay aI (ak 0) (wC (.int 1))))
  (bF (a8 Pa (ar (bp (bK 1 [2,3,4] (Ij (ay bO (ak 1) (wC (.int 1))) (a8 cn (ar (ak 4) aH))) (aR 0) (ba (aJ cI (ar (ak 2) (ar (ay aI (ay aI (ak 3) (ak 0)) (wC (.int 1))) (ar (ay aI (ay aI (ak 3) (ak 0)) (wC (.int 2))) aH))))) jo)) aH))))
theorem qO:aaF 4 1 fP gS:=by
 rintro ls kz - ⟨R,k,w,c,rfl,hR,hk,hc,h⟩;have hfew:=hR.few;walk_at"gS";have el:((R.asks.length:Int)-((k:Int)+1)).toNat=R.asks.length-(k+1):=by omega
 rw[el]
 have er:vh ((k:Int)+1) (R.asks.length-(k+1))=(List.range (R.asks.length-(k+1))).map λ(i:Nat)=>D.int ((k+1+i:Nat):Int):=by
  unfold vh;refine Yu λi _=>?_
  congr 1
 rw[er];refine⟨⟨xL,xL⟩,⟨xL,xL⟩,by rw[tv,X6];exact X0 (show _<=20 by omega) xp,?_⟩
 refine fA (h:=λi=>if apart c (aB R (k+1+i)).one (aB R (k+1+i)).other=true then some (D.int (w (k+1+i)))else none) _ _ _ (λi hi Q q=>?_) λl' cc=>?_
 .
  have hi:k+1+i<R.asks.length:=by have:=Yb.mp hi;omega
  walk_at"jo";refine⟨_,cf hi,?_⟩;walk_at"w";refine⟨_,cf hi,?_⟩;walk_at"w";refine⟨c,_,_,rfl,?_⟩;rw[d7 hi]at q;cases e:apart c R.asks[k+1+i].one R.asks[k+1+i].other
  . rw[e]at q;walk_at"w";exact q
  . rw[e]at q;walk_at"w";exact⟨_,iE hi,q⟩
 .
  walk_at"w";rw[iF (λi=>apart c (aB R (k+1+i)).one (aB R (k+1+i)).other) (λi=>w (k+1+i))];refine⟨_,rfl,?_⟩;rw[sD]
  have e:dI R w (k+1) c.1 c.2=((List.range (R.asks.length-(k+1))).map λi=>if apart c (aB R (k+1+i)).one (aB R (k+1+i)).other=true then w (k+1+i)else 0).sum:=by
   unfold dI
   congr 1
   refine Yu λi hi=>?_;have hi:k+1+i<R.asks.length:=by have:=Yb.mp hi;omega
   rw[jF (gi hR hi) hc];rfl
  rw[<- e];exact⟨_,ao (ao (ao (ao aQ))),h⟩
def pU:FS:=λls kz=>∃(R:aD)(k:Nat)(w f:Nat->Int),ls=[.d (aX R),.d (.int k),.d (.lst (fE R.asks.length w)),.d (.lst (fE R.n f))]/\R.Ok/\k<R.asks.length/\cy (w k)/\kz (.d (.int (M6 R w f k))) ls
def t8:W Fl:=(bA 5 (bp (a8 ET (ar (ak 5) (ar (ay dF (ay bO (ay aI (ak 3) (ak 6)) (ay aI (ak 3) (ak 7))) (aJ fP (ar (ak 0) (ar (ak 1) (ar (ak 2) (ar (lg (ar (ak 6) (ar (ak 7) aH))) aH)))))) aH)))))
def t9:W Fl:=(UF (ba (ay LJ (ak 6) (ak 7))) t8 ck)
def ua:W Fl:=(yy (oU (ak 4)) (aR 7) t9)
def ub:W Fl:=(aZ (bA 4 (bp (a8 B8 (ar (bp (aJ pN (ar (ak 0) (ar (ak 1) (ar (wC (.str "on")) aH))))) aH))))
  (aZ (bA 5 (bp (ay bD (wC (.int 2)) (ay aI (ak 2) (ak 1)))))
  (aZ (yy (oU (ak 4)) (aR 6) ua)
  (bF (ay oX (ak 5) (wC (.int 2)))))))
theorem By:aaF 4 4 pU ub:=by
 rintro ls kz - ⟨R,k,w,f,rfl,hR,hk,hb,h⟩;have hhi:=hR.hi;walk_at"ub";refine⟨R,k,true,hk,rfl,hR,λc=>?_⟩;walk_at"w";have hwl:=MU (hR.ask _ (X8 hk)) true;refine⟨(Ai R.n R.asks[k] true).map λ(t:Nat)=>(t:Int),by rw[Yd];rfl,by rw[tv];omega,λc2=>?_⟩;rw[<- d7 hk,JF,Yd];have eT:(Vu R k).map (D.int ∘ λ(t:Nat)=>(t:Int))=(Vu R k).map λ(t:Nat)=>D.int (t:Int):=rfl;rw[eT];walk_at"w";refine⟨_,iE hk,bG xp,hb,?_⟩;have hT:∀t∈Vu R k,t<R.n:=λt ht=>((M5 hR hk).mp ht).1;refine e8 (enc:=λ(t:Nat)=>D.int (t:Int)) (Vu R k) (λpre ρ=>∃x6 x7,ρ=[.d (aX R),.d (.int k),.d (.lst (fE R.asks.length w)),.d (.lst (fE R.n f)),.d (.lst ((Vu R k).map λ(t:Nat)=>D.int (t:Int))),.d (.int (nF R w f k pre)),x6,x7]) _ ⟨_,_,rfl⟩ ?_ ?_
 .
  rintro pre g suf ρ hsp ⟨x6,x7,rfl⟩ Q h1 h2 h3 h4;have hg:g<R.n:=hT g (by rw[hsp];simp);have e1:nF R w f k (pre++[g])=sx R w f k (nF R w f k pre) g (Vu R k):=by unfold nF;rw[aaf];rfl
  rw[e1]at h1;walk_at"ua";refine e8 (enc:=λ(t:Nat)=>D.int (t:Int)) (Vu R k) (λpre2 ρ=>∃x7,ρ=[.d (aX R),.d (.int k),.d (.lst (fE R.asks.length w)),.d (.lst (fE R.n f)),.d (.lst ((Vu R k).map λ(t:Nat)=>D.int (t:Int))),.d (.int (sx R w f k (nF R w f k pre) g pre2)),.d (.int g),x7]) _ ⟨_,rfl⟩ ?_ ?_
  .
   rintro pre2 t suf2 ρ hsp2 ⟨x7,rfl⟩ Q2 g1 g2 g3 g4;have ht:t<R.n:=hT t (by rw[hsp2];simp)
   have e2:sx R w f k (nF R w f k pre) g (pre2++[t])=if decide (g<=t)then Vt (sx R w f k (nF R w f k pre) g pre2) (R4 R w f k g t)else sx R w f k (nF R w f k pre) g pre2:=by unfold sx;rw[aaf];rfl
   rw[e2]at g1;walk_at"t9";by_cases hgt:g<=t
   .
    have hgt':(g:Int)<=(t:Int):=by omega
    simp only[hgt,hgt',decide_true,Zh]at g1 ⊢;walk_at"t8";refine⟨_,iE hg,_,iE ht,?_⟩;walk_at"w";refine⟨xp,R,k,w,(g,t),rfl,hR,hk,⟨hgt,ht⟩,?_⟩;walk_at"w";exact g1 _ ⟨_,rfl⟩
   .
    have hgt':¬(g:Int)<=(t:Int):=by omega
    simp only[hgt,hgt',decide_false,ZH,YL]at g1 ⊢;exact g1 _ ⟨_,rfl⟩
  . rintro ρ ⟨x7,rfl⟩;exact h1 _ ⟨_,_,rfl⟩
 . rintro ρ ⟨x6,x7,rfl⟩;walk_at"w";exact⟨xp,y_,_,ao (ao (ao (ao aQ))),h⟩
def ka:FS:=λls kz=>∃(R:aD)(k:Nat)(w f:Nat->Int)(p:Int),ls=[.d (aX R),.d (.int k),.d (.lst (fE R.n f)),.d (.int p),.d (.int (w k-p))]/\R.Ok/\k<R.asks.length/\∀c,kz (.own c (fE R.n (JE R w f k p))) ls
def n4:W L:=(ay dF (ak 1) (EJ (ba (aJ hX (ar (ak 2) (ar (ak 3) (ar (wC (.str "on")) (ar (ak 0) aH)))))) (ak 4) (ak 5)))
def mO:W Fl:=(bF (bK 2 [0,1,3,4] (wa (ak 2)) (dO [0,1]) bW n4))
theorem Lc(n:Nat)(f:Nat->Int):eZ (fE n f)=(List.range n).map λ(t:Nat)=>D.tup [.int (t:Int),.int (f t)]:=by
 refine List.ext_getElem? λj=>?_;unfold eZ fE;by_cases hj:j<n
 . simp[Yn,hj]
 . simp[hj]
theorem xB:aaF 5 0 ka mO:=by
 rintro ls kz - ⟨R,k,w,f,p,rfl,hR,hk,h⟩;have hhi:=hR.hi;walk_at"mO";rw[Lc];refine⟨by rw[tv,X6];exact X0 hhi xp,?_⟩;refine fB (h:=λt=>D.int (JE R w f k p t)) (List.range R.n) _ _ _ (λt ht Q hQ=>?_) λl' m' c=>?_
 .
  have ht:=Yb.mp ht;walk_at"n4";refine⟨R,k,true,t,hk,rfl,hR,ht,?_⟩;unfold JE Vs at hQ;rw[d7 hk]at hQ;cases e:b7 R.n R.asks[k] t
  . rw[e]at hQ;walk_at"w";exact hQ
  . rw[e]at hQ;walk_at"w";exact hQ
 . walk_at"w";exact⟨_,ao (ao (ao (ao (ao aQ)))),h c⟩
def dD:FS:=λls kz=>∃(R:aD)(q:Rat),ls=[.d (aX R),.d (UV q)]/\R.Ok/\RB 1750 q/\∀c,kz (.own c ((M8 R q).map UV)) ls
def fQ:W Fl:=(aZ (bA 8 (bp (aJ pU (ar (ak 0) (ar (ak 6) (ar (ak 3) (ar (ak 4) aH)))))))
  (aZ (bA 4 (bp (aJ ka (ar (ak 0) (ar (ak 6) (ar (ak 4) (ar (ak 8) (ar (ay dF (ak 7) (ak 8)) aH))))))))
  (rG (HI 5 (aJ xi (ar (ak 8) (ar (ay aI (ak 2) (wC (.int 0))) aH)))))))
def dY:W Fl:=(aZ (bA 2 (bp (aJ k6 (ar (ak 0) (ar (ak 1) aH)))))
  (aZ (bA 3 (ay aI (ak 2) (wC (.int 1))))
  (aZ (bA 4 (ay aI (ak 2) (wC (.int 2))))
  (aZ (bA 5 (vg aH))
  (aZ (yy (wa (ak 3)) (dO [6,7]) fQ)
  (bF (jt 5)))))))
theorem Hn{m k:Nat}{pre suf:List Nat}(h:List.range m=pre++k::suf):pre=List.range k/\k<m:=by
 have h1:(List.range m)[pre.length]?=some k:=by rw[h];simp
 have hl:pre.length<m:=by have:=Zy List.length h;simp at this;omega
 rw[Yn hl]at h1;have h1:pre.length=k:=by simpa using h1
 refine⟨?_,xL⟩;have h2:(List.range m).take pre.length=pre:=by rw[h];simp
 rw[<- h2,List.take_range,h1]
 congr 1
 omega
theorem Qt{R:aD}(hR:R.Ok){q:Rat}(hq:RB 1750 q){k:Nat}(hk:k<R.asks.length):cy (wI R q k):=by exact ny (n:=4252) (Ro hR hq hk) xp
theorem mP:aaF 2 7 dD dY:=by
 rintro ls kz - ⟨R,q,rfl,hR,hq,h⟩;have hfew:=hR.few;obtain⟨u0,u1⟩:=wG hR hq;walk_at"dY";refine⟨R,q,rfl,hR,hq,?_⟩;walk_at"w";refine⟨xp,λc=>?_⟩;rw[Lc];refine e8 (enc:=λ(t:Nat)=>D.tup [.int (t:Int),.int (wI R q t)]) (List.range R.asks.length) (λpre ρ=>∃x6 x7 x8,ρ=[.d (aX R),.d (UV q),.d (.tup [.int (bU R q),.lst (fE R.asks.length (wI R q)),.lst (fE R.n (Vz R q))]),.d (.lst (fE R.asks.length (wI R q))),.d (.lst (fE R.n (Vv R (wI R q) (Vz R q) pre.length))),.own c ((pre.map (PJ R q)).map UV),x6,x7,x8]) _ ⟨_,_,_,rfl⟩ ?_ ?_
 .
  rintro pre k suf ρ hsp ⟨x6,x7,x8,rfl⟩ Q h1 h2 h3 h4;obtain⟨ep,hk⟩:=Hn hsp;have el:pre.length=k:=by rw[ep,X6]
  have e1:(pre++[k]).length=k+1:=by rw[Yw,el];rfl
  rw[e1,Yq,Yq]at h1;rw[el];walk_at"fQ";refine⟨R,k,wI R q,_,rfl,hR,hk,Qt hR hq hk,?_⟩;walk_at"w";refine⟨R,k,wI R q,_,_,rfl,hR,hk,λc2=>?_⟩;walk_at"w";refine⟨_,_,rfl,xL,?_,?_⟩
  . rw[Yh];exact XX u1 (X9 xp xp)
  walk_at"w";refine⟨XX (show _<21 by rw[el];omega) xp,?_⟩;exact h1 _ ⟨_,_,_,rfl⟩
 . rintro ρ ⟨x6,x7,x8,rfl⟩;walk_at"w";exact⟨_,ao (ao aQ),h c⟩
def kb:FS:=λls kz=>∃(R:aD),ls=[.d (aX R)]/\R.Ok/\∀c,kz (.bx none [.d (UV (eL R).1),.own c ((M8 R (eL R).1).map UV),.d (ig (eL R).2)]) ls
def mQ:W Fl:=(aZ (bA 1 (bp (aJ fL (ar (ak 0) aH))))
  (bF (yM (ar (ay aI (ak 1) (wC (.int 0))) (ar (aJ dD (ar (ak 0) (ar (ay aI (ak 1) (wC (.int 0))) aH))) (ar (ay aI (ak 1) (wC (.int 1))) aH))))))
theorem xC:aaF 1 1 kb mQ:=by rintro ls kz - ⟨R,rfl,hR,h⟩;walk_at"mQ";refine⟨R,rfl,hR,?_⟩;walk_at"w";refine⟨R,_,rfl,hR,(Gp hR).mono xp,λc=>?_⟩;walk_at"w";exact⟨xp,_,ao aQ,h c⟩
def kc:FS:=λls kz=>∃(R:aD)(t:Nat),ls=[.d (aX R),.d (.int t)]/\Rp R/\t<R.n/\R.n≠12/\kz (.d (aX (wW R t))) ls
def n5:W L:=(EJ (ba (ay EN (ak 0) (ak 1))) (ay bO (ak 0) (wC (.int 1))) (ak 0))
def mR:W Fl:=(aZ (bA 2 (ay aI (ak 0) (wC (.int 0))))
  (aZ (UF (ba (ay OQ (a8 cn (ar (ak 2) aH)) (wC (.int 12)))) vf ck)
  (aZ (QF 3 (bA 3 (bK 1 [1] (iu (a8 cn (ar (ak 2) aH))) (aR 0) bW n5)))
  (bF (lg (ar (bp (ay bO (Ag (ak 2) none (some (ay bO (ak 1) (wC (.int 1))))) (Ag (ak 2) (some (ak 1)) none))) (ar (bp (aJ cL (ar (ay aI (ak 0) (wC (.int 1))) (ar (ak 3) aH)))) aH)))))))
theorem xD:aaF 2 2 kc mR:=by
 rintro ls kz - ⟨R,t,rfl,hR,ht,h12,h⟩;have hlo:=hR.lo;have hhi:=hR.hi;have hfew:=hR.few;have ht':t<R.rooms.length:=ht;walk_at"mR";rw[if_neg (by omega)];rw[Yx,cg];refine⟨⟨xL,xL⟩,by simp only[tv,X6];exact cz xL,bc (h:=λi=>.int (VI t i:Nat)) (List.range R.n) [] _ (λi hm Q hq=>?_) λl'' a1=>?_⟩
 .
  unfold n5;unfold VI at hq;walk_at"w";by_cases hip:t<i
  . rw[if_pos (by omega)];rw[if_pos hip]at hq;rw[show(i:Int)+1=((i+1:Nat):Int) by omega];exact hq
  . rw[if_neg (by omega)];rw[if_neg hip]at hq;exact hq
 .
  rw[Yk];walk_at"w";rw[show(t:Int)+1=((t+1:Nat):Int) by omega,nC,nC,KR (show t+1<=R.rooms.length by omega),Cn (show t<=R.rooms.length by omega)];refine λ_ _=>⟨cz ?_,λa=>?_⟩
  . simp only[tv,YK,YS];have:R.rooms.length=R.n:=rfl;omega
  . refine⟨R.asks,R.n,VI t,rfl,hfew,λa ha=>⟨(hR.ask a ha).1,(hR.ask a ha).2.1⟩,λb=>⟨xp,_,ao (ao aQ),?_⟩⟩;unfold wW QK aX at h;simp only[Yq]at h;exact h
def fR:FS:=λls kz=>∃(rs:List Rat)(p:Nat),ls=[.d (.lst (rs.map UV)),.d (.int p)]/\2<=rs.length/\rs.length<=12/\p<rs.length/\(∀q∈rs,RB 80 q)/\∀b,kz (.own b ((uJ rs p).map UV)) ls
def gT:W Fl:=(aZ (bA 2 (bp (aJ td (ar (ay aI (ak 0) (ay dF (ak 1) (wC (.int 1)))) (ar (ay aI (ak 0) (ak 1)) aH)))))
  (aZ (UF (ba (ay p6 (ak 1) (wC (.int 0)))) (bF (ay bO (Ag (ak 0) (some (wC (.int 1))) (some (UE vW (wC (.int 1))))) (vg (ar (ak 2) aH)))) ck)
  (bF (ay bO (ay bO (Ag (ak 0) none (some (ay dF (ak 1) (wC (.int 1))))) (vg (ar (ak 2) aH))) (Ag (ak 0) (some (ay bO (ak 1) (wC (.int 1)))) none)))))
theorem qP:aaF 2 1 fR gT:=by
 rintro ls kz - ⟨rs,p,rfl,h2,h12,hp,hr,h⟩;unfold gT;have hb:rh rs.length p<rs.length:=by unfold rh;split<;>omega
 have g1:RB 80 (rs.getD (rh rs.length p) 0):=hr _ (by rw[k4,gV hb];exact X8 _);have g2:RB 80 (rs.getD p 0):=hr _ (by rw[k4,gV hp];exact X8 _);walk_at"w";refine⟨_,PV hp,_,Rq hp,_,_,rfl,g1.mono xp,g2.mono xp,?_⟩;walk_at"w"
 have hless:(if rs.getD p 0<rs.getD (rh rs.length p) 0 then rs.getD p 0 else rs.getD (rh rs.length p) 0)=vA rs p:=rfl
 by_cases h0:p=0
 .
  subst h0;rw[if_pos (by rfl)];walk_at"w";rw[nC,Np h2,hless];refine λ_=>⟨xp,λ_=>⟨?_,λc=>⟨_,ao (ao aQ),?_⟩⟩⟩
  . refine cz ?_;simp;omega
  . have h:=h c;unfold uJ at h;rw[if_pos rfl,Yq]at h;exact h
 .
  rw[if_neg (by omega)];walk_at"w";rw[show(p:Int)-1=((p-1:Nat):Int) by omega,show(p:Int)+1=((p+1:Nat):Int) by omega,nC,nC,KR (show p-1<=rs.length by omega),Cn (show p+1<=rs.length by omega),hless];refine λ_=>⟨xp,λ_=>⟨cz ?_,λ_ _=>⟨cz ?_,λc=>⟨_,ao (ao aQ),?_⟩⟩⟩⟩
  . simp;omega
  . simp;omega
  . have h:=h c;unfold uJ at h;rw[if_neg h0,Yq,Yq]at h;exact h
def gU:FS:=λls kz=>∃(R:aD)(p:Nat),ls=[.d (aX R),.d (.int p)]/\Rp R/\p<R.n/\R.n≠2/\(∀a∈R.asks,DI a p=false)/\kz (.d (aX (eV R p))) ls
def kd:W L:=(EJ (ba (ay EN (ak 0) (ak 1))) (ay dF (ak 0) (wC (.int 1))) (ak 0))
def ke:W L:=(ay (De false) (ak 1) (Ag (ak 0) (some (wC (.int 1))) (some (wC (.int 3)))))
def i5:W Fl:=(aZ (UF (UC (ba (ay LJ (a8 cn (ar (ay aI (ak 0) (wC (.int 0))) aH)) (wC (.int 2)))) (ba (a8 Pd (ar (bp (bK 1 [1] (oU (ay aI (ak 0) (wC (.int 1)))) (aR 0) bW ke)) aH)))) vf ck)
  (aZ (QF 2 (bA 2 (bK 1 [1] (iu (a8 cn (ar (ay aI (ak 0) (wC (.int 0))) aH))) (aR 0) bW kd)))
  (bF (lg (ar (bp (aJ fR (ar (ay aI (ak 0) (wC (.int 0))) (ar (ak 1) aH)))) (ar (bp (aJ cL (ar (ay aI (ak 0) (wC (.int 1))) (ar (ak 2) aH)))) aH))))))
theorem uc:aaF 2 1 gU i5:=by
 rintro ls kz - ⟨R,p,rfl,hR,hp,h2,he',h⟩;have hlo:=hR.lo;have hhi:=hR.hi;have hfew:=hR.few;walk_at"i5";rw[if_neg (by omega)];refine⟨cz xL,bc (h:=λa=>.bl (DI a p)) R.asks [] _ (λa hm Q hq=>?_) λl' a0=>?_⟩
 . unfold ke;simp only[d6]at hq ⊢;walk_at"w";refine⟨xp,?_⟩;rw[JX];walk_at"w";refine⟨rfl,rfl,?_⟩;rw[Nn];exact hq
 .
  rw[Yk];refine⟨R.asks.map λa=>DI a p,by rw[Yd];rfl,?_⟩;walk_at"w";have he:¬ ∃a∈R.asks,DI a p=true:=fun⟨a,ha,q⟩=>by rw[he' a ha]at q;cases q
  .
   rw[if_neg (by simpa using he)];walk_at"w";rw[Yx,cg];refine⟨⟨xL,xL⟩,by simp only[tv,X6];exact cz xL,bc (h:=λi=>.int (Aj p i:Nat)) (List.range R.n) [] _ (λi hm Q hq=>?_) λl'' a1=>?_⟩
   .
    unfold kd;unfold Aj at hq;walk_at"w";by_cases hip:p<i
    . rw[if_pos (by omega)];rw[if_pos hip]at hq;rw[show(i:Int)-1=((i-1:Nat):Int) by omega];exact hq
    . rw[if_neg (by omega)];rw[if_neg hip]at hq;exact hq
   . rw[Yk];walk_at"w";refine⟨R.rooms,p,rfl,hlo,hhi,hp,hR.room,λa=>?_⟩;walk_at"w";refine⟨R.asks,R.n,Aj p,rfl,hfew,λa ha=>⟨(hR.ask a ha).1,(hR.ask a ha).2.1⟩,λb=>⟨xp,_,ao (ao aQ),h⟩⟩
def gy:FS:=λls kz=>∃(R:aD)(k:Nat),ls=[.d (aX R),.d (.int (k:Int))]/\R.Ok/\k<R.asks.length/\∀a,kz (.own a ((VO (VQ R) R.asks.length (VQ R k)).map λ(l:Nat)=>D.int (l:Int))) ls
def n6:W L:=(ak 0)
def mS:W Fl:=(aZ (bA 2 (bp (a8 AI (ar (bp (Ag (ay aI (ay aI (ak 0) (wC (.int 1))) (ak 1)) (some (wC (.int 1))) (some (wC (.int 3))))) aH))))
  (bF (bK 2 [2] (wa (ay aI (ak 0) (wC (.int 1)))) (dO [0,1]) (ba (ay p6 (a8 AI (ar (bp (Ag (ak 1) (some (wC (.int 1))) (some (wC (.int 3))))) aH)) (ak 2))) n6)))
theorem xE:aaF 2 1 gy mS:=by
 rintro ls kz - ⟨R,k,rfl,hR,hk,h⟩;walk_at"mS";refine⟨.tup [.str (aB R k).nm,.int (aB R k).one,.int (aB R k).other,UV (aB R k).size],(cf hk).trans (by rw[<- kR hk];rfl),?_⟩;walk_at"w";refine⟨xp,[((aB R k).one:Int),((aB R k).other:Int)],rfl,by show 2<64;decide,λa1=>?_⟩;rw[P0];walk_at"w";rw[show eZ (R.asks.map d6)=(List.range R.asks.length).map λ(k:Nat)=>D.tup [.int (k:Int),.tup [.str (aB R k).nm,.int (aB R k).one,.int (aB R k).other,UV (aB R k).size]]from GU R]
 refine⟨by simp only[tv,X6];exact cz (by have:=hR.few;omega),g9 (h:=λ(l:Nat)=>if VQ R l=VQ R k then some (D.int (l:Int))else none) (List.range R.asks.length) [] _ _ (λl hl Q hq=>?_) λl1 l2 a2=>?_⟩
 .
  walk_at"w";refine⟨xp,[((aB R l).one:Int),((aB R l).other:Int)],rfl,by show 2<64;decide,λa3=>?_⟩;rw[P0];walk_at"w";refine⟨zk (VQ R l),zk (VQ R k),?_⟩;rw[show UL (.lst [.int ((min (aB R l).one (aB R l).other:Nat):Int),.int ((max (aB R l).one (aB R l).other:Nat):Int)]) (.lst [.int ((min (aB R k).one (aB R k).other:Nat):Int),.int ((max (aB R k).one (aB R k).other:Nat):Int)])=decide (VQ R l=VQ R k)from Ny (VQ R l) (VQ R k)];by_cases e:VQ R l=VQ R k
  . rw[if_pos e]at hq;rw[Y6 e,if_pos rfl];walk_at"n6";exact hq
  . rw[if_neg e]at hq;rw[Yt e,if_neg (by decide)];exact hq
 . rw[Yk,zm];walk_at"w";exact⟨_,ao (ao aQ),h a2⟩
def i6:FS:=λls kz=>∃(R:aD),ls=[.d (aX R)]/\R.Ok/\∀a,kz (.own a ((dR R).map λ(l:Nat)=>D.int (l:Int))) ls
def lE:W L:=(ak 0)
def kf:W Fl:=(bF (bK 1 [0] (iu (a8 cn (ar (ay aI (ak 0) (wC (.int 1))) aH))) (aR 0) (ba (ay p6 (ay aI (aJ gy (ar (ak 1) (ar (ak 0) aH))) (wC (.int 0))) (ak 0))) lE))
theorem uT:aaF 1 0 i6 kf:=by
 rintro ls kz - ⟨R,rfl,hR,h⟩;have h20:=hR.few;walk_at"kf";refine⟨⟨xL,xL⟩,?_⟩;rw[Yx,cg]
 refine⟨by rw[tv,X6];exact cz xL,fA (h:=λ(l:Nat)=>if VP (VQ R) R.asks.length l=true then some (D.int (l:Int))else none) (List.range R.asks.length) [] _ (λl hl Q hq=>?_) λl1 a2=>?_⟩
 .
  have hl':=Yb.mp hl;walk_at"w";refine⟨R,l,rfl,hR,hl',λa3=>?_⟩;walk_at"w";have hm:l∈VO (VQ R) R.asks.length (VQ R l):=jk.mpr ⟨hl',rfl⟩
  have e0:∃x xs,VO (VQ R) R.asks.length (VQ R l)=x::xs:=by
   cases e:VO (VQ R) R.asks.length (VQ R l)with
   |nil=>rw[e]at hm;cases hm
   |cons x xs=>exact⟨x,xs,rfl⟩
  obtain⟨x,xs,e⟩:=e0;have ef:VP (VQ R) R.asks.length l=decide (x=l):=by unfold VP;rw[e];show(some x == some l)=_;by_cases z:x=l<;>simp[z]
  rw[e];refine⟨.int (x:Int),yR,?_⟩;walk_at"w";rw[ef]at hq;by_cases z:x=l
  . rw[if_pos (Y6 z)]at hq;rw[if_pos (show(x:Int)=(l:Int) by omega)];walk_at"lE";exact hq
  . rw[if_neg (by simpa using z)]at hq;rw[if_neg (show ¬(x:Int)=(l:Int) by omega)];exact hq
 .
  rw[Yk]
  have e:(List.range R.asks.length).filterMap (λ(l:Nat)=>if VP (VQ R) R.asks.length l=true then some (D.int (l:Int))else none)=(dR R).map λ(l:Nat)=>D.int (l:Int):=by unfold dR KW;rw[<- List.filterMap_eq_map,List.filterMap_filter];rfl
  rw[e];walk_at"w";exact⟨_,ao aQ,h a2⟩
def fS:FS:=λls kz=>∃(R:aD),ls=[.d (aX R)]/\R.Ok/\∀a b,kz (.bx none [.own a (R.rooms.map UV),.own b ((mj R).asks.map d6)]) ls
def jq:W L:=(ay aI (ay aI (ak 1) (ak 0)) (wC (.int 3)))
def jr:W L:=(ay yN (Ag (ay aI (ak 1) (ak 0)) none (some (wC (.int 3)))) (lg (ar (bp (aJ jQ (ar (bp (bK 1 [1] (oU (aJ gy (ar (ak 2) (ar (ak 0) aH)))) (aR 0) bW jq)) aH))) aH)))
def gW:W Fl:=(aZ (bA 1 (ay aI (ak 0) (wC (.int 1))))
  (aZ (bA 2 (bK 1 [1,0] (oU (aJ i6 (ar (ak 0) aH))) (aR 0) bW jr))
  (bF (yM (ar (a8 yA (ar (ay aI (ak 0) (wC (.int 0))) aH)) (ar (jt 2) aH))))))
theorem RR(a:Vo):rM [D.str a.nm,.int a.one,.int a.other,UV a.size] none (some 3)=[D.str a.nm,.int a.one,.int a.other]:=rfl
theorem qQ:aaF 1 2 fS gW:=by
 rintro ls kz - ⟨R,rfl,hR,h⟩;have h20:=hR.few;walk_at"gW";refine⟨R,rfl,hR,λa0=>?_⟩;walk_at"w";refine⟨cz (by have:=GR R;omega),bc (h:=λk=>d6 (DJ R k)) (dR R) [] _ (λk hk Q hq=>?_) λl1 a2=>?_⟩
 .
  have hk':=JZ hk;walk_at"jr";refine⟨.tup [.str (aB R k).nm,.int (aB R k).one,.int (aB R k).other,UV (aB R k).size],(cf hk').trans (by rw[<- kR hk'];rfl),?_⟩;walk_at"w";refine⟨xp,R,k,rfl,hR,hk',λa1=>?_⟩;walk_at"w";refine⟨cz (by have:=GP (VQ R) R.asks.length (VQ R k);omega),bc (h:=λl=>UV (R.sz l)) _ [] _ (λl hl Q hq=>?_) λl1 a2=>?_⟩
  . have hl':=(jk.mp hl).1;rw[qH hl']at hq;walk_at"jq";refine⟨_,cf hl',?_⟩;walk_at"w";exact hq
  .
   rw[Yk,show(List.map (λl=>UV (R.sz l)) (VO (VQ R) R.asks.length (VQ R k)))=((VO (VQ R) R.asks.length (VQ R k)).map R.sz).map UV by rw[Yd];rfl];walk_at"w";obtain⟨D,d0,d1,da⟩:=hR.cd;refine⟨_,_,rfl,.inl rfl,?_,λq hq=>?_,.inr ⟨D,d0,Nat.lt_trans d1 xp,λq hq=>?_⟩,?_⟩
   . rw[tv];have:=GP (VQ R) R.asks.length (VQ R k);omega
   . obtain⟨l,hl,rfl⟩:=XY.mp hq;rw[qH (jk.mp hl).1];exact(hR.rb (X8 _)).mono xp
   . obtain⟨l,hl,rfl⟩:=XY.mp hq;rw[qH (jk.mp hl).1];exact da _ (X8 _)
   . walk_at"w";rw[RR];exact⟨xp,x_,x_,by show 3+1<=sizeLine;decide,hq⟩
 . rw[Yk,show(List.map (λk=>d6 (DJ R k)) (dR R))=(mj R).asks.map d6 by unfold mj;rw[Yd];rfl];walk_at"w";exact λa=>⟨xp,_,ao aQ,h a a2⟩
def dg:FS:=λls kz=>∃R:aD,ls=[.d (aX R)]/\R.Ok/\SB R/\R.asks.length<=7/\∀(ws:List Bool)(a:Addr),uI R ws->kz (.own a [UV (eL R).1,UV (eU R ws)]) ls
def mT:W Fl:=(bF (vg (ar (ay aI (aJ kb (ar (ak 0) aH)) (wC (.int 0))) (ar (ay aI (aJ j9 (ar (ak 0) aH)) (wC (.int 0))) aH))))
theorem xF:aaF 1 0 dg mT:=by rintro ls kz - ⟨R,rfl,hR,hT,h7,h⟩;walk_at"mT";refine⟨R,rfl,hR,λc=>?_⟩;walk_at"w";refine⟨R,rfl,hR,hT,h7,λws T hb ht hs=>?_⟩;walk_at"w";exact⟨xp,λa=>⟨_,ao aQ,h ws a hb⟩⟩
def fb:FS:=λls kz=>∃p q:Rat,ls=[.d (UV p),.d (UV q)]/\RB 400000 p/\RB 400000 q/\kz (.d (.bl (decide (p<q)))) ls
def kg:W Fl:=(bF (ay D8 (ay bD (ay aI (ak 0) (wC (.int 0))) (ay aI (ak 1) (wC (.int 1)))) (ay bD (ay aI (ak 1) (wC (.int 0))) (ay aI (ak 0) (wC (.int 1))))))
theorem uU:aaF 2 0 fb kg:=by rintro ls kz - ⟨p,q,rfl,hp,hq,h⟩;walk_at"kg";refine⟨hp.bn xp,hq.bd xp,hq.bn xp,hp.bd xp,_,ao (ao aQ),?_⟩;rw[Pq];exact h
def aM:FS:=λls kz=>∃(a:Addr)(xs:List D)(m:Int),ls=[.own a xs,.d (.int m)]/\si xs/\0<m/\m<=10^60/\∀(r:Int)(ys:List D),si ys->0<=r->r<m->kz (.d (.int r)) [.own a ys,.d (.int m)]
def i7:W Fl:=(aZ (EW 0 (wC (.int 1)) (ay eA (ay bO (ay bD (fY 0 (D9 0 (wC (.int 1))) (ay aI (ak 0) (wC (.int 1)))) (wC (.int 39373))) (wC (.int 17))) (wC (.int 2147483647))))
  (bA 3 (bp (ay bO (ay bD (ak 3) (wC (.int 2147483629))) (ay eA (ay bD (fY 0 (D9 0 (wC (.int 1))) (ay aI (ak 0) (wC (.int 1)))) (fY 0 (D9 0 (wC (.int 1))) (ay aI (ak 0) (wC (.int 1))))) (wC (.int 2147483629)))))))
def mU:W Fl:=(aZ (UF (ba (fY 0 (D9 0 (wC (.int 2))) (ay aI (ak 0) (wC (.int 2))))) (aZ (bA 2 (ay eA (fY 0 (D9 0 (wC (.int 0))) (ay aI (ak 0) (wC (.int 0)))) (ak 1)))
  (aZ (EW 0 (wC (.int 0)) (ay oX (fY 0 (D9 0 (wC (.int 0))) (ay aI (ak 0) (wC (.int 0)))) (ak 1)))
  (aZ (EW 0 (wC (.int 2)) (ay EN (fY 0 (D9 0 (wC (.int 0))) (ay aI (ak 0) (wC (.int 0)))) (wC (.int 0))))
  (bF (jt 2))))) ck)
  (aZ (bA 3 (wC (.int 0)))
  (aZ (yy (iu (ay bO (wC (.int 1)) (ay bD (wC (.int 8)) (a8 EU (ar (ay EN (ak 1) (ay C8 (wC (.int 10)) (wC (.int 6)))) aH))))) (aR 4) i7)
  (bF (ay eA (ay oX (ak 3) (wC (.int 64))) (ak 1))))))
theorem zL{a:Addr}{c:Int}{m x2:L}{kz:Fl->Ev->Prop}:∀(items:List D)(sd dr:Int)(j:Nat)(x4:L),j+items.length<=100->0<=sd->sd<2147483647->0<=dr->dr<2^(40*j) ->
  (∀sd' dr' x',0<=sd'->sd' < 2147483647->0<=dr'->kz .nx [.own a [.int c,.int sd',.bl false],m,x2,.d (.int dr'),x']) ->
  eX (aR 4) i7 items [.own a [.int c,.int sd,.bl false],m,x2,.d (.int dr),x4] kz
 |[],sd,dr,j,x4,_,h0,h1,h2,h3,h=>h sd dr x4 h0 h1 h2
 | y::items,sd,dr,j,x4,hl,h0,h1,h2,h3,h=>by
  unfold eX i7;walk_at"w";obtain⟨r0,r1⟩:=iD (sd*39373+17) (m:=2147483647) xp;generalize (sd*39373+17).fmod 2147483647=s' at r0 r1 ⊢;obtain⟨q0,q1⟩:=iD (s'*s') (m:=2147483629) xp;generalize (s'*s').fmod 2147483629=t' at q0 q1 ⊢;have hl':j+(items.length+1)<=100:=hl;have b1:cy sd:=AN (n:=40) h0 xL xp;have b2:cy s':=AN (n:=40) r0 xL xp;have b3:cy dr:=AN (n:=40*j) h2 h3 xL;have b4:cy 39373:=bG xp;have b5:cy 2147483629:=bG xp;refine⟨b1,b4,xp,b3,b5,b2,b2,xp,?_⟩;refine zL items s' (dr*2147483629+t') (j+1) _ xL r0 r1 xL ?_ h;have e:(2:Int)^(40*(j+1))=2^(40*j)*1099511627776:=by rw[Nat.mul_succ,Int.pow_add];rfl
  omega
theorem xG:aaF 2 3 aM mU:=by
 rintro ls kz - ⟨a,xs,m,rfl,⟨c,sd,t,rfl,h0,h1⟩,hm,hM,h⟩;unfold mU;have hm0:m≠0:=by omega
 have hmz:=yS xL hM
 cases t with
 | true =>
  walk_at"w";obtain⟨r0,r1⟩:=iD c hm;exact⟨hm0,hm0,hmz,_,fX XU (ao aQ),h _ _ ⟨_,_,_,rfl,h0,h1⟩ r0 r1⟩
 | false =>
  walk_at"w";refine⟨xp,xp,xp,bG xp,bG (by split<;>decide),⟨by split<;>decide,by split<;>decide⟩,?_⟩;refine zL (c:=c) _ sd 0 0 _ (by simp only[vh,tv,X6];split<;>decide) h0 h1 xp xp λsd' dr' x' g0 g1 g2=>?_;walk_at"w";obtain⟨r0,r1⟩:=iD (dr'.fdiv 64) hm;exact⟨xp,xp,hm0,_,fX XU (ao aQ),h _ _ ⟨_,_,_,rfl,g0,g1⟩ r0 r1⟩
def i8:FS:=λls kz=>∃(R:aD)(a:Addr)(xs:List D),ls=[.d (aX R),.own a xs]/\si xs/\R.Ok/\(∀a∈R.asks,RB 60 a.size)/\R.asks.length<=7/\R.n<=6 /\
 ∀(Ss:List aD)(b:Addr)(ys:List D),si ys->(∀S∈Ss,VX R S)->Ss.length<=9->kz (.own b (Ss.map aX)) [.d (aX R),.own a ys]
def gX:W Fl:=(bF (jt 4))
def lF:W L:=(ak 0)
def lG:W Fl:=(aZ (UF (QB (ba (ay EN (ak 2) (wC (.int 2)))) (ba (ay Il (ak 6) (vg aH)))) (rG (HI 4 (aJ gU (ar (ak 0) (ar (ay aI (ak 6) (bI aM 0 1 (l8 1 (ar (bp (a8 cn (ar (ak 6) aH))) aH)))) aH))))) ck)
  gX)
def lH:W L:=(ay aI (ak 0) (wC (.int 1)))
def lI:W L:=(ay aI (ak 0) (wC (.int 2)))
def lJ:W Fl:=(aZ (bA 6 (bK 1 [5] (iu (ak 2)) (aR 0) (ba (ay (De true) (ak 0) (ak 1))) lF))
  lG)
def lK:W Fl:=(aZ (bA 5 (bp (ay bO (bK 1 [] (oU (ay aI (ak 0) (wC (.int 1)))) (aR 0) bW lH) (bK 1 [] (oU (ay aI (ak 0) (wC (.int 1)))) (aR 0) bW lI))))
  lJ)
def lL:W Fl:=(aZ (rG (HI 4 (aJ kc (ar (ak 0) (ar (bp (bI aM 0 1 (l8 1 (ar (ak 2) aH)))) aH)))))
  lK)
def lM:W Fl:=(aZ (rG (HI 4 (aJ iW (ar (ak 0) (ar (ak 3) aH)))))
  lL)
def lN:W L:=(ak 0)
def lO:W Fl:=(aZ (bA 4 (vg (ar (bp (aJ gL (ar (ak 0) (ar (bp (bI aM 0 1 (l8 1 (ar (ak 2) aH)))) aH)))) (ar (bp (aJ eO (ar (ak 0) aH))) aH))))
  lM)
def lP:W Fl:=(aZ (bA 3 (bK 1 [1] (iu (a8 cn (ar (ay aI (ak 0) (wC (.int 1))) aH))) (aR 0) (ba (ay p6 (bI aM 0 1 (l8 1 (ar (wC (.int 2)) aH))) (wC (.int 0)))) lN))
  lO)
def ki:W Fl:=(aZ (bA 2 (bp (a8 cn (ar (ay aI (ak 0) (wC (.int 0))) aH))))
  lP)
theorem Bz{α:Type}{enc:α->D}{tc:W Bool}{te:W L}{k:List D->Ev->Prop}(I:Ev->Prop)(P:D->Prop):∀(as:List α)(acc:List D)(l:L)(caps:Ev),I caps->(∀y∈acc,P y) ->
  (∀a∈as,∀caps,I caps->∀(Q1:Ev->D->Prop)(Q2:Ev->Prop),(∀caps' y,I caps'->P y->Q1 (.d (enc a)::caps') y)->(∀caps',I caps'->Q2 (.d (enc a)::caps'))->tc (.d (enc a)::caps) λb ρ2=>if b=true then te ρ2 λr ρ3=>Uy r λy=>Q1 ρ3 y else Q2 ρ2) ->
  (∀l' caps' ys,I caps'->(∀y∈ys,P y)->ys.length<=acc.length+as.length->k ys (l'::caps'))->dG (aR 0) tc te (as.map enc) (l::caps) acc k
 |[],acc,l,caps,hi,ha,_,Tw=>Tw l caps acc hi ha x_
 | a::as,acc,l,caps,hi,ha,step,Tw=>by
  show tc (.d (enc a)::caps) λb ρ2=>if b=true then te ρ2 λr ρ3=>Uy r λy=>dG (aR 0) tc te (as.map enc) ρ3 (acc++[y]) k else dG (aR 0) tc te (as.map enc) ρ2 acc k
  refine step a XU caps hi _ _ (λcaps' y hi' hy=>Bz I P as (acc++[y]) _ caps' hi' (λz hz=>?_) (λb hb=>step b (p3 _ hb)) λl' caps'' ys h1 h2 h3=>Tw l' caps'' ys h1 h2 ?_) λcaps' hi'=>Bz I P as acc _ caps' hi' ha (λb hb=>step b (p3 _ hb)) λl' caps'' ys h1 h2 h3=>Tw l' caps'' ys h1 h2 ?_
  .
   rcases Ys.mp hz with hz|hz
   . exact ha z hz
   . rw[YB.mp hz];exact hy
  . rw[Yw,Y9]at h3;rw[Y3];omega
  . rw[Y3];omega
theorem Ho{n:Nat}:∀{ys:List D},(∀y∈ys,∃i:Nat,i<n/\y=D.int (i:Int))->∃s:List Nat,(∀i∈s,i<n)/\ys=s.map λ(t:Nat)=>D.int (t:Int)
 |[],_=>⟨[],λ_ h=>(by cases h),rfl⟩
 | y::ys,h=>by obtain⟨i,hi,e⟩:=h y XU;obtain⟨s,hs,e2⟩:=Ho (ys:=ys) λz hz=>h z (p3 _ hz);exact⟨i::s,λj hj=>(XW.mp hj).elim (λz=>by rw[z];exact hi) (hs j),by rw[e,e2];rfl⟩
theorem uV:aaF 2 5 i8 ki:=by
 rintro ls kz - ⟨R,a,xs,rfl,hx,hR,hT,hl,h6,h⟩;have n2:=hR.lo;walk_at"ki";walk_at"lP";rw[cg,Yx];refine⟨⟨xL,xL⟩,by simpa using cz xL,Bz (λcaps=>∃ys,caps=[.own a ys]/\si ys) (λy=>∃i:Nat,i<R.asks.length/\y=D.int (i:Int)) (List.range R.asks.length) [] _ _ ⟨xs,rfl,hx⟩ (λy hy=>by cases hy) ?_ ?_⟩
 .
  rintro i hi caps ⟨ys,rfl,hy⟩ Q1 Q2 q1 q2;walk_at"w";refine⟨a,ys,2,rfl,hy,xp,xp,λr zs hz r0 r1=>⟨zs,rfl,?_⟩⟩;walk_at"w";split
  . walk_at"lN";exact q1 _ _ ⟨zs,rfl,hz⟩ ⟨i,Yb.mp hi,rfl⟩
  . exact q2 _ ⟨zs,rfl,hz⟩
 rintro l' caps' us ⟨ys,rfl,hy⟩ hu hul;obtain⟨s,hs,rfl⟩:=Ho hu;intro a1;simp only[fu,List.drop,List.set,List.getElem?_cons_zero,ZF];walk_at"lO";refine⟨a,ys,R.n,rfl,hy,xL,xL,λm zs hz m0 m1=>⟨zs,rfl,?_⟩⟩;obtain⟨m,rfl⟩:=Zd m0;walk_at"w";have few:=hR.few;refine⟨R,m,rfl,DO hR,xL,λc d=>?_⟩;walk_at"w";refine⟨R,rfl,DO hR,λc d=>?_⟩;walk_at"w";refine⟨xp,λb=>?_⟩;rw[show D.tup [D.lst ((bQ R m).rooms.map UV),D.lst ((bQ R m).asks.map d6)]=aX (bQ R m)from rfl,show D.tup [D.lst ((lj R).rooms.map UV),D.lst ((lj R).asks.map d6)]=aX (lj R)from rfl];walk_at"lM";refine⟨R,s,rfl,DO hR,λc d=>?_⟩;walk_at"w";refine⟨xp,?_⟩;rw[show D.tup [D.lst ((eM R s).rooms.map UV),D.lst ((eM R s).asks.map d6)]=aX (eM R s)from rfl];walk_at"lL";refine⟨a,zs,R.n,rfl,hz,xL,xL,λp ps hp p0 p1=>⟨ps,rfl,?_⟩⟩;obtain⟨p,rfl⟩:=Zd p0;walk_at"w";refine⟨R,p,rfl,aD.Ok.pl hR,xL,xL,?_⟩;walk_at"w";refine⟨xp,?_⟩;walk_at"lK";refine⟨cz xL,bc (enc:=d6) (h:=λa=>D.int (a.one:Int)) R.asks _ _ (λc _ Q q=>?_) λl1 _=>⟨cz xL,bc (enc:=d6) (h:=λa=>D.int (a.other:Int)) R.asks _ _ (λc _ Q q=>?_) λl2 _=>?_⟩⟩
 . walk_at"lH";exact q
 . walk_at"lI";exact q
 rw[Yk,Yk];have ee:(R.asks.map λc=>D.int (c.one:Int))++(R.asks.map λc=>D.int (c.other:Int))=(R.asks.map (·.one)++R.asks.map (·.other)).map λ(t:Nat)=>D.int (t:Int):=by rw[Yq,Yd,Yd];rfl
 refine⟨cz (by simp only[tv];omega),λ_=>?_⟩;rw[ee];obtain⟨es,hes⟩:∃es,es=R.asks.map (·.one)++R.asks.map (·.other):=⟨_,rfl⟩;rw[<- hes];walk_at"lJ";rw[cg,Yx]
 refine⟨⟨xL,xL⟩,by simpa using cz xL,fA (h:=λt=>if decide (t∈es)then none else some (D.int (t:Int))) (List.range R.n) [] _ (λt ht Q q=>?_) λl3 _=>?_⟩
 .
  walk_at"w";refine⟨rfl,Gh _,?_⟩;rw[wA]
  cases e:decide (t∈es)with
  | true =>
   rw[e,if_pos rfl]at q;rw[if_neg (by decide)];exact q
  | false =>
   rw[e,if_neg (by decide)]at q;rw[if_pos rfl];walk_at"lF";exact q
 have ef:(List.range R.n).filterMap (λt=>if decide (t∈es)then none else some (D.int (t:Int)))=((List.range R.n).filter λt=>!decide (t∈es)).map λ(t:Nat)=>D.int (t:Int):=by
  induction List.range R.n with
  |nil=>rfl
  | cons t ts ih =>
   rw[Y0,YM,ih];cases decide (t∈es)<;>rfl
 rw[Yk,ef];obtain⟨fs,hfs⟩:∃fs,fs=(List.range R.n).filter λt=>!decide (t∈es):=⟨_,rfl⟩;rw[<- hfs];simp only[fu,List.drop,List.set,List.getElem?_cons_zero,ZF]
 have S4:∀S∈[bQ R m,lj R,eM R s,wW R p],VX R S:=λS hm=>by
  simp only[XW,YD,ZU]at hm;rcases hm with rfl|rfl|rfl|rfl
  . exact J9 hR hT hl xL
  . exact NM hR hT hl
  . exact Ka hR hT hl s
  . exact NN hR hT hl xL xL
 have k7:∀(S:List aD)(ys:List D)(x5 x6:L),si ys->(∀Z∈S,VX R Z)->S.length<=1->gX [.d (aX R),.own a ys,.d (.int (R.n:Int)),.d (.lst (s.map λ(t:Nat)=>D.int (t:Int))),.own b ([aX (bQ R m),aX (lj R),aX (eM R s),aX (wW R p)]++S.map aX),x5,x6] (aU [.d (aX R),.own a xs] kz):=λS ys x5 x6 hy hS hl=>by have:=h ([bQ R m,lj R,eM R s,wW R p]++S) b ys hy (λZ hz=>(Ys.mp hz).elim (S4 Z) (hS Z)) (by simp only[Yw,Y3,List.length_nil];omega);rw[Yq]at this;walk_at"gX";exact⟨_,ao (fX (ys:=ys) x_ aQ),this⟩
 have k0:=λx5 x6=>k7 [] ps x5 x6 hp (λ_ h=>by cases h) xp;walk_at"lG";by_cases c2:2<R.n
 case neg =>
  rw[if_neg (by omega)];exact k0 _ _
 rw[if_pos (by omega)];refine⟨xp,λ_=>⟨d5 (n:=2) (wo _ λt _=>rfl) xp,d5 (n:=1) rfl xp,?_⟩⟩;rw[Na]
 cases fs with
 |nil=>exact k0 _ _
 | cons f0 fs =>
  rw[if_pos (by simp)];refine⟨a,ps,_,rfl,hp,x_,by have:=ZO (λt=>!decide (t∈es)) (List.range R.n);rw[<- hfs,X6]at this;simp only[Y3]at this ⊢;omega,λr us hu r0 r1=>⟨us,rfl,?_⟩⟩;obtain⟨f,rfl⟩:=Zd r0;have hf:f<(f0::fs).length:=by omega
  walk_at"w";have em:(f0::fs)[f]∈f0::fs:=X8 hf;generalize hg:(f0::fs)[f]=g at em;have eg:Ud ((f0::fs).map λ(t:Nat)=>D.int (t:Int)) (f:Int)=some (D.int (g:Int)):=by rw[<- hg];exact gD (by rw[X1,gV hf];rfl)
  rw[hfs]at em;obtain⟨g1,g2⟩:=ZK.mp em;have g1:=Yb.mp g1;have hfree:∀c∈R.asks,DI c g=false:=λc hc=>by rw[Bool.not_eq_true',Zb,hes]at g2;unfold DI;rw[aai,Zb,Zb];exact⟨λz=>g2 (Yz _ (XY.mpr ⟨c,hc,z⟩)),λz=>g2 (Yj _ (XY.mpr ⟨c,hc,z⟩))⟩
  refine⟨_,eg,R,g,rfl,aD.Ok.pl hR,g1,xL,hfree,?_⟩;walk_at"w";exact⟨xp,k7 [eV R g] us _ _ hu (λZ hz=>by rw[YB.mp hz];exact Kb hR hT hl g1 c2 hfree) x_⟩
def fT:FS:=λls kz=>∃t b:Int,ls=[.d (.int t),.d (.int b)]/\b≠0/\b.natAbs<2^9000/\kz (.d (UV (Rat.divInt t b))) ls
def qv:W Fl:=(Q6 2 3 (ay eA (ak 3) (ak 2)) (ak 2))
def pV:W Fl:=(aZ (bA 2 (bp (a8 C9 (ar (ak 0) aH))))
  (aZ (bA 3 (bp (a8 C9 (ar (ak 1) aH))))
  (aZ (yv (ba (ay Il (ak 2) (wC (.int 0)))) qv)
  (aZ (UF (ba (ay D8 (ak 1) (wC (.int 0)))) (bA 3 (ay dF (wC (.int 0)) (ak 3))) ck)
  (bF (lg (ar (ay oX (ak 0) (ak 3)) (ar (ay oX (ak 1) (ak 3)) aH))))))))
theorem zM:aaF 2 2 fT pV:=by
 rintro ls kz - ⟨t,b,rfl,hb,hz,h⟩;walk_at"pV";have h1:=B4 (t:=t) hb;have h2:=Yc (B5 (t:=t) hb) hz
 have Tw:∀{g:Int}{ρ:Ev},g=cT t b->g≠0/\g.natAbs<2^9000/\g≠0/\g.natAbs<2^9000/\2<=sizeLine/\aU [.d (.int t),.d (.int b)] kz (.rt (.d (.tup [.int (t.fdiv g),.int (b.fdiv g)]))) ρ:=λ{g ρ} e=>by
  have e1:g≠0:=by rw[e];exact h1
  have e2:g.natAbs<2^9000:=by rw[e];exact h2
  refine⟨e1,e2,e1,e2,xp,_,ao (ao aQ),?_⟩;rw[Cj hb e];exact h
 refine⟨λn ρ=>∃x y:Int,ρ=[.d (.int t),.d (.int b),.d (.int x),.d (.int y)]/\0<=x/\0<=y/\Int.gcd x y=Int.gcd t b/\n=x.natAbs,⟨_,_,_,rfl,by split<;>omega,by split<;>omega,?_,rfl⟩,?_⟩
 .
  have e1:(if t<0 then -t else t)=(t.natAbs:Int):=by split<;>omega
  have e2:(if b<0 then -b else b)=(b.natAbs:Int):=by split<;>omega
  rw[e1,e2];simp[Int.gcd]
 .
  rintro n ρ ⟨x,y,rfl,x0,y0,hg,rfl⟩;walk_at"qv";split
  .
   rename_i hx;have hx:x≠0:=by simpa using hx
   refine⟨hx,_,lr y hx,_,_,rfl,(iD y xL).1,x0,?_,rfl⟩;rw[Int.gcd_comm,B3,Int.gcd_comm];exact hg
  .
   rename_i hx;have hx:x=0:=by simpa using hx
   subst hx;have hy:y=(Int.gcd t b:Int):=by rw[<- hg,Int.gcd_zero_left];omega
   split
   . rename_i hlt;exact Tw (by simp[cT,hlt,hy])
   . rename_i hlt;exact Tw (by simp[cT,hlt,hy])
def bR:FS:=λls kz=>∃(a:Addr)(xs:List D)(least kind:Int),ls=[.own a xs,.d (.int least),.d (.int kind)]/\si xs/\0<=least/\least<=1/\0<=kind/\kind<5 /\
 ∀(q:Rat)(ys:List D),si ys->0<=q->(least=1->0<q)->RB 40 q->kz (.d (UV q)) [.own a ys,.d (.int least),.d (.int kind)]
def kj:W Fl:=(bF (aJ fT (ar (ak 4) (ar (ak 3) aH))))
def kl:W Fl:=(aZ (bA 4 (bp (ay bO (ak 1) (bI aM 0 0 (l8 0 (ar (ay aI (vg (ar (wC (.int 3)) (ar (wC (.int 10)) (ar (wC (.int 10)) (ar (wC (.int 40)) (ar (ay C8 (wC (.int 10)) (wC (.int 12))) aH)))))) (ak 2)) aH))))))
  kj)
def i9:W Fl:=(aZ (bA 3 (bp (ay bO (wC (.int 1)) (bI aM 0 0 (l8 0 (ar (ay aI (vg (ar (wC (.int 1)) (ar (wC (.int 1)) (ar (wC (.int 4)) (ar (wC (.int 12)) (ar (wC (.int 12)) aH)))))) (ak 2)) aH))))))
  kl)
theorem Hq{t b:Int}(h0:0<=t)(h1:t<2^40)(h2:0<b)(h3:b<2^40):0<=Rat.divInt t b/\(0<t->0<Rat.divInt t b)/\RB 40 (Rat.divInt t b):=by
 have e:=Rat.divInt_nonneg (a:=t) (b:=b) h0 xL;refine⟨e,λht=>?_,RB.of_divInt xL ?_ ?_⟩
 .
  refine Rat.lt_of_le_of_ne e λz=>?_;have:Rat.divInt 0 1=Rat.divInt t b:=by rw[<- z];rfl
  rw[Rat.divInt_eq_divInt_iff xp xL]at this;omega
 .
  have:(2:Int)^40=((2^40:Nat):Int):=by decide
  omega
 .
  have:(2:Int)^40=((2^40:Nat):Int):=by decide
  omega
theorem RS{k:Int}(h0:0<=k)(h1:k<5):∃m:Int,Ud [D.int 1,.int 1,.int 4,.int 12,.int 12] k=some (.int m)/\1<=m/\m<=12:=by
 obtain rfl|rfl|rfl|rfl|rfl:k=0∨k=1∨k=2∨k=3∨k=4:=by omega
 all_goals exact⟨_,rfl,xp,xp⟩
theorem RT{k:Int}(h0:0<=k)(h1:k<5):∃m:Int,Ud [D.int 3,.int 10,.int 10,.int 40,.int (10^12)] k=some (.int m)/\1<=m/\m<=10^12:=by
 obtain rfl|rfl|rfl|rfl|rfl:k=0∨k=1∨k=2∨k=3∨k=4:=by omega
 all_goals exact⟨_,rfl,xp,xp⟩
theorem ud:aaF 3 2 bR i9:=by rintro ls kz - ⟨a,xs,least,kind,rfl,hx,l0,l1,k0,k1,h⟩;obtain⟨m1,e1,m10,m11⟩:=RS k0 k1;obtain⟨m2,e2,m20,m21⟩:=RT k0 k1;walk_at"i9";refine⟨xp,λ_=>⟨_,e1,a,xs,m1,rfl,hx,xL,xL,λr ys hy r0 r1=>⟨ys,rfl,?_⟩⟩⟩;walk_at"kl";refine⟨xp,xp,xp,xp,λ_=>⟨_,e2,a,ys,m2,rfl,hy,xL,xL,λs zs hz s0 s1=>⟨zs,rfl,?_⟩⟩⟩;walk_at"kj";obtain⟨a1,a2,a3⟩:=Hq (t:=least+s) (b:=1+r) xL xL xL xL;exact⟨_,_,rfl,xL,yS xL xL,_,fX x_ (ao (ao aQ)),h _ zs hz a1 (λe=>a2 xL) a3⟩
def km:FS:=λls kz=>∃p q:Rat,ls=[.d (UV p),.d (UV q)]/\RB 4400 p/\RB 4400 q/\q≠0/\kz (.d (UV (p / q))) ls
def mV:W Fl:=(bF (aJ fT (ar (bp (ay bD (ay aI (ak 0) (wC (.int 0))) (ay aI (ak 1) (wC (.int 1))))) (ar (bp (ay bD (ay aI (ak 0) (wC (.int 1))) (ay aI (ak 1) (wC (.int 0))))) aH))))
theorem xH:aaF 2 0 km mV:=by
 rintro ls kz - ⟨p,q,rfl,hp,hq,h0,h⟩;walk_at"mV";refine⟨hp.bn xp,hq.bd xp,hp.bd xp,hq.bn xp,_,_,rfl,aab (mi p) (Ci h0),?_,_,ao (ao aQ),?_⟩
 . rw[Zj,Yh];exact XX (bC hp.2 hq.1) (X9 xp xp)
 . rw[FN p h0];exact h
def ja:FS:=λls kz=>∃p q:Rat,ls=[.d (UV p),.d (UV q)]/\RB 4400 p/\RB 4400 q/\kz (.d (UV (p*q))) ls
def ko:W Fl:=(bF (aJ fT (ar (bp (ay bD (ay aI (ak 0) (wC (.int 0))) (ay aI (ak 1) (wC (.int 0))))) (ar (bp (ay bD (ay aI (ak 0) (wC (.int 1))) (ay aI (ak 1) (wC (.int 1))))) aH))))
theorem uW:aaF 2 0 ja ko:=by
 rintro ls kz - ⟨p,q,rfl,hp,hq,h⟩;walk_at"ko";refine⟨hp.bn xp,hq.bn xp,hp.bd xp,hq.bd xp,_,_,rfl,sf p q,?_,_,ao (ao aQ),?_⟩
 . rw[nA];exact XX (bC hp.2 hq.2) (X9 xp xp)
 . rw[FM];exact h
def cM(n:Nat):FS:=λls kz=>∃d:D,ls=[.d d,.d d]/\VA n d/\UW 20 d=true/\kz (.d (.bl true)) ls
theorem zN(ls:List L)(kz:L->List L->Prop):¬cM 0 ls kz:=by rintro⟨d,_,h,_⟩;exact absurd h.dep (Nat.not_lt_zero _)
abbrev gz:FS:=cM 9
def jb(self:FS):W L:=(aJ self (ar (ak 0) (ar (ak 1) aH)))
def mW(self:FS):W Fl:=(aZ (UF (ba (UE (Cb "list" "tuple") (ak 1))) (aZ (UF (ba (ay Il (UE (mf "list") (ak 1)) (UE (mf "list") (ak 0)))) (bF (wC (.bl false))) ck)
  (aZ (UF (UC (ba (ay Il (UE (mf "tuple") (ak 1)) (UE (mf "tuple") (ak 0)))) (ba (ay Il (a8 cn (ar (ak 0) aH)) (a8 cn (ar (ak 1) aH))))) (bF (wC (.bl false))) ck)
  (bF (a8 Pc (ar (bp (bK 2 [] (Ms (ak 0) (ak 1)) (dO [0,1]) bW (jb self))) aH))))) ck)
  (aZ (UF (ba (UE (mf "str") (ak 1))) (bF (vV (UE (mf "str") (ak 0)) (ay p6 (ak 0) (ak 1)))) ck)
  (aZ (UF (ba (ay AB (ak 1) (wC .non))) (bF (ay AB (ak 0) (wC .non))) ck)
  (aZ (UF (ba (UE (mf "bool") (ak 1))) (bF (vV (UE (mf "bool") (ak 0)) (ay p6 (ak 0) (ak 1)))) ck)
  (bF (vV (UE (mf "int") (ak 0)) (vV (EG (ba (UE (mf "bool") (ak 0)))) (ay p6 (ak 0) (ak 1)))))))))
theorem xI:∀n ls kz,ls.length=2->cM (n+1) ls kz->mW (cM n) (ls++List.replicate 0 .un) (aU ls kz):=by
 rintro n ls kz - ⟨d,rfl,hd,ok,h⟩;have Tw:aU [.d d,.d d] kz (.rt (.d (.bl true))) [.d d,.d d]:=⟨_,ao (ao aQ),h⟩;unfold mW
 cases d with
 | lst xs =>
  obtain⟨hs,hx⟩:=hd.lst;have ok':p7 19 xs=true:=by simpa[UW]using ok
  walk_at"w";refine⟨by simpa[o5]using hs,vz (h:=λ_=>.bl true) xs _ _ (λx hm Q hq=>?_) λl m a=>?_⟩
  . walk_at"jb";refine⟨x,rfl,hx x hm,CB (wL ok' hm) xp,?_⟩;walk_at"w";exact hq
  . walk_at"w";refine⟨xs.map λ_=>true,by rw[Yd];rfl,?_⟩;rw[show(xs.map λ_=>true).all id=true by simp];exact Tw
 | tup xs =>
  obtain⟨hs,hx⟩:=hd.tup;have ok':p7 19 xs=true:=by simpa[UW]using ok
  walk_at"w";refine⟨by simpa[o5]using hs,vz (h:=λ_=>.bl true) xs _ _ (λx hm Q hq=>?_) λl m a=>?_⟩
  . walk_at"jb";refine⟨x,rfl,hx x hm,CB (wL ok' hm) xp,?_⟩;walk_at"w";exact hq
  . walk_at"w";refine⟨xs.map λ_=>true,by rw[Yd];rfl,?_⟩;rw[show(xs.map λ_=>true).all id=true by simp];exact Tw
 |non=>walk_at"w"; exact Tw
 | bl b =>
  walk_at"w";simpa using Tw
 | int i =>
  walk_at"w";simpa using Tw
 | str x =>
  have sh:dj (.str x):=d5 ok xp;walk_at"w";refine⟨sh,sh,?_⟩;simpa using Tw
 |dct _=>simp[UW]at ok
 |exc _ _ _=>simp[UW]at ok
 |fn _ _=>simp[UW]at ok
 |dk _ _=>simp[UW]at ok
 |gf _=>simp[UW]at ok
def kq:FS:=λls kz=>∃(R:aD)(a:Addr)(xs:List D),ls=[.d (aX R),.own a xs]/\si xs/\(R.Ok/\R.n<=6/\R.asks.length<=3/\(∀a∈R.asks,RB 60 a.size)/\(∀q∈R.rooms,RB 40 q)/\∀a∈R.asks,RB 40 a.size)/\∀ys:List D,kz (.d (.bl true)) [.d (aX R),.own a ys]
def n8:W Fl:=(bF (vV (aJ gz (ar (ay aI (ak 8) (wC (.int 0))) (ar (ay aI (ak 2) (wC (.int 0))) aH))) (EG (ba (aJ fb (ar (ay aI (ak 8) (wC (.int 1))) (ar (ay aI (ak 2) (wC (.int 1))) aH)))))))
def n9:W Fl:=(aZ (bA 8 (bp (aJ dg (ar (bp (aJ fS (ar (ak 0) aH))) aH))))
  n8)
def oa:W L:=(aJ ja (ar (ak 0) (ar (ak 1) aH)))
def og:W Fl:=(aZ (UF (LH (ba (aJ gz (ar (bp (aJ dg (ar (bp (aJ gM (ar (ak 0) (ar (ak 4) (ar (ak 5) aH))))) aH))) (ar (ak 7) aH))))) (bF (wC (.bl false))) ck)
  n9)
def oh:W Fl:=(aZ (bA 7 (bK 1 [6] (oU (ak 2)) (aR 0) bW oa))
  og)
def oi:W Fl:=(aZ (bA 6 (bp (aJ km (ar (ak 4) (ar (ak 5) aH)))))
  oh)
def oj:W Fl:=(aZ (bA 5 (bp (bI bR 0 1 (l8 1 (ar (wC (.int 1)) (ar (bp (bI aM 0 1 (l8 1 (ar (wC (.int 5)) aH)))) aH))))))
  oi)
def om:W Fl:=(UF (LH (ba (aJ gz (ar (bp (aJ dg (ar (ak 3) aH))) (ar (ak 2) aH))))) (bF (wC (.bl false))) ck)
def oo:W Fl:=(aZ (bA 4 (bp (bI bR 0 1 (l8 1 (ar (wC (.int 1)) (ar (bp (bI aM 0 1 (l8 1 (ar (wC (.int 5)) aH)))) aH))))))
  oj)
def ou:W Fl:=(aZ (yy (oU (bI i8 1 1 (ar (ak 0) (l8 1 aH)))) (aR 3) om)
  oo)
def oy:W Fl:=(aZ (UF (ba (aJ fb (ar (ay aI (ak 2) (wC (.int 1))) (ar (ay aI (ak 2) (wC (.int 0))) aH)))) (bF (wC (.bl false))) ck)
  ou)
def mX:W Fl:=(aZ (bA 2 (bp (aJ dg (ar (ak 0) aH))))
  oy)
theorem zP(p q:Rat):VA 9 (.lst [UV p,UV q])/\UW 20 (.lst [UV p,UV q])=true:=⟨(VA.frs (qs:=[p,q]) x_).mono xp,CB (n:=2) (by simp only[UW,p7,KP,Bool.and_true]) xp⟩
theorem xJ:aaF 2 7 kq mX:=by
 rintro ls kz - ⟨R,a,xs,rfl,hx,⟨hR,hn6,h3,htt,hs1,hs2⟩,h⟩;have hb:SB R:=⟨60,xp,xL,htt⟩;walk_at"mX";refine⟨R,rfl,hR,hb,xL,λws aw bw=>?_⟩;walk_at"w";walk_at"oy";have tb:=wV hR hb ws;have gb:=Gp hR;refine⟨_,_,rfl,tb.mono xp,gb.mono xp,?_⟩;walk_at"w";rw[if_neg (Rat.not_lt.mpr (NO hR ws bw.1))];walk_at"ou";refine⟨R,a,xs,rfl,hx,hR,htt,xL,hn6,λSs b ys hy hS hl=>?_⟩;walk_at"w";refine⟨ys,rfl,e8 (enc:=aX) Ss (λ_ ρ=>∃x3,ρ=[.d (aX R),.own a ys,.d (.lst [UV (eL R).1,UV (eU R ws)]),x3,.un,.un,.un,.un,.un]) _ ⟨_,rfl⟩ ?_ ?_⟩
 . rintro pre S suf ρ hsp ⟨x3,rfl⟩ Q h1 h2 h3' h4;have hs:=hS S (by rw[hsp];simp);walk_at"om";refine⟨S,rfl,hs.ok,hs.sb,hs.few,λvs av bv=>?_⟩;walk_at"w";have e1:(eL S).1=(eL R).1:=hs.al.1;have e2:eU S vs=eU R ws:=hs.al.2 vs ws bv bw;rw[e1,e2];refine⟨_,rfl,(zP _ _).1,(zP _ _).2,?_⟩;walk_at"w";exact h1 _ ⟨_,rfl⟩
 rintro ρ ⟨x3,rfl⟩;walk_at"oo";refine⟨a,ys,5,rfl,hy,xp,xp,λk1 us hu k0 k5=>⟨us,rfl,?_⟩⟩;walk_at"w";refine⟨a,us,1,k1,rfl,hu,xp,xp,k0,k5,λp vs hv p0 p1 pb=>⟨vs,rfl,?_⟩⟩;have p0:=p1 rfl;walk_at"w";walk_at"oj";refine⟨a,vs,5,rfl,hv,xp,xp,λk2 us hu k0 k5=>⟨us,rfl,?_⟩⟩;walk_at"w";refine⟨a,us,1,k2,rfl,hu,xp,xp,k0,k5,λq vs hv q0 q1 qb=>⟨vs,rfl,?_⟩⟩;have q0:=q1 rfl;walk_at"w";walk_at"oi";have sb:RB 80 (p / q):=pb.div qb (by grind);refine⟨p,q,rfl,pb.mono xp,qb.mono xp,by grind,?_⟩;walk_at"w";walk_at"oh";refine⟨xp,?_⟩;rw[show[UV (eL R).1,UV (eU R ws)]=[(eL R).1,eU R ws].map UV from rfl];refine bc (enc:=UV) (h:=λz=>UV (z*(p / q))) _ _ _ (λz hz Q hQ=>?_) λl' a5=>?_
 .
  walk_at"oa"
  have zb:RB 1750 z:=by
   simp only[XW,YD,ZU]at hz;rcases hz with rfl|rfl
   . exact gb.mono xp
   . exact tb.mono xp
  refine⟨_,_,rfl,zb.mono xp,sb.mono xp,?_⟩;walk_at"w";exact hQ
 obtain⟨so,ss⟩:=Qc hR hs1 hs2 xL p0 q0 pb qb;walk_at"og";have bd:VC 1000 R:=⟨hR.hi,hR.few,λz hz=>(hs1 z hz).mono xp,λc hc=>(htt c hc).mono xp,λc hc=>(hR.ask c hc).nm⟩;refine⟨R,p,q,rfl,bd,pb.mono xp,qb.mono xp,λc d=>?_⟩;walk_at"w";rw[show D.tup [D.lst ((VB R p q).rooms.map UV),D.lst ((VB R p q).asks.map d6)]=aX (VB R p q)from rfl]
 have sl:(VB R p q).asks.length<=7:=by
  have:(VB R p q).asks.length=R.asks.length:=by simp[VB]
  omega
 refine⟨VB R p q,rfl,so,ss,sl,λvs2 av bv=>?_⟩;walk_at"w";rw[(G0 hR p0 q0 so).1,NK hR p0 q0 so bw bv];refine⟨_,rfl,(zP _ _).1,(zP _ _).2,?_⟩;walk_at"w";walk_at"n9";obtain⟨t1,t2,t3⟩:=Qd hR hs2 h3;refine⟨R,rfl,hR,λc d=>?_⟩;walk_at"w";rw[show D.tup [D.lst (R.rooms.map UV),D.lst ((mj R).asks.map d6)]=aX (mj R)from rfl];refine⟨mj R,rfl,t1,t2,t3,λus2 au bu=>?_⟩;walk_at"w";walk_at"n8";rw[G3 hR t1];have s1:VA 9 (UV (eL R).1)/\UW 20 (UV (eL R).1)=true:=⟨(zP (eL R).1 0).1.lst.2 _ x_ |>.mono xp,CB (n:=1) (KP 0 _) xp⟩;refine⟨_,rfl,s1.1,s1.2,?_⟩;walk_at"w";refine⟨_,_,rfl,(wV t1 t2 us2).mono xp,tb.mono xp,?_⟩;walk_at"w";rw[Yt (Rat.not_lt.mpr (J8 hR t1 bw bu))];exact⟨_,ao (fX (ys:=vs) x_ aQ),h vs⟩
def cN:FS:=λls kz=>∃(ns:List Int)(k:Int),ls=[.d (.lst (ns.map .int)),.d (.int k)]/\0<=k/\k<=100/\∀a xs,si xs->kz (.own a xs) ls
def kr:W Fl:=(aZ (bA 2 (wC (.int 0)))
  (aZ (UF (ba (ay D8 (ak 1) (a8 cn (ar (ak 0) aH)))) (bA 2 (ay aI (ak 0) (ak 1))) ck)
  (bF (vg (ar (ak 2) (ar (ay eA (ay bO (ay bO (ay eA (ak 2) (wC (.int 2147483587))) (ay bD (ay bD (wC (.int 48271)) (ak 1)) (ak 1))) (wC (.int 13))) (wC (.int 2147483587))) (ar (ay OQ (ak 2) (ay C8 (wC (.int 10)) (wC (.int 18)))) aH)))))))
theorem uX:aaF 2 1 cN kr:=by
 rintro ls kz - ⟨ns,k,rfl,h0,h1,h⟩;unfold kr
 have Tw:∀(c:Int)(ρ:Ev)(e:ρ=[.d (.lst (ns.map .int)),.d (.int k),.d (.int c)]),∀a:Addr,aU [.d (.lst (ns.map .int)),.d (.int k)] kz (.rt (.own a [.int c,.int ((c.fmod 2147483587+48271*k*k+13).fmod 2147483587),.bl (decide ((10:Int)^18<=c))])) ρ:=λc ρ e a=>by
  refine⟨_,ao (ao aQ),h a _ ⟨_,_,_,rfl,?_,?_⟩⟩
  . rw[Yl _ xp];exact aad _ xp
  . rw[Yl _ xp];have:=Z5 (c.fmod 2147483587+48271*k*k+13) (b:=2147483587) xp;omega
 have hb1:cy 48271:=bG xp;have hb2:cy k:=bG (Yc (show k.natAbs<=100 by omega) xp);have hb3:cy (48271*k):=bG (Yc (show(48271*k).natAbs<=4827100 by omega) xp);walk_at"w"
 try rw[tv]
 split
 .
  rename_i hk;have hk:k<(ns.length:Int):=by simpa using hk
  have hi:k.toNat<ns.length:=by omega
  refine⟨.int ns[k.toNat],KO h0 (by rw[X1,gV hi];rfl),?_⟩;exact⟨xp,hb1,hb2,hb3,hb2,xp,xp,xp,xp,xp,Tw _ _ rfl⟩
 . exact⟨xp,hb1,hb2,hb3,hb2,xp,xp,xp,xp,xp,Tw _ _ rfl⟩
def jc:FS:=λls kz=>∃(a:Addr)(xs:List D)(many:Nat),ls=[.own a xs,.d (.int many)]/\si xs/\many<=26 /\
 ∀(zs:List Str)(c:Addr)(ys:List D),si ys->zs.length=many->(∀z∈zs,HJ z)->zs.Nodup->kz (.own c (zs.map .str)) [.own a ys,.d (.int many)]
def lQ:W L:=(ay bO (ay bO (Ag (ak 1) none (some (ak 2))) (ay aI (ak 3) (ay eA (ay bO (ak 4) (ak 0)) (wC (.int 26))))) (Ag (ak 1) (some (ay bO (ak 2) (wC (.int 1)))) none))
def lR:W Fl:=(bF (bK 1 [3,4,2,5] (iu (ak 1)) (aR 0) bW lQ))
def lS:W Fl:=(aZ (bA 5 (bp (bI aM 0 0 (l8 0 (ar (wC (.int 26)) aH)))))
  lR)
def lT:W L:=(ay aI (ak 1) (bI aM 0 2 (l8 2 (ar (wC (.int 26)) aH))))
def lU:W Fl:=(aZ (bA 4 (bp (bI aM 0 0 (l8 0 (ar (bp (a8 cn (ar (ak 3) aH))) aH)))))
  lS)
def lV:W Fl:=(aZ (bA 3 (bp (Md "" (bK 1 [2,0] (iu (ay bO (wC (.int 1)) (bI aM 0 0 (l8 0 (ar (wC (.int 8)) aH))))) (aR 0) bW lT))))
  lU)
def ku:W Fl:=(aZ (bA 2 (wC (.str "abcdefghijklmnopqrstuvwxyz")))
  lV)
theorem uY:aaF 2 4 jc ku:=by
 rintro ls kz - ⟨a,xs,many,rfl,hx,hm,h⟩;walk_at"ku";walk_at"lV";refine⟨a,xs,8,rfl,hx,xp,xp,λr ys hy r0 r1=>⟨ys,rfl,?_⟩⟩;walk_at"w";refine⟨⟨xL,xL⟩,?_⟩;rw[cg];refine⟨by rw[tv,X6];exact X0 (show(1+r).toNat<=8 by omega) xp,?_⟩;refine Cg _ (λj ρ acc=>∃(l:L)(ys:List D)(cs:List Nat),ρ=[l,.d (.str wu),.own a ys]/\si ys/\acc=cs.map (λc=>D.str ⟨#[c]⟩)/\cs.length=j/\∀c∈cs,sj c) _ _ ⟨_,ys,[],rfl,hy,rfl,rfl,λc hc=>by simp at hc⟩ ?_ ?_
 .
  rintro j x ρ acc hx ⟨l,ys,cs,rfl,hy,rfl,hl,hc⟩ Q hQ;unfold bW lT;walk_at"w";refine⟨a,ys,26,rfl,hy,xp,xp,λq ws hw q0 q1=>⟨ws,rfl,xp,_,vq q0 q1,?_⟩⟩;refine hQ _ _ ⟨_,ws,cs++[q.toNat+97],rfl,hw,x_,by simp[hl],λc hm=>?_⟩;rcases Ys.mp hm with hm|hm
  . exact hc c hm
  . rw[YB.mp hm];unfold sj;omega
 .
  rintro ρ acc ⟨l,ys,cs,rfl,hy,rfl,hl,hc⟩;rw[tv,X6]at hl;walk_at"w";intro aa;refine⟨cs.map λc=>⟨#[c]⟩,x_,by rw[Co,tv];show cs.length+cs.length*0<=_;omega,?_⟩
  have hb:HJ (Txt.join "" (cs.map λc=>(⟨#[c]⟩:Str))):=by
   refine⟨?_,?_,?_⟩
   . rw[pd];omega
   . rw[pd];omega
   . rw[pd];exact hc
  generalize Txt.join "" (cs.map λc=>(⟨#[c]⟩:Str))=base at hb ⊢;have hbl:=kM base;have hb1:=hb.lo;have hb2:=hb.hi;walk_at"lU";refine⟨X0 (show base.length<=8 by omega) xp,a,ys,base.length,rfl,hy,xL,xL,λp ws hw p0 p1=>⟨ws,rfl,?_⟩⟩;walk_at"lS";refine⟨a,ws,26,rfl,hw,xp,xp,λt vs hv t0 t1=>⟨vs,rfl,?_⟩⟩;walk_at"lR";refine⟨⟨xL,xL⟩,?_⟩;rw[cg];refine⟨by rw[tv,X6];exact X0 (show((many:Int)).toNat<=26 by omega) xp,?_⟩;refine bc (h:=λk=>D.str (nameAt base p.toNat t.toNat k)) _ _ _ (λk hk Q q=>?_) λl'=>?_
  .
   have hk:k<many:=by have:=Yb.mp hk;omega
   walk_at"lQ";refine⟨X0 (show base.length<=8 by omega) xp,xp,xp,_,vq (i:=(t+(k:Int)).fmod 26) (iD _ xp).1 (iD _ xp).2,?_⟩;have e1:=Jq (x:=base) p0 xL;have e2:=Du (x:=base) (i:=p+1) xL xL;have l1:(Txt.slice base none (some p)).length<=8:=by rw[kM,e1,YK];omega
   have l2:(Txt.slice base (some (p+1)) none).length<=8:=by rw[kM,e2,YS];omega
   have e3:((t+(k:Int)).fmod 26).toNat=(t.toNat+k) % 26:=by rw[Yl _ xp];omega
   have e4:Txt.slice base none (some p)++(⟨#[((t+(k:Int)).fmod 26).toNat+97]⟩:Str)++Txt.slice base (some (p+1)) none=nameAt base p.toNat t.toNat k:=by
    apply MT;rw[nD,nD,e1,e2,e3];have:(p+1).toNat=p.toNat+1:=by omega
    simp[L2.nameAt,this]
   have one:∀c:Nat,(⟨#[c]⟩:Str).length=1:=λ_=>rfl;have lc:(Txt.slice base none (some p)++(⟨#[((t+(k:Int)).fmod 26).toNat+97]⟩:Str)).length<=9:=by rw[kM,nD,Yw,<- kM,<- kM,one];omega
   refine⟨X0 (show _<=9 by rw[one];omega) xp,X0 (show base.length<=8 by omega) xp,X0 (Nat.add_le_add lc l2) xp,?_⟩;rw[e4];exact q
  .
   walk_at"w";intro c;refine⟨_,fX (ys:=vs) x_ (ao aQ),?_⟩;have e:List.map (λk=>D.str (nameAt base p.toNat t.toNat k)) (List.range ((many:Int)).toNat)=((List.range many).map λk=>nameAt base p.toNat t.toNat k).map D.str:=by rw[Yd,Yx];rfl
   rw[e];refine h _ c vs hv x_ (λz hz=>?_) (y6 List.nodup_range λx hx y hy=>?_)
   . obtain⟨k,_,rfl⟩:=XY.mp hz;exact F8 hb xL
   . exact Dv xL (by have:=Yb.mp hx;omega) (by have:=Yb.mp hy;omega)
def jd:FS:=λls kz=>∃(a:Addr)(xs:List D)(n:Nat)(kind:Int),ls=[.own a xs,.d (.int n),.d (.int kind)]/\si xs/\1<=n/\n<=1000/\0<=kind/\kind<5 /\
 ∀(qs:List Rat)(c:Addr)(ys:List D),si ys->qs.length=n->(∀q∈qs,0<q/\RB 40 q)->kz (.own c (qs.map UV)) [.own a ys,.d (.int n),.d (.int kind)]
def lW:W Fl:=(aZ (bA 6 (bp (bI bR 0 0 (l8 0 (ar (wC (.int 1)) (ar (ak 2) aH))))))
  (rG (HI 5 (ay aI (vg (ar (ak 4) (ar (ak 6) aH))) (a8 EU (ar (ay p6 (ak 3) (wC (.int 2))) aH))))))
def lX:W Fl:=(bF (jt 5))
def lY:W Fl:=(aZ (yv (ba (ay D8 (fY 5 (LU 5) (a8 cn (ar (ak 5) aH))) (ak 1))) lW)
  lX)
def gY:W Fl:=(aZ (bA 5 (vg (ar (ak 4) aH)))
  lY)
def lZ:W Fl:=(aZ (UF (ba (ay p6 (ak 3) (wC (.int 0)))) (bA 4 (lg (ar (wC (.int 1)) (ar (wC (.int 1)) aH)))) ck)
  gY)
def l4:W Fl:=(aZ (bA 4 (bp (bI bR 0 0 (l8 0 (ar (wC (.int 1)) (ar (ak 2) aH))))))
  lZ)
def kx:W Fl:=(aZ (bA 3 (bp (bI aM 0 0 (l8 0 (ar (wC (.int 3)) aH)))))
  l4)
theorem uZ:aaF 3 4 jd kx:=by
 rintro ls kz - ⟨a,xs,n,kind,rfl,hx,n1,n2,k0,k1,h⟩;have one:UV 1=.tup [.int 1,.int 1]:=rfl
 have di:∀(alike:Int)(p:Rat)(ys:List D),si ys->0<p->RB 40 p ->
   gY [.own a ys,.d (.int n),.d (.int kind),.d (.int alike),.d (UV p),.un,.un] (aU [.own a xs,.d (.int n),.d (.int kind)] kz):=by
  intro alike p ys hy hp hb;walk_at"gY";refine⟨xp,λc=>?_⟩;walk_at"lY";refine⟨λm ρ=>∃(qs:List Rat)(zs:List D)(l:L),ρ=[.own a zs,.d (.int n),.d (.int kind),.d (.int alike),.d (UV p),.own c (qs.map UV),l]/\si zs/\qs.length<=n/\m=n-qs.length/\∀q∈qs,0<q/\RB 40 q,⟨_,[p],ys,_,rfl,hy,n1,rfl,by intro q hq;rw[YB.mp hq];exact⟨hp,hb⟩⟩,?_⟩;rintro m ρ ⟨qs,zs,l,rfl,hz,hl,rfl,hq⟩;walk_at"w"
  try rw[tv]
  split
  .
   rename_i hlt;walk_at"lW";refine⟨a,zs,1,kind,rfl,hz,xp,xp,k0,k1,λq ws hw q0 q1 qb=>⟨ws,rfl,?_⟩⟩;walk_at"w";have hs:qs.length<sizeLine:=by exact Yc (show qs.length<=1000 by omega) xp
   have more:∀q':Rat,0<q'->RB 40 q'->∃m,m<n-qs.length/\∃(qs':List Rat)(zs:List D)(l:L),[L.own a ws,.d (.int n),.d (.int kind),.d (.int alike),.d (UV p),.own c (qs.map UV++[UV q']),.d (UV q)]=[.own a zs,.d (.int n),.d (.int kind),.d (.int alike),.d (UV p),.own c (qs'.map UV),l]/\si zs/\qs'.length<=n/\m=n-qs'.length/\∀q∈qs',0<q/\RB 40 q:=by
    intro q' p0 pb;refine⟨n-(qs++[q']).length,by rw[Yw];simp only[Y9];omega,qs++[q'],ws,.d (UV q),by rw[Yq];rfl,hw,by rw[Yw];simp only[Y9];omega,rfl,λz hz=>?_⟩;rcases Ys.mp hz with hz|hz
    . exact hq z hz
    . rw[YB.mp hz];exact⟨p0,pb⟩
   refine⟨xp,λ_=>?_⟩;by_cases h2:alike=2
   . refine⟨UV q,?_,hs,more q (q1 rfl) qb⟩;simp[h2,AM]
   . refine⟨UV p,?_,hs,more p hp hb⟩;simp[h2,yR]
  .
   have e:qs.length=n:=by omega
   walk_at"lX";exact⟨_,fX x_ (ao (ao aQ)),h qs c zs hz e hq⟩
 walk_at"kx";refine⟨a,xs,3,rfl,hx,xp,xp,λr ys hy r0 r1=>⟨ys,rfl,?_⟩⟩;walk_at"l4";refine⟨a,ys,1,kind,rfl,hy,xp,xp,k0,k1,λq zs hz q0 q1 qb=>⟨zs,rfl,?_⟩⟩;walk_at"lZ";split
 . exact⟨xp,di r 1 zs hz xp ⟨xp,xp⟩⟩
 . exact di r q zs hz (q1 rfl) qb
def ky:FS:=λls kz=>∃(a:Addr)(xs:List D)(shape k:Int)(n:Nat),ls=[.own a xs,.d (.int shape),.d (.int n),.d (.int k)]/\si xs/\2<=n/\n<=1000/\0<=k/\k<=1000 /\
 ∀(i j:Nat)(ys:List D),si ys->i<n->j<n->i≠j->kz (.d (.tup [.int i,.int j])) [.own a ys,.d (.int shape),.d (.int n),.d (.int k)]
def oz:W Fl:=(bF (lg (ar (ak 4) (ar (ak 5) aH))))
def oA:W Fl:=(aZ (UF (ba (ay p6 (ak 1) (wC (.int 3)))) (bF (lg (ar (wC (.int 0)) (ar (bp (ay bO (wC (.int 1)) (ay eA (ak 5) (ay dF (ak 2) (wC (.int 1)))))) aH)))) ck)
  oz)
def oB:W Fl:=(aZ (UF (ba (ay p6 (ak 1) (wC (.int 2)))) (bF (lg (ar (bp (ay bD (ay eA (ak 3) (wC (.int 2))) (ay dF (ak 2) (wC (.int 1))))) (ar (bp (ay bD (ay dF (wC (.int 1)) (ay eA (ak 3) (wC (.int 2)))) (ay dF (ak 2) (wC (.int 1))))) aH)))) ck)
  oA)
def oC:W Fl:=(aZ (UF (ba (ay p6 (ak 1) (wC (.int 1)))) (bF (lg (ar (ay eA (ak 3) (ak 2)) (ar (ay eA (ay bO (ak 3) (ay oX (ak 2) (wC (.int 2)))) (ak 2)) aH)))) ck)
  oB)
def oD:W Fl:=(aZ (bA 5 (ay eA (ay bO (ay bO (ak 4) (wC (.int 1))) (bI aM 0 0 (l8 0 (ar (ay dF (ak 2) (wC (.int 1))) aH)))) (ak 2)))
  oC)
def mY:W Fl:=(aZ (bA 4 (bp (bI aM 0 0 (l8 0 (ar (ak 2) aH)))))
  oD)
theorem xK:aaF 4 2 ky mY:=by
 rintro ls kz - ⟨a,xs,shape,k,n,rfl,hx,n2,n3,k0,k1,h⟩;have Tw:∀(ys:List D)(i j:Int)(ρ:Ev),si ys->0<=i->i<n->0<=j->j<n->i≠j->.own a ys∈ρ->aU [.own a xs,.d (.int shape),.d (.int n),.d (.int k)] kz (.rt (.d (.tup [.int i,.int j]))) ρ:=by intro ys i j ρ hy i0 i1 j0 j1 hij hm;have:=h i.toNat j.toNat ys hy xL xL xL;rw[Int.toNat_of_nonneg i0,Int.toNat_of_nonneg j0]at this;exact⟨_,fX hm (ao (ao (ao aQ))),this⟩
 walk_at"mY";refine⟨a,xs,n,rfl,hx,xL,xL,λr ys hy r0 r1=>⟨ys,rfl,?_⟩⟩;walk_at"oD";refine⟨a,ys,n-1,rfl,hy,xL,xL,λs zs hz s0 s1=>⟨zs,rfl,?_⟩⟩;walk_at"w";refine⟨xL,?_⟩;have e1:=Yl (r+1+s) (b:=n) xL;have e2:=Yl k (b:=n) xL;have e3:=Zl (n:Int) (b:=2) xL;have e4:=Yl (k+(n:Int) / 2) (b:=n) xL;have e5:=Yl k (b:=2) xL;have e6:=Yl ((r+1+s) % (n:Int)) (b:=(n:Int)-1) xL;rw[e1];have o0:=aad (r+1+s) (b:=n) xL;have o1:=Z5 (r+1+s) (b:=n) xL
 have o2:(r+1+s) % (n:Int)≠r:=λz=>by
  by_cases q:r+1+s<n
  . rw[Int.emod_eq_of_lt xL q]at z;omega
  .
   have:(r+1+s) % (n:Int)=r+1+s-n:=by rw[<- Int.sub_emod_right,Int.emod_eq_of_lt xL xL]
   omega
 walk_at"oC";split
 .
  rw[e2,e3,e4];refine⟨xL,xp,xp,xL,xp,Tw zs _ _ _ hz (aad _ xL) (Z5 _ xL) (aad _ xL) (Z5 _ xL) (λz=>?_) x_⟩;have h1:(k+(n:Int) / 2-k) % n=0:=Int.emod_eq_emod_iff_emod_sub_eq_zero.mp z.symm;have e9:k+(n:Int) / 2-k=n / 2:=by omega
  rw[e9,Int.emod_eq_of_lt xL xL]at h1;omega
 .
  walk_at"oB";split
  .
   rw[e5];have m0:=Int.emod_two_eq k;refine⟨xp,bG xL,bG xL,xp,bG xL,bG xL,xp,?_⟩;rcases m0 with m0|m0
   . rw[m0];exact Tw zs _ _ _ hz xL xL xL xL xL x_
   . rw[m0];exact Tw zs _ _ _ hz xL xL xL xL xL x_
  .
   walk_at"oA";split
   . rw[e6];have p0:=aad ((r+1+s) % (n:Int)) (b:=(n:Int)-1) xL;have p1:=Z5 ((r+1+s) % (n:Int)) (b:=(n:Int)-1) xL;exact⟨xL,xp,Tw zs _ _ _ hz xL xL xL xL xL x_⟩
   . walk_at"oz";exact⟨xp,Tw zs _ _ _ hz xL xL xL xL (YE o2) x_⟩
structure Drawn (most count:Nat) (R:aD):Prop where
 ok:R.Ok
 hi:R.n<=most
 few:R.asks.length<=count
 nms:(∀a∈R.asks,HJ a.nm)/\(R.asks.map (·.nm)).Nodup
 tt:∀a∈R.asks,RB 60 a.size
 sm:(∀q∈R.rooms,RB 40 q)/\∀a∈R.asks,RB 40 a.size
def kA:FS:=λls kz=>∃(ns:List Int)(at_ most count:Nat),ls=[.d (.lst (ns.map .int)),.d (.int at_),.d (.int most),.d (.int count)]/\at_<=90/\2<=most/\most<=12/\count<=20 /\
 ∀R:aD,Drawn most count R->kz (.d (aX R)) ls
def je:W Fl:=(aZ (LW [13,14] (bI ky 0 4 (l8 4 (ar (ak 8) (ar (ak 5) (ar (ak 12) aH))))))
  (rG (HI 11 (lg (ar (ay aI (ak 9) (ak 12)) (ar (ak 13) (ar (ak 14) (ar (bp (bI bR 0 4 (l8 4 (ar (wC (.int 0)) (ar (ay aI (ak 7) (wC (.int 1))) aH))))) aH))))))))
def oE:W Fl:=(bF (lg (ar (ak 10) (ar (ak 11) aH))))
def oF:W Fl:=(aZ (yy (iu (ak 6)) (aR 12) je)
  oE)
def oG:W Fl:=(aZ (bA 11 (vg aH))
  oF)
def oH:W Fl:=(aZ (bA 4 (aJ cN (ar (ak 0) (ar (bp (ay bO (ak 1) (wC (.int 2)))) aH))))
  oG)
def oI:W Fl:=(aZ (bA 10 (bp (aJ jd (ar (aJ cN (ar (ak 0) (ar (bp (ay bO (ak 1) (wC (.int 1)))) aH))) (ar (ak 5) (ar (ay aI (ak 7) (wC (.int 0))) aH))))))
  oH)
def oJ:W Fl:=(aZ (bA 9 (bp (bI jc 0 4 (l8 4 (ar (ak 6) aH)))))
  oI)
def oK:W Fl:=(aZ (bA 8 (bp (bI aM 0 4 (l8 4 (ar (wC (.int 6)) aH)))))
  oJ)
def oM:W Fl:=(aZ (bA 7 (bp (vg (ar (bp (bI aM 0 4 (l8 4 (ar (wC (.int 5)) aH)))) (ar (bp (bI aM 0 4 (l8 4 (ar (wC (.int 5)) aH)))) aH)))))
  oK)
def oN:W Fl:=(aZ (bA 6 (bp (bI aM 0 4 (l8 4 (ar (bp (ay bO (ak 3) (wC (.int 1)))) aH)))))
  oM)
def oO:W Fl:=(aZ (bA 5 (bp (ay bO (wC (.int 2)) (bI aM 0 4 (l8 4 (ar (ay dF (ak 2) (wC (.int 1))) aH))))))
  oN)
def mZ:W Fl:=(aZ (bA 4 (aJ cN (ar (ak 0) (ar (ak 1) aH))))
  oO)
theorem Hr{S a1 m3 c3 rms:D}{b c:Addr}{n shape kind:Nat}{zs:List Str}{kz:Fl->Ev->Prop}(hn:2<=n)(hn2:n<=12)(hk:kind<5)(k0:Nat)(hzl:zs.length<=20)(hz:∀z∈zs,HJ z)(xs:List D)(hx:si xs)(x13 x14:L)
  (Tw:∀(as:List Vo)(ys:List D)(x12 x13 x14:L),(∀a∈as,c8 n a/\RB 40 a.size)->as.map (·.nm)=zs->kz .nx [.d S,.d a1,.d m3,.d c3,.own b ys,.d (.int n),.d (.int (zs.length:Int)),.d (.lst [.int k0,.int kind]),.d (.int shape),.d (.lst (zs.map .str)),.d rms,.own c (as.map d6),x12,x13,x14]) :
  eX (aR 12) je ((List.range zs.length).map λ(i:Nat)=>D.int (i:Int)) [.d S,.d a1,.d m3,.d c3,.own b xs,.d (.int n),.d (.int (zs.length:Int)),.d (.lst [.int k0,.int kind]),.d (.int shape),.d (.lst (zs.map .str)),.d rms,.own c [],.un,x13,x14] kz:=by
 refine kL _ (λj ρ=>∃(as:List Vo)(ys:List D)(x12 x13 x14:L),ρ=[.d S,.d a1,.d m3,.d c3,.own b ys,.d (.int n),.d (.int (zs.length:Int)),.d (.lst [.int k0,.int kind]),.d (.int shape),.d (.lst (zs.map .str)),.d rms,.own c (as.map d6),x12,x13,x14]/\si ys/\(∀a∈as,c8 n a/\RB 40 a.size)/\as.map (·.nm)=zs.take j) _ ⟨[],xs,_,_,_,rfl,hx,λa ha=>by simp at ha,rfl⟩ ?_ ?_
 .
  rintro j x ρ hj ⟨as,ys,x12,x13,x14,rfl,hy,ha,hn'⟩ Q h1 h2 h3 h4;have hj':j<zs.length:=by have:=(tu.mp hj).1;simpa using this
  have ex:x=.int (j:Int):=by rw[X1,Yn hj']at hj;exact(YN hj).symm
  subst ex;walk_at"je";refine⟨b,ys,shape,j,n,rfl,hy,hn,xL,xL,xL,λi k ws hw i1 k1 hik=>⟨ws,rfl,?_⟩⟩;walk_at"w";refine⟨.str zs[j],cf hj',?_⟩;refine⟨b,ws,0,kind,rfl,hw,xp,xp,xL,xL,λq vs hv q0 _ qb=>⟨vs,rfl,?_⟩⟩;walk_at"w";have fI:as.length=j:=by have:=Zy List.length hn';rw[tv,YK]at this;omega
  refine⟨xp,by rw[fI];exact XX hj' (X0 hzl xp),h1 _ ⟨as++[⟨zs[j],i,k,q⟩],vs,_,_,_,by rw[Yq];rfl,hv,λa hm=>?_,?_⟩⟩
  .
   rcases Ys.mp hm with hm|hm
   . exact ha a hm
   . rw[YB.mp hm];exact⟨⟨i1,k1,hik,q0,Js (qb.mono xp),(hz _ (X8 hj')).ok⟩,qb⟩
  . rw[Yq,hn',Z6,gV hj'];rfl
 . rintro ρ ⟨as,ys,x12,x13,x14,rfl,hy,ha,hn'⟩;rw[tv,X6,Yy (XZ _)]at hn';exact Tw as ys x12 x13 x14 ha hn'
theorem xM:aaF 4 11 kA mZ:=by
 rintro ls kz - ⟨ns,at_,most,count,rfl,ha,m2,m12,c20,h⟩;walk_at"mZ";refine⟨ns,at_,rfl,xL,xL,λb xs hx=>?_⟩;walk_at"oO";refine⟨b,xs,(most:Int)-1,rfl,hx,xL,xL,λr ys hy r0 r1=>⟨ys,rfl,?_⟩⟩;walk_at"oN";refine⟨b,ys,(count:Int)+1,rfl,hy,xL,xL,λs zs hz s0 s1=>⟨zs,rfl,?_⟩⟩;walk_at"oM";refine⟨b,zs,5,rfl,hz,xp,xp,λk1 ws hw k10 k11=>⟨ws,rfl,?_⟩⟩;walk_at"w";refine⟨b,ws,5,rfl,hw,xp,xp,λk2 vs hv k20 k21=>⟨vs,rfl,?_⟩⟩;walk_at"w";refine⟨xp,λkk=>?_⟩;walk_at"oK";refine⟨b,vs,6,rfl,hv,xp,xp,λsh us hu sh0 sh1=>⟨us,rfl,?_⟩⟩;walk_at"oJ";obtain⟨many,rfl⟩:=Zd s0;obtain⟨pl,epl⟩:∃pl:Nat,2+r=(pl:Int):=Zd xL;obtain⟨sh',rfl⟩:=Zd sh0;obtain⟨k1',rfl⟩:=Zd k10;obtain⟨k2',rfl⟩:=Zd k20;rw[epl];refine⟨b,us,many,rfl,hu,xL,λnms c ts ht hnl hnm hnd=>⟨ts,rfl,?_⟩⟩;walk_at"oI";refine⟨ns,at_+1,rfl,xL,xL,λb2 xs2 hx2=>?_⟩;refine⟨b2,xs2,pl,k1',rfl,hx2,xL,xL,xL,xL,λqs c2 ys2 hy2 hql hq=>?_⟩;walk_at"oH";refine⟨ns,at_+2,rfl,xL,xL,λb3 xs3 hx3=>?_⟩;walk_at"oG";refine⟨xp,λc3=>?_⟩;walk_at"oF";refine⟨⟨xL,xL⟩,?_⟩;rw[cg,Yx,<- hnl];refine Hr (n:=pl) xL xL xL k1' xL hnm xs3 hx3 _ _ λas ys' x12 x13 x14 hao han=>?_;walk_at"w";walk_at"oE";refine⟨xp,_,ao (ao (ao (ao aQ))),h ⟨qs,as⟩ ?_⟩;have hal:as.length=nms.length:=by rw[<- han,tv]
 refine⟨⟨?_,?_,?_,λq hm=>⟨(hq q hm).1,(hq q hm).2.mono xp⟩,?_,Px (λa ha=>(hao a ha).2.mono xp) (by show as.length<=20;omega)⟩,?_,?_,⟨?_,?_⟩,λa ha=>(hao a ha).2.mono xp,λq hm=>(hq q hm).2,λa ha=>(hao a ha).2⟩
 . show 2<=qs.length;omega
 . show qs.length<=12;omega
 . show as.length<=20;omega
 . show ∀a∈as,c8 qs.length a;rw[hql];exact λa ha=>(hao a ha).1
 . show qs.length<=most;omega
 . show as.length<=count;omega
 . intro a ha;exact hnm _ (by rw[<- han];exact List.mem_map_of_mem ha)
 . show(as.map (·.nm)).Nodup;rw[han];exact hnd
def fs_law:FS:=λls kz=>∃ns:List Int,ls=[.d (.lst (ns.map .int))]/\ns.length<=63/\kz (.d (.bl true)) ls
theorem Hs{ns:List Int}(hl:ns.length<=63):fs_law [.d (.lst (ns.map .int))] (λr _=>r=.d (.bl true)):=⟨ns,rfl,hl,rfl⟩
def Ht:W Fl:=(UF (LH (ba (aJ kq (ar (bp (aJ kA (ar (ak 0) (ar (ak 1) (ar (wC (.int 6)) (ar (wC (.int 3)) aH)))))) (ar (aJ cN (ar (ak 0) (ar (bp (ay bO (ak 1) (wC (.int 3)))) aH))) aH))))) (bF (wC (.bl false))) ck)
def N0:W Fl:=(aZ (yy (Mm (wC (.int 0)) (a8 Im (ar (wC (.int 1)) (ar (bp (a8 ET (ar (bp (a8 cn (ar (ak 0) aH))) (ar (wC (.int 12)) aH)))) aH))) (wC (.int 4))) (aR 1) Ht)
  (bF (wC (.bl true))))
theorem N1:aaF 1 1 fs_law N0:=by
 rintro ls kz - ⟨ns,rfl,hl,h⟩;walk_at"N0";refine⟨⟨xL,xL⟩,⟨?_,?_⟩,xp,xp,?_⟩
 . split<;>split<;>omega
 . split<;>split<;>omega
 refine JL _ (λj ρ=>∃x1,ρ=[.d (.lst (ns.map .int)),x1]) _ ⟨_,rfl⟩ ?_ ?_
 .
  rintro j ρ hj ⟨x1,rfl⟩ Q h1 h2 h3 h4;have hj':(4:Int)*j<12:=by have:=PQ xp hj;split at this<;>split at this<;>omega
  obtain⟨m,hm⟩:∃m:Nat,m=4*j:=⟨_,rfl⟩;have ej:(0:Int)+(j:Int)*4=(m:Int):=by omega
  unfold Ht;rw[ej];walk_at"w";refine⟨ns,m,6,3,rfl,xL,xp,xp,xp,λR hD=>?_⟩;walk_at"w";refine⟨ns,(m:Int)+3,rfl,xL,xL,λb xs hx=>?_⟩;walk_at"w";refine⟨R,b,xs,rfl,hx,⟨hD.ok,hD.hi,hD.few,hD.tt,hD.sm.1,hD.sm.2⟩,λys=>?_⟩;walk_at"w";exact h1 _ ⟨_,rfl⟩
 . rintro ρ ⟨x1,rfl⟩;exact⟨_,ao aQ,h⟩
structure Tx (K:W.Frag) (mg:Str->Option Value) (ad:Nat->Addr) (fd:Nat->FuncData):Prop where
 aa3:FX K mg "greatest_shared" dS (ad 0) (fd 0) ["one","other"]
 abh:FX K mg "least_common" gF (ad 1) (fd 1) ["one","other"]
 aa4:FX K mg "is_whole" pB (ad 2) (fd 2) ["thing"]
 aaO:FX K mg "lowest" w8 (ad 3) (fd 3) ["top","bottom"]
 abi:FX K mg "ratio" Bb (ad 4) (fd 4) ["top","bottom"]
 aa5:FX K mg "plus" G6 (ad 5) (fd 5) ["one","other"]
 abj:FX K mg "minus" Bc (ad 6) (fd 6) ["one","other"]
 aaV:FX K mg "times" Bd (ad 7) (fd 7) ["one","other"]
 aa6:FX K mg "over" G7 (ad 8) (fd 8) ["one","other"]
 aaW:FX K mg "under" Be (ad 9) (fd 9) ["one","other"]
 abk:FX K mg "lesser" w9 (ad 10) (fd 10) ["one","other"]
 aaX:FX K mg "sum_of" xa (ad 11) (fd 11) ["some"]
 aaQ:FX K mg "renumbered" gk (ad 12) (fd 12) ["asks","numbers"]
 abl:FX K mg "turned_ring" dn (ad 13) (fd 13) ["ring","many"]
 abm:FX K mg "mirrored_ring" dz (ad 14) (fd 14) ["ring"]
 abn:FX K mg "scaled_ring" dA (ad 15) (fd 15) ["ring","size","room"]
 abo:FX K mg "told_round" gm (ad 16) (fd 16) ["ring","some"]
 aa7:FX K mg "is_within" ml (ad 17) (fd 17) ["cut","place"]
 aaY:FX K mg "parts_places" gG (ad 18) (fd 18) ["cut","one","other"]
 abp:FX K mg "across" rk (ad 19) (fd 19) ["ring","cut"]
 abq:FX K mg "rooms_of" pC (ad 20) (fd 20) ["ring","cut"]
 abr:FX K mg "shown_by" pD (ad 21) (fd 21) ["ring","cut"]
 aa8:FX K mg "all_cuts" kT (ad 22) (fd 22) ["ring"]
 abt:FX K mg "greatest_cut" gH (ad 23) (fd 23) ["ring"]
 abu:FX K mg "common_bottom" fF (ad 24) (fd 24) ["some"]
 aa9:FX K mg "in_units" kU (ad 25) (fd 25) ["some","units"]
 aba:FX K mg "weighed" jI (ad 26) (fd 26) ["ring","top"]
 abv:FX K mg "other_way" mn (ad 27) (fd 27) ["way"]
 abw:FX K mg "ties_of" jJ (ad 28) (fd 28) ["ring","k","way"]
 aaZ:FX K mg "is_over" sP (ad 29) (fd 29) ["ring","k","way","tie"]
 abx:FX K mg "sent_over" mq (ad 30) (fd 30) ["ring","sending","k","tie"]
 aby:FX K mg "load_of" nO (ad 31) (fd 31) ["ring","sending","tie"]
 abz:FX K mg "loads_of" kW (ad 32) (fd 32) ["ring","sending"]
 abA:FX K mg "strains_of" gn (ad 33) (fd 33) ["ring","sending"]
 abB:FX K mg "top_of" xb (ad 34) (fd 34) ["ring","sending"]
 abC:FX K mg "sent_by" nP (ad 35) (fd 35) ["ring","ways"]
 abD:FX K mg "top_by" xc (ad 36) (fd 36) ["ring","ways"]
 abE:FX K mg "turned_by" iJ (ad 37) (fd 37) ["elder","ways"]
 abF:FX K mg "is_too_much" iK (ad 38) (fd 38) ["wish","load","bound"]
 abG:FX K mg "are_too_many" gI (ad 39) (fd 39) ["wish","ways"]
 abH:FX K mg "reason_against" eN (ad 40) (fd 40) ["wish","bounds","fixed","loads"]
 abb:FX K mg "searched" kX (ad 41) (fd 41) ["ring","wish","sizes","bounds","fixed","loads"]
 abI:FX K mg "bounds_of" fG (ad 42) (fd 42) ["ring","scale"]
 abJ:FX K mg "ways_for" kY (ad 43) (fd 43) ["ring","wish"]
 abK:FX K mg "wish_for_less" dB (ad 44) (fd 44) ["ring","top"]
 abL:FX K mg "best_ways" iL (ad 45) (fd 45) ["ring"]
 abM:FX K mg "still_across" d8 (ad 46) (fd 46) ["ring","k","waiting","cut"]
 abN:FX K mg "most_on" sS (ad 47) (fd 47) ["ring","k","waiting","free"]
 abO:FX K mg "left_free" iM (ad 48) (fd 48) ["ring","k","free","part","rest"]
 abP:FX K mg "sent_one_by_one" dU (ad 49) (fd 49) ["ring","top"]
 abQ:FX K mg "least_top" mv (ad 50) (fd 50) ["ring"]
 abR:FX K mg "place_put" iN (ad 51) (fd 51) ["ring","tie"]
 abS:FX K mg "joined_rooms" gJ (ad 52) (fd 52) ["rooms","place"]
 abT:FX K mg "place_taken" dC (ad 53) (fd 53) ["ring","place"]
 abc:FX K mg "asks_like" iP (ad 54) (fd 54) ["ring","k"]
 abU:FX K mg "first_asks" gq (ad 55) (fd 55) ["ring"]
 abV:FX K mg "put_together" d9 (ad 56) (fd 56) ["ring"]
 aaR:FX K mg "_law_tops" mw (ad 57) (fd 57) ["_law_ring_here"]
 abd:FX K mg "_law_under" jL (ad 58) (fd 58) ["_law_one","_law_other"]
 aaI:FX K mg "_law_take" mx (ad 59) (fd 59) ["_law_state","_law_many"]
 abW:FX K mg "_law_rings" cH (ad 60) (fd 60) ["_law_ring_here","_law_state"]
 aa0:FX K mg "_law_low" pF (ad 61) (fd 61) ["_law_top","_law_bottom"]
 aaP:FX K mg "_law_amount" iQ (ad 62) (fd 62) ["_law_state","_law_least","_law_kind"]
 abX:FX K mg "_law_over" my (ad 63) (fd 63) ["_law_one","_law_other"]
 abY:FX K mg "_law_times" jM (ad 64) (fd 64) ["_law_one","_law_other"]
 aaS:FX K mg "_law_same" iR (ad 65) (fd 65) ["_law_found","_law_due"]
 abZ:FX K mg "_law_good" iS (ad 66) (fd 66) ["_law_ring_here","_law_state"]
 aaT:FX K mg "_law_begun" jN (ad 67) (fd 67) ["_law_script","_law_k"]
 ab0:FX K mg "_law_names" eF (ad 68) (fd 68) ["_law_state","_law_many"]
 ab1:FX K mg "_law_rooms" jP (ad 69) (fd 69) ["_law_state","_law_ties","_law_kind"]
 ab2:FX K mg "_law_ends" mz (ad 70) (fd 70) ["_law_state","_law_shape","_law_places","_law_k"]
 ab3:FX K mg "_law_ring" mB (ad 71) (fd 71) ["_law_script","_law_at","_law_most","_law_count"]
 ab4:FX K mg "law" Ki (ad 72) (fd 72) ["_law_script"]
 abe:mg "abs"=none
 aca:mg "all"=none
 acb:mg "any"=none
 aa1:mg "bool"=none
 aaN:mg "enumerate"=none
 aa2:mg "int"=none
 aaK:mg "isinstance"=none
 aaH:mg "len"=none
 aaM:mg "list"=none
 acd:mg "max"=none
 ab5:mg "min"=none
 aaJ:mg "range"=none
 ab6:mg "reversed"=none
 abf:mg "sorted"=none
 ab7:mg "str"=none
 ace:mg "sum"=none
 abg:mg "tuple"=none
 aaU:mg "zip"=none
 ab8:o3 K mg "BACK" (.str "back")
 acf:o3 K mg "CUT" (.str "cut")
 acg:o3 K mg "FEWEST_TIES" (.int 2)
 ach:o3 K mg "MOST_SEARCHED" (.int 7)
 aci:o3 K mg "MOST_TIES" (.int 12)
 ab9:o3 K mg "NOUGHT" (.tup [(.int 0),(.int 1)])
 aaL:o3 K mg "ON" (.str "on")
 acj:o3 K mg "SPLIT" (.str "split")
 ack:o3 K mg "TURNED" (.str "turned")
section
variable{P:Program}{w:World}{K:W.Frag}{mg:Str->Option Value}{base:Heap}{ad:Nat->Addr}{fd:Nat->FuncData}
theorem cB:aC pA ["one","other"] (aj dS):=⟨rfl,rfl,rfl,y_,rfl,y_,y_⟩
abbrev aaG(T:Tx K mg ad fd)(P:Program)(w:World)(base:Heap)(d i:Nat)(ps:List Str)(n:Nat)(f:FS):Prop:=FnOk P w K mg base CX0 d (ad i) (fd i) ps (spF K n f)
theorem gB(T:Tx K mg ad fd):aaG T P w base 1 0 ["one","other"] 2 cA:=
 a7 (k:=0) T.aa3.f cB dW (λcdv A outer s H E hr=>(ai (qW YF (UD (Ay hr.units) (ae 1) ah (aV _)) (ai (aF (i:=2) cB.nd rfl v6 (az cF (ae 0) (ae 1)))
  (ai (aF (i:=0) cB.nd rfl v6 (ae 1))
  (aq (aF (i:=1) cB.nd rfl v6 (ae 2))))))
  (aq (aE (aN ES rfl T.abe y_ (af (ae 0) ag))))))
  mD
theorem ue:aC uL ["one","other"] (aj gF):=⟨rfl,rfl,rfl,y_,rfl,y_,y_⟩
theorem uf(T:Tx K mg ad fd):aaG T P w base 2 1 ["one","other"] 2 fH:=
 a7 (k:=1) T.abh.f ue gK (λcdv A outer s H E hr=>(aq (aE (az bj (az lp (ae 0) (aL (gB T) T.aa3 hr (af (ae 0) (af (ae 1) ag)))) (ae 1)))))
  qK
theorem BA:aC DP ["thing"] (aj pB):=⟨rfl,rfl,rfl,y_,rfl,y_,y_⟩
theorem ug(T:Tx K mg ad fd):aaG T P w base 1 2 ["thing"] 1 iT:=
 a7 (k:=0) T.aa4.f BA kZ (λcdv A outer s H E hr=>(aq (aE (rF (ji EY rfl T.aaK rfl T.aa2 y_ (ae 0)) (rE (EH (ji qX rfl T.aaK rfl T.aa1 y_ (ae 0))))))))
  zC
theorem uh:aC Kc ["top","bottom"] (aj w8):=⟨rfl,rfl,rfl,y_,rfl,y_,y_⟩
theorem kB(T:Tx K mg ad fd):aaG T P w base 2 3 ["top","bottom"] 2 fJ:=
 a7 (k:=1) T.aaO.f uh xh (λcdv A outer s H E hr=>(ai (aF (i:=2) uh.nd rfl v6 (aA (aL (gB T) T.aa3 hr (af (ae 0) (af (ae 1) ag)))))
  (ai (cC (UD Ax (ae 1) ah (aV _)) (aq (aF (i:=2) uh.nd rfl v6 (ve (ae 2)))) a6)
  (aq (aE (bH (af (az lp (ae 0) (ae 2)) (af (az lp (ae 1) (ae 2)) ag))))))))
  DU
theorem Kp:aC NS ["top","bottom"] (aj Bb):=⟨rfl,rfl,rfl,y_,rfl,y_,y_⟩
theorem Kq(T:Tx K mg ad fd):aaG T P w base 3 4 ["top","bottom"] 2 xi:=
 a7 (k:=2) T.abi.f Kp Bo (λcdv A outer s H E hr=>(ai (cC (UB.pb (yt (yu (cD (aL (ug T) T.aa4 hr (af (ae 0) ag)))) (yt (yu (cD (aL (ug T) T.aa4 hr (af (ae 1) ag)))) (vU (UD (eY hr.units) (ae 1) ah (aV _)))))) (aq m9) a6)
  (aq (aE (aL (kB T) T.aaO hr (af (ae 0) (af (ae 1) ag)))))))
  Ha
theorem N2:aC Qo ["one","other"] (aj G6):=⟨rfl,rfl,rfl,y_,rfl,y_,y_⟩
theorem Hu(T:Tx K mg ad fd):aaG T P w base 3 5 ["one","other"] 2 sY:=
 a7 (k:=2) T.aa5.f N2 Hb (λcdv A outer s H E hr=>(aq (aE (aL (kB T) T.aaO hr (af (aA (az bo (az bj (ax (ae 0) ah aaA) (ax (ae 1) ah aaA)) (az bj (ax (ae 1) ah aaA) (ax (ae 0) ah aaA)))) (af (aA (az bj (ax (ae 0) ah aaA) (ax (ae 1) ah aaA))) ag))))))
  Kj
theorem Kr:aC NT ["one","other"] (aj Bc):=⟨rfl,rfl,rfl,y_,rfl,y_,y_⟩
theorem Ks(T:Tx K mg ad fd):aaG T P w base 3 6 ["one","other"] 2 rm:=
 a7 (k:=2) T.abj.f Kr Bp (λcdv A outer s H E hr=>(aq (aE (aL (kB T) T.aaO hr (af (az cm (az bj (ax (ae 0) ah aaA) (ax (ae 1) ah aaA)) (az bj (ax (ae 1) ah aaA) (ax (ae 0) ah aaA))) (af (aA (az bj (ax (ae 0) ah aaA) (ax (ae 1) ah aaA))) ag))))))
  Hc
theorem Kt:aC NU ["one","other"] (aj Bd):=⟨rfl,rfl,rfl,y_,rfl,y_,y_⟩
theorem xN(T:Tx K mg ad fd):aaG T P w base 3 7 ["one","other"] 2 nQ:=
 a7 (k:=2) T.aaV.f Kt Bq (λcdv A outer s H E hr=>(aq (aE (aL (kB T) T.aaO hr (af (aA (az bj (ax (ae 0) ah aaA) (ax (ae 1) ah aaA))) (af (aA (az bj (ax (ae 0) ah aaA) (ax (ae 1) ah aaA))) ag))))))
  Hf
theorem N3:aC Qp ["one","other"] (aj G7):=⟨rfl,rfl,rfl,y_,rfl,y_,y_⟩
theorem Hv(T:Tx K mg ad fd):aaG T P w base 3 8 ["one","other"] 2 xj:=
 a7 (k:=2) T.aa6.f N3 Hg (λcdv A outer s H E hr=>(ai (cC (UD (eY hr.units) (ax (ae 1) ah aaA) ah (aV _)) (aq m9) a6)
  (aq (aE (aL (kB T) T.aaO hr (af (aA (az bj (ax (ae 0) ah aaA) (ax (ae 1) ah aaA))) (af (aA (az bj (ax (ae 0) ah aaA) (ax (ae 1) ah aaA))) ag)))))))
  Kl
theorem Ku:aC NV ["one","other"] (aj Be):=⟨rfl,rfl,rfl,y_,rfl,y_,y_⟩
theorem xO(T:Tx K mg ad fd):aaG T P w base 1 9 ["one","other"] 2 nR:=
 a7 (k:=0) T.aaW.f Ku Br (λcdv A outer s H E hr=>(aq (aE (dJ Ax (az bj (ax (ae 0) ah aaA) (ax (ae 1) ah aaA)) (az bj (ax (ae 1) ah aaA) (ax (ae 0) ah aaA)) (aV _)))))
  Hh
theorem Hw:aC Kd ["one","other"] (aj w9):=⟨rfl,rfl,rfl,y_,rfl,y_,y_⟩
theorem Hx(T:Tx K mg ad fd):aaG T P w base 2 10 ["one","other"] 2 td:=
 a7 (k:=1) T.abk.f Hw xk (λcdv A outer s H E hr=>(aq (aE (m8 (cD (aL (xO T) T.aaW hr (af (ae 1) (af (ae 0) ag)))) (ae 1) (ae 0)))))
  DV
theorem oP:aC Ke ["some"] (aj xa):=⟨rfl,rfl,rfl,y_,rfl,y_,y_⟩
theorem ui(T:Tx K mg ad fd):aaG T P w base 4 11 ["some"] 1 jQ:=
 a7 (k:=3) T.aaX.f oP xl (λcdv A outer s H E hr=>(ai (aF (i:=1) oP.nd rfl v6 (vj T.ab9 rfl))
  (ai (ft YF rfl (bB (ae 0)) (fo (i:=2) oP.nd rfl v6) (aq (aF (i:=1) oP.nd rfl v6 (aL (Hu T) T.aa5 hr (af (ae 1) (af (ae 2) ag))))))
  (aq (aE (c6 1))))))
  DW
theorem xP:aC qd ["asks","numbers"] (aj gk):=⟨rfl,rfl,rfl,y_,rfl,y_,y_⟩
theorem fc(T:Tx K mg ad fd):aaG T P w base 1 12 ["asks","numbers"] 2 cL:=
 a7 (k:=0) T.aaQ.f xP jR (λcdv A outer s H E hr=>(aq (aE (bq (sc:=(aj gk)) (N:=qd) (Nt:=["ask"]) (Nf:=["numbers"]) (fi:=[1]) rfl rfl rfl (bB (ae 0)) rfl y_ y_ y_ xp rfl y_ xp (λ_ _ _ _=>(bf xp (show((["ask"]:List Str)++(["numbers"]:List Str)).Nodup by decide +kernel) rfl (Or.inl rfl))) (λ_ _ _ _=>a9) (λ_ _ _ _=>(bH (af (ax (ae 0) ah aaA) (af (ax (ae 1) (ax (ae 0) ah aaA) aaA) (af (ax (ae 1) (ax (ae 0) ah aaA) aaA) (af (ax (ae 0) ah aaA) ag))))))))))
  uQ
theorem gZ:aC iH ["ring","many"] (aj dn):=⟨rfl,rfl,rfl,y_,rfl,y_,y_⟩
theorem u3(T:Tx K mg ad fd):aaG T P w base 2 13 ["ring","many"] 2 gL:=
 a7 (k:=1) T.abl.f gZ iU (λcdv A outer s H E hr=>(ai (aF (i:=2) gZ.nd rfl v6 (aA (aN bS rfl T.aaH y_ (af (ax (ae 0) ah aaA) ag))))
  (ai (dP gZ.nd (j:=3) rfl v6 (sc:=(aj dn)) (N:=iH) (Nt:=["tie"]) (Nf:=["ring","many","places"]) (fi:=[0,1,2]) rfl rfl rfl (bN rfl T.aaJ (ae 2)) rfl y_ y_ y_ xp rfl y_ xp (λ_ _ _ _=>(bf xp (show((["tie"]:List Str)++(["ring","many","places"]:List Str)).Nodup by decide +kernel) rfl (Or.inl rfl))) (λ_ _ _ _=>a9) (λ_ _ _ _=>(ax (ax (ae 1) ah aaA) (az cF (az cm (ae 0) (ae 2)) (ae 3)) aaA)))
  (aq (aE (o7 (af (c6 3) (af (aL (fc T) T.aaQ hr (af (ax (ae 0) ah aaA) (af (aA (bq (sc:=(aj dn)) (N:=iH) (Nt:=["place"]) (Nf:=["many","places"]) (fi:=[1,2]) rfl rfl rfl (bN rfl T.aaJ (ae 2)) rfl y_ y_ y_ xp rfl y_ xp (λ_ _ _ _=>(bf xp (show((["place"]:List Str)++(["many","places"]:List Str)).Nodup by decide +kernel) rfl (Or.inl rfl))) (λ_ _ _ _=>a9) (λ_ _ _ _=>(az cF (az bo (ae 0) (ae 1)) (ae 2))))) ag))) ag))))))))
  tq
theorem eS:aC jH ["ring"] (aj dz):=⟨rfl,rfl,rfl,y_,rfl,y_,y_⟩
theorem qR(T:Tx K mg ad fd):aaG T P w base 2 14 ["ring"] 1 eO:=
 a7 (k:=1) T.abm.f eS fK (λcdv A outer s H E hr=>(ai (aF (i:=1) eS.nd rfl v6 (aA (aN bS rfl T.aaH y_ (af (ax (ae 0) ah aaA) ag))))
  (ai (aF (i:=2) eS.nd rfl v6 (az bo (Dq rfl T.aaM rfl T.ab6 rfl (bP (ax (ae 0) ah aaA) trivial (ve ah))) (bP (ax (ae 0) ah aaA) (ve ah) trivial)))
  (aq (aE (o7 (af (c6 2) (af (aL (fc T) T.aaQ hr (af (ax (ae 0) ah aaA) (af (aA (bq (sc:=(aj dz)) (N:=jH) (Nt:=["place"]) (Nf:=["places"]) (fi:=[1]) rfl rfl rfl (bN rfl T.aaJ (ae 1)) rfl y_ y_ y_ xp rfl y_ xp (λ_ _ _ _=>(bf xp (show((["place"]:List Str)++(["places"]:List Str)).Nodup by decide +kernel) rfl (Or.inl rfl))) (λ_ _ _ _=>a9) (λ_ _ _ _=>(az cm (az cm (ae 1) ah) (ae 0))))) ag))) ag))))))))
  pG
theorem l5:aC iI ["ring","size","room"] (aj dA):=⟨rfl,rfl,rfl,y_,rfl,y_,y_⟩
theorem u4(T:Tx K mg ad fd):aaG T P w base 4 15 ["ring","size","room"] 3 gM:=
 a7 (k:=3) T.abn.f l5 iV (λcdv A outer s H E hr=>(ai (dP l5.nd (j:=3) rfl v6 (sc:=(aj dA)) (N:=iI) (Nt:=["ask"]) (Nf:=["size"]) (fi:=[1]) rfl rfl rfl (bB (ax (ae 0) ah aaA)) rfl y_ y_ y_ xp rfl y_ xp (λ_ _ _ _=>(bf xp (show((["ask"]:List Str)++(["size"]:List Str)).Nodup by decide +kernel) rfl (Or.inl rfl))) (λ_ _ _ _=>a9) (λ_ _ _ _=>(az Fx (bP (ae 0) trivial ah) (bH (af (aA (aL (xN T) T.aaV hr (af (ax (ae 0) ah aaA) (af (ae 1) ag)))) ag)))))
  (aq (aE (o7 (af (bq (sc:=(aj dA)) (N:=iI) (Nt:=["one"]) (Nf:=["room"]) (fi:=[2]) rfl rfl rfl (bB (ax (ae 0) ah aaA)) rfl y_ y_ y_ xp rfl y_ xp (λ_ _ _ _=>(bf xp (show((["one"]:List Str)++(["room"]:List Str)).Nodup by decide +kernel) rfl (Or.inl rfl))) (λ_ _ _ _=>a9) (λ_ _ _ _=>(aL (xN T) T.aaV hr (af (ae 0) (af (ae 1) ag))))) (af (c6 3) ag)))))))
  tw
theorem oQ:aC qe ["ring","some"] (aj gm):=⟨rfl,rfl,rfl,y_,rfl,y_,y_⟩
theorem xQ(T:Tx K mg ad fd):aaG T P w base 1 16 ["ring","some"] 2 iW:=
 a7 (k:=0) T.abo.f oQ jW (λcdv A outer s H E hr=>(ai (dP oQ.nd (j:=2) rfl v6 (sc:=(aj gm)) (N:=qe) (Nt:=["k","ask"]) (Nf:=["some"]) (fi:=[1]) rfl rfl rfl (iz rfl T.aaN (ax (ae 0) ah aaA)) rfl y_ y_ y_ xp rfl y_ xp (λ_ _ _ _=>(nv rfl (bJ (i:=0) xp (show((["k","ask"]:List Str)++(["some"]:List Str)).Nodup by decide +kernel) rfl (Or.inl rfl) (bJ (i:=1) xp (show((["k","ask"]:List Str)++(["some"]:List Str)).Nodup by decide +kernel) rfl (Or.inl rfl) iA)))) (λ_ _ _ _=>a9) (λ_ _ _ _=>(m8 (UD OZ (ae 0) (ae 2) rfl) (bH (af (ax (ae 1) ah aaA) (af (ax (ae 1) ah aaA) (af (ax (ae 1) ah aaA) (af (ax (ae 1) ah aaA) ag))))) (ae 1))))
  (aq (aE (o7 (af (nh EV rfl T.aaM y_ (af (ax (ae 0) ah aaA) ag)) (af (c6 2) ag)))))))
  uR
theorem zQ:aC Bf ["cut","place"] (aj ml):=⟨rfl,rfl,rfl,y_,rfl,y_,y_⟩
theorem qw(T:Tx K mg ad fd):aaG T P w base 1 17 ["cut","place"] 2 gu:=
 a7 (k:=0) T.aa7.f zQ mE (λcdv A outer s H E hr=>(aq (aE (Iw Q8 Q9 (ax (ae 0) ah aaA) (ae 1) (ax (ae 0) ah aaA)))))
  xn
theorem uj:aC uM ["cut","one","other"] (aj gG):=⟨rfl,rfl,rfl,y_,rfl,y_,y_⟩
theorem fU(T:Tx K mg ad fd):aaG T P w base 2 18 ["cut","one","other"] 3 cI:=
 a7 (k:=1) T.aaY.f uj gN (λcdv A outer s H E hr=>(aq (aE (dJ (Ay hr.units) (aL (qw T) T.aa7 hr (af (ae 0) (af (ae 1) ag))) (aL (qw T) T.aa7 hr (af (ae 0) (af (ae 2) ag))) (aV _)))))
  qL
theorem Hy:aC CV ["ring","cut"] (aj rk):=⟨rfl,rfl,rfl,y_,rfl,y_,y_⟩
theorem Hz(T:Tx K mg ad fd):aaG T P w base 5 19 ["ring","cut"] 2 tD:=
 a7 (k:=4) T.abp.f Hy xo (λcdv A outer s H E hr=>(aq (aE (aL (ui T) T.aaX hr (af (aA (bq (sc:=(aj rk)) (N:=CV) (Nt:=["ask"]) (Nf:=["cut"]) (fi:=[1]) rfl rfl rfl (bB (ax (ae 0) ah aaA)) rfl y_ y_ y_ xp rfl y_ xp (λ_ _ _ _=>(bf xp (show((["ask"]:List Str)++(["cut"]:List Str)).Nodup by decide +kernel) rfl (Or.inl rfl))) (λ_ _ _ _=>(mh (cD (aL (fU T) T.aaY hr (af (ae 1) (af (ax (ae 0) ah aaA) (af (ax (ae 0) ah aaA) ag))))))) (λ_ _ _ _=>(ax (ae 0) ah aaA)))) ag)))))
  DX
theorem BB:aC DQ ["ring","cut"] (aj pC):=⟨rfl,rfl,rfl,y_,rfl,y_,y_⟩
theorem BC(T:Tx K mg ad fd):aaG T P w base 4 20 ["ring","cut"] 2 mF:=
 a7 (k:=3) T.abq.f BB pH (λcdv A outer s H E hr=>(aq (aE (aL (Hu T) T.aa5 hr (af (ax (ax (ae 0) ah aaA) (ax (ae 1) ah aaA) aaA) (af (ax (ax (ae 0) ah aaA) (ax (ae 1) ah aaA) aaA) ag))))))
  zD
theorem BD:aC DS ["ring","cut"] (aj pD):=⟨rfl,rfl,rfl,y_,rfl,y_,y_⟩
theorem BE(T:Tx K mg ad fd):aaG T P w base 6 21 ["ring","cut"] 2 mG:=
 a7 (k:=5) T.abr.f BD pJ (λcdv A outer s H E hr=>(aq (aE (aL (Hv T) T.aa6 hr (af (aA (aL (Hz T) T.abp hr (af (ae 0) (af (ae 1) ag)))) (af (aA (aL (BC T) T.abq hr (af (ae 0) (af (ae 1) ag)))) ag))))))
  zE
theorem m4:aC vD ["ring"] (aj kT):=⟨rfl,rfl,rfl,y_,rfl,y_,y_⟩
theorem uk(T:Tx K mg ad fd):aaG T P w base 1 22 ["ring"] 1 iX:=
 a7 (k:=0) T.aa8.f m4 pK (λcdv A outer s H E hr=>(ai (aF (i:=1) m4.nd rfl v6 (dM ag))
  (ai (ft YF rfl (bN rfl T.aaJ (aN bS rfl T.aaH y_ (af (ax (ae 0) ah aaA) ag))) (fo (i:=2) m4.nd rfl v6) (aq (iq (Fo 1 (bq (sc:=(aj kT)) (N:=vD) (Nt:=["h"]) (Nf:=["g"]) (fi:=[2]) rfl rfl rfl (BX rfl T.aaJ (ae 2) (aN bS rfl T.aaH y_ (af (ax (ae 0) ah aaA) ag))) rfl y_ y_ y_ xp rfl y_ xp (λ_ _ _ _=>(bf xp (show((["h"]:List Str)++(["g"]:List Str)).Nodup by decide +kernel) rfl (Or.inl rfl))) (λ_ _ _ _=>a9) (λ_ _ _ _=>(bH (af (ae 1) (af (ae 0) ag)))))))))
  (aq (aE (c6 1))))))
  zF
theorem cK:aC uN ["ring"] (aj gH):=⟨rfl,rfl,rfl,y_,rfl,y_,y_⟩
theorem um(T:Tx K mg ad fd):aaG T P w base 7 23 ["ring"] 1 fL:=
 a7 (k:=6) T.abt.f cK gO (λcdv A outer s H E hr=>(ai (aF (i:=1) cK.nd rfl v6 p5)
  (ai (ft YF rfl (bB (aL (uk T) T.aa8 hr (af (ae 0) ag))) (fo (i:=2) cK.nd rfl v6) (ai (aF (i:=3) cK.nd rfl v6 (aA (aL (BE T) T.abr hr (af (ae 0) (af (ae 2) ag)))))
  (aq (cC (UB.pb (yt (UD AC (ae 1) p5 (aV _)) (vU (cD (aL (xO T) T.aaW hr (af (ax (ae 1) ah aaA) (af (ae 3) ag))))))) (aq (aF (i:=1) cK.nd rfl v6 (bH (af (ae 3) (af (ae 2) ag))))) a6))))
  (aq (aE (c6 1))))))
  qM
theorem cY:aC sM ["some"] (aj fF):=⟨rfl,rfl,rfl,y_,rfl,y_,y_⟩
theorem qS(T:Tx K mg ad fd):aaG T P w base 3 24 ["some"] 1 eP:=
 a7 (k:=2) T.abu.f cY fM (λcdv A outer s H E hr=>(ai (aF (i:=1) cY.nd rfl v6 ah)
  (ai (ft YF rfl (bB (ae 0)) (fo (i:=2) cY.nd rfl v6) (aq (aF (i:=1) cY.nd rfl v6 (aL (uf T) T.abh hr (af (ae 1) (af (ax (ae 2) ah aaA) ag))))))
  (aq (aE (c6 1))))))
  pL
theorem BF:aC vE ["some","units"] (aj kU):=⟨rfl,rfl,rfl,y_,rfl,y_,y_⟩
theorem uo(T:Tx K mg ad fd):aaG T P w base 1 25 ["some","units"] 2 iY:=
 a7 (k:=0) T.aa9.f BF pM (λcdv A outer s H E hr=>(aq (aE (bq (sc:=(aj kU)) (N:=vE) (Nt:=["one"]) (Nf:=["units"]) (fi:=[1]) rfl rfl rfl (bB (ae 0)) rfl y_ y_ y_ xp rfl y_ xp (λ_ _ _ _=>(bf xp (show((["one"]:List Str)++(["units"]:List Str)).Nodup by decide +kernel) rfl (Or.inl rfl))) (λ_ _ _ _=>a9) (λ_ _ _ _=>(az bj (ax (ae 0) ah aaA) (az lp (ae 1) (ax (ae 0) ah aaA))))))))
  zG
theorem k8:aC sN ["ring","top"] (aj jI):=⟨rfl,rfl,rfl,y_,rfl,y_,y_⟩
theorem vK(T:Tx K mg ad fd):aaG T P w base 4 26 ["ring","top"] 2 k6:=
 a7 (k:=3) T.aba.f k8 tG (λcdv A outer s H E hr=>(ai (dP k8.nd (j:=2) rfl v6 (sc:=(aj jI)) (N:=sN) (Nt:=["ask"]) (Nf:=[]) (fi:=[]) rfl rfl rfl (bB (ax (ae 0) ah aaA)) rfl y_ y_ y_ xp rfl y_ xp (λ_ _ _ _=>(bf xp (show((["ask"]:List Str)++([]:List Str)).Nodup by decide +kernel) rfl (Or.inl rfl))) (λ_ _ _ _=>a9) (λ_ _ _ _=>(ax (ae 0) ah aaA)))
  (ai (dP k8.nd (j:=3) rfl v6 (sc:=(aj jI)) (N:=sN) (Nt:=["room"]) (Nf:=["top"]) (fi:=[1]) rfl rfl rfl (bB (ax (ae 0) ah aaA)) rfl y_ y_ y_ xp rfl y_ xp (λ_ _ _ _=>(bf xp (show((["room"]:List Str)++(["top"]:List Str)).Nodup by decide +kernel) rfl (Or.inl rfl))) (λ_ _ _ _=>a9) (λ_ _ _ _=>(aL (xN T) T.aaV hr (af (ae 1) (af (ae 0) ag)))))
  (ai (aF (i:=4) k8.nd rfl v6 (aA (az bj ah (aL (qS T) T.abu hr (af (aA (az bo (ae 2) (ae 3))) ag)))))
  (aq (aE (bH (af (ae 4) (af (aA (aL (uo T) T.aa9 hr (af (ae 2) (af (ae 4) ag)))) (af (aA (aL (uo T) T.aa9 hr (af (ae 3) (af (ae 4) ag)))) ag))))))))))
  Bs
theorem zR:aC Bg ["way"] (aj mn):=⟨rfl,rfl,rfl,y_,rfl,y_,y_⟩
theorem zS(T:Tx K mg ad fd):aaG T P w base 1 27 ["way"] 1 jY:=
 a7 (k:=0) T.abv.f zR mH (λcdv A outer s H E hr=>(aq (aE (m8 (UD (eY hr.units) (ae 0) (vj T.aaL rfl) (aV _)) (vj T.ab8 rfl) (vj T.aaL rfl)))))
  xq
theorem k9:aC sO ["ring","k","way"] (aj jJ):=⟨rfl,rfl,rfl,y_,rfl,y_,y_⟩
theorem D1(T:Tx K mg ad fd):aaG T P w base 1 28 ["ring","k","way"] 3 pN:=
 a7 (k:=0) T.abw.f k9 tO (λcdv A outer s H E hr=>(ai (aF (i:=3) k9.nd rfl v6 (aA (aN bS rfl T.aaH y_ (af (ax (ae 0) ah aaA) ag))))
  (ai (aF (i:=4) k9.nd rfl v6 (ax (ax (ax (ae 0) ah aaA) (ae 1) aaA) ah aaA))
  (ai (aF (i:=5) k9.nd rfl v6 (ax (ax (ax (ae 0) ah aaA) (ae 1) aaA) ah aaA))
  (ai (cC (UD (eY hr.units) (ae 2) (vj T.aaL rfl) (aV _)) (aq (aE (bq (sc:=(aj jJ)) (N:=sO) (Nt:=["step"]) (Nf:=["one","places"]) (fi:=[4,3]) rfl rfl rfl (bN rfl T.aaJ (az cF (az cm (ae 5) (ae 4)) (ae 3))) rfl y_ y_ y_ xp rfl y_ xp (λ_ _ _ _=>(bf xp (show((["step"]:List Str)++(["one","places"]:List Str)).Nodup by decide +kernel) rfl (Or.inl rfl))) (λ_ _ _ _=>a9) (λ_ _ _ _=>(az cF (az bo (ae 1) (ae 0)) (ae 2)))))) a6)
  (aq (aE (bq (sc:=(aj jJ)) (N:=sO) (Nt:=["step"]) (Nf:=["one","places"]) (fi:=[4,3]) rfl rfl rfl (bN rfl T.aaJ (az cF (az cm (ae 4) (ae 5)) (ae 3))) rfl y_ y_ y_ xp rfl y_ xp (λ_ _ _ _=>(bf xp (show((["step"]:List Str)++(["one","places"]:List Str)).Nodup by decide +kernel) rfl (Or.inl rfl))) (λ_ _ _ _=>a9) (λ_ _ _ _=>(az cF (az cm (az cm (ae 1) ah) (ae 0)) (ae 2)))))))))))
  Bt
theorem ib:aC G8 ["ring","k","way","tie"] (aj sP):=⟨rfl,rfl,rfl,y_,rfl,y_,y_⟩
theorem pW(T:Tx K mg ad fd):aaG T P w base 1 29 ["ring","k","way","tie"] 4 hX:=
 a7 (k:=0) T.aaZ.f ib tT (λcdv A outer s H E hr=>(ai (aF (i:=4) ib.nd rfl v6 (aA (aN bS rfl T.aaH y_ (af (ax (ae 0) ah aaA) ag))))
  (ai (aF (i:=5) ib.nd rfl v6 (ax (ax (ax (ae 0) ah aaA) (ae 1) aaA) ah aaA))
  (ai (aF (i:=6) ib.nd rfl v6 (ax (ax (ax (ae 0) ah aaA) (ae 1) aaA) ah aaA))
  (ai (aF (i:=7) ib.nd rfl v6 (dJ Ax (az cF (az cm (ae 3) (ae 5)) (ae 4)) (az cF (az cm (ae 6) (ae 5)) (ae 4)) (aV _)))
  (aq (aE (dJ (eY hr.units) (ae 7) (dJ (eY hr.units) (ae 2) (vj T.aaL rfl) (aV _)) (aV _)))))))))
  Bu
theorem zU:aC Bh ["ring","sending","k","tie"] (aj mq):=⟨rfl,rfl,rfl,y_,rfl,y_,y_⟩
theorem zV(T:Tx K mg ad fd):aaG T P w base 4 30 ["ring","sending","k","tie"] 4 jZ:=
 a7 (k:=3) T.abx.f zU mI (λcdv A outer s H E hr=>(ai (cC (cD (aL (pW T) T.aaZ hr (af (ae 0) (af (ae 2) (af (vj T.aaL rfl) (af (ae 3) ag)))))) (aq (aE (ax (ae 1) (ae 2) aaA))) a6)
  (aq (aE (aL (Ks T) T.abj hr (af (ax (ax (ax (ae 0) ah aaA) (ae 2) aaA) ah aaA) (af (ax (ae 1) (ae 2) aaA) ag)))))))
  xr
theorem D2:aC zv ["ring","sending","tie"] (aj nO):=⟨rfl,rfl,rfl,y_,rfl,y_,y_⟩
theorem D3(T:Tx K mg ad fd):aaG T P w base 5 31 ["ring","sending","tie"] 3 pO:=
 a7 (k:=4) T.aby.f D2 tV (λcdv A outer s H E hr=>(aq (aE (aL (ui T) T.aaX hr (af (aA (bq (sc:=(aj nO)) (N:=zv) (Nt:=["k"]) (Nf:=["ring","sending","tie"]) (fi:=[0,1,2]) rfl rfl rfl (bN rfl T.aaJ (aN bS rfl T.aaH y_ (af (ax (ae 0) ah aaA) ag))) rfl y_ y_ y_ xp rfl y_ xp (λ_ _ _ _=>(bf xp (show((["k"]:List Str)++(["ring","sending","tie"]:List Str)).Nodup by decide +kernel) rfl (Or.inl rfl))) (λ_ _ _ _=>a9) (λ_ _ _ _=>(aL (zV T) T.abx hr (af (ae 1) (af (ae 2) (af (ae 0) (af (ae 3) ag)))))))) ag)))))
  Bv
theorem BG:aC vF ["ring","sending"] (aj kW):=⟨rfl,rfl,rfl,y_,rfl,y_,y_⟩
theorem BH(T:Tx K mg ad fd):aaG T P w base 6 32 ["ring","sending"] 2 mJ:=
 a7 (k:=5) T.abz.f BG pP (λcdv A outer s H E hr=>(aq (aE (bq (sc:=(aj kW)) (N:=vF) (Nt:=["tie"]) (Nf:=["ring","sending"]) (fi:=[0,1]) rfl rfl rfl (bN rfl T.aaJ (aN bS rfl T.aaH y_ (af (ax (ae 0) ah aaA) ag))) rfl y_ y_ y_ xp rfl y_ xp (λ_ _ _ _=>(bf xp (show((["tie"]:List Str)++(["ring","sending"]:List Str)).Nodup by decide +kernel) rfl (Or.inl rfl))) (λ_ _ _ _=>a9) (λ_ _ _ _=>(aL (D3 T) T.aby hr (af (ae 1) (af (ae 2) (af (ae 0) ag)))))))))
  zH
theorem xR:aC qf ["ring","sending"] (aj gn):=⟨rfl,rfl,rfl,y_,rfl,y_,y_⟩
theorem xS(T:Tx K mg ad fd):aaG T P w base 7 33 ["ring","sending"] 2 iZ:=
 a7 (k:=6) T.abA.f xR j4 (λcdv A outer s H E hr=>(aq (aE (bq (sc:=(aj gn)) (N:=qf) (Nt:=["load","room"]) (Nf:=[]) (fi:=[]) rfl rfl rfl (Fn rfl T.aaU (aL (BH T) T.abz hr (af (ae 0) (af (ae 1) ag))) (ax (ae 0) ah aaA)) rfl y_ y_ y_ xp rfl y_ xp (λ_ _ _ _=>(nv rfl (bJ (i:=0) xp (show((["load","room"]:List Str)++([]:List Str)).Nodup by decide +kernel) rfl (Or.inl rfl) (bJ (i:=1) xp (show((["load","room"]:List Str)++([]:List Str)).Nodup by decide +kernel) rfl (Or.inl rfl) iA)))) (λ_ _ _ _=>a9) (λ_ _ _ _=>(aL (Hv T) T.aa6 hr (af (ae 0) (af (ae 1) ag))))))))
  uS
theorem ie:aC Kg ["ring","sending"] (aj xb):=⟨rfl,rfl,rfl,y_,rfl,y_,y_⟩
theorem HD(T:Tx K mg ad fd):aaG T P w base 8 34 ["ring","sending"] 2 tX:=
 a7 (k:=7) T.abB.f ie xt (λcdv A outer s H E hr=>(ai (aF (i:=2) ie.nd rfl v6 (aA (aL (xS T) T.abA hr (af (ae 0) (af (ae 1) ag)))))
  (ai (aF (i:=3) ie.nd rfl v6 ah)
  (ai (ft YF rfl (iz rfl T.aaN (ae 2)) (yw rfl (d4 (i:=4) ie.nd rfl v6 (d4 (i:=5) ie.nd rfl v6 rK))) (aq (cC (cD (aL (xO T) T.aaW hr (af (ax (ae 2) (ae 3) aaA) (af (ae 5) ag)))) (aq (aF (i:=3) ie.nd rfl v6 (ae 4))) a6)))
  (aq (aE (bH (af (ax (ae 2) (ae 3) aaA) (af (ae 3) ag)))))))))
  DZ
theorem D4:aC zw ["ring","ways"] (aj nP):=⟨rfl,rfl,rfl,y_,rfl,y_,y_⟩
theorem D5(T:Tx K mg ad fd):aaG T P w base 1 35 ["ring","ways"] 2 pQ:=
 a7 (k:=0) T.abC.f D4 tZ (λcdv A outer s H E hr=>(aq (aE (bq (sc:=(aj nP)) (N:=zw) (Nt:=["ask","way"]) (Nf:=[]) (fi:=[]) rfl rfl rfl (Fn rfl T.aaU (ax (ae 0) ah aaA) (ae 1)) rfl y_ y_ y_ xp rfl y_ xp (λ_ _ _ _=>(nv rfl (bJ (i:=0) xp (show((["ask","way"]:List Str)++([]:List Str)).Nodup by decide +kernel) rfl (Or.inl rfl) (bJ (i:=1) xp (show((["ask","way"]:List Str)++([]:List Str)).Nodup by decide +kernel) rfl (Or.inl rfl) iA)))) (λ_ _ _ _=>a9) (λ_ _ _ _=>(m8 (UD (eY hr.units) (ae 1) (vj T.aaL rfl) (aV _)) (ax (ae 0) ah aaA) (vj T.ab9 rfl)))))))
  Bw
theorem HE:aC Kh ["ring","ways"] (aj xc):=⟨rfl,rfl,rfl,y_,rfl,y_,y_⟩
theorem HF(T:Tx K mg ad fd):aaG T P w base 9 36 ["ring","ways"] 2 t5:=
 a7 (k:=8) T.abD.f HE xu (λcdv A outer s H E hr=>(aq (aE (ax (aL (HD T) T.abB hr (af (ae 0) (af (aA (aL (D5 T) T.abC hr (af (ae 0) (af (ae 1) ag)))) ag))) ah aaA))))
  D0
theorem qx:aC sQ ["elder","ways"] (aj iJ):=⟨rfl,rfl,rfl,y_,rfl,y_,y_⟩
theorem zW(T:Tx K mg ad fd):aaG T P w base 2 37 ["elder","ways"] 2 j5:=
 a7 (k:=1) T.abE.f qx mK (λcdv A outer s H E hr=>(ai (aF (i:=2) qx.nd rfl v6 (aA (vo rfl T.aaM rfl T.aaU rfl (af (ae 0) (af (ae 1) ag)))))
  (aq (aE (bq (sc:=(aj iJ)) (N:=sQ) (Nt:=["k","pair"]) (Nf:=[]) (fi:=[]) rfl rfl rfl (iz rfl T.aaN (ae 2)) rfl y_ y_ y_ xp rfl y_ xp (λ_ _ _ _=>(nv rfl (bJ (i:=0) xp (show((["k","pair"]:List Str)++([]:List Str)).Nodup by decide +kernel) rfl (Or.inl rfl) (bJ (i:=1) xp (show((["k","pair"]:List Str)++([]:List Str)).Nodup by decide +kernel) rfl (Or.inl rfl) iA)))) (λ_ _ _ _=>(mh (UB.pb (EF (UD B2 (ax (ae 1) ah aaA) p5 (aV _)) (BU (UD (eY hr.units) (ax (ae 1) ah aaA) (aL (zS T) T.abv hr (af (ax (ae 1) ah aaA) ag)) (aV _))))))) (λ_ _ _ _=>(ae 0)))))))
  xv
theorem u5:aC xf ["wish","load","bound"] (aj iK):=⟨rfl,rfl,rfl,y_,rfl,y_,y_⟩
theorem u6(T:Tx K mg ad fd):aaG T P w base 1 38 ["wish","load","bound"] 3 gQ:=
 a7 (k:=0) T.abF.f u5 i4 (λcdv A outer s H E hr=>(aq (aE (Q5 (dJ yz (ae 1) (ae 2) (aV _)) (rE (rF (ax (ae 0) ah aaA) (rE (dJ (eY hr.units) (ae 1) (ae 2) (aV _)))))))))
  t6
theorem uu:aC uO ["wish","ways"] (aj gI):=⟨rfl,rfl,rfl,y_,rfl,y_,y_⟩
theorem uv(T:Tx K mg ad fd):aaG T P w base 3 39 ["wish","ways"] 2 fN:=
 a7 (k:=2) T.abG.f uu gR (λcdv A outer s H E hr=>(aq (aE (dJ yz (aN bS rfl T.aaH y_ (af (aA (aL (zW T) T.abE hr (af (ax (ae 0) ah aaA) (af (ae 1) ag)))) ag)) (ax (ae 0) ah aaA) (aV _)))))
  qN
theorem dZ:aC qJ ["wish","bounds","fixed","loads"] (aj eN):=⟨rfl,rfl,rfl,y_,rfl,y_,y_⟩
theorem pX(T:Tx K mg ad fd):aaG T P w base 4 40 ["wish","bounds","fixed","loads"] 4 dX:=
 a7 (k:=3) T.abH.f dZ eQ (λcdv A outer s H E hr=>(ai (cC (cD (aL (uv T) T.abG hr (af (ae 0) (af (ae 2) ag)))) (aq (aE (bH (af (vj T.ack rfl) ag)))) a6)
  (ai (ft YF rfl (bB (ae 1)) (yw rfl (d4 (i:=4) dZ.nd rfl v6 (d4 (i:=5) dZ.nd rfl v6 rK))) (aq (cC (cD (aL (u6 T) T.abF hr (af (ae 0) (af (aA (az bo (ax (ae 3) (ax (ae 4) ah aaA) aaA) (ax (ae 3) (ax (ae 4) ah aaA) aaA))) (af (ae 5) ag))))) (aq (aE (bH (af (vj T.acf rfl) (af (ax (ae 4) ah aaA) (af (ax (ae 4) ah aaA) ag)))))) a6)))
  (aq (aE p5)))))
  nU
theorem dc:aC vG ["ring","wish","sizes","bounds","fixed","loads"] (aj kX):=⟨rfl,rfl,rfl,y_,rfl,y_,y_⟩
theorem qy(T:Tx K mg ad fd):∀ n,FnOk P w K mg base CX0 (5+n) (ad 41) (fd 41) ["ring","wish","sizes","bounds","fixed","loads"] (spF K 6 (cJ n))
 |0=>Fy Bx
 | n+1=>a7 (k:=5+n) T.abb.f dc (pR (cJ n)) (λcdv A outer s H E hr=>by exact(@ai _ _ _ _ _ (@aF _ _ _ 6 _ _ _ dc.nd rfl v6 (@aA _ _ _ (aN bS rfl T.aaH y_ (@af _ _ _ _ _ _ (ae 4) ag z_))) z_ acT) (@ai _ _ _ _ _ (@aF _ _ _ 7 _ _ _ dc.nd rfl v6 (@aA _ _ _ (aL (pX T) T.abH hr (@af _ _ _ _ _ _ (ae 1) (@af _ _ _ _ _ _ (@ax _ _ _ _ _ _ (ae 3) (@az _ _ _ _ _ _ _ _ cm (aN bS rfl T.aaH y_ (@af _ _ _ _ _ _ (ae 2) ag z_)) (ae 6)) aaA) (@af _ _ _ _ _ _ (ae 4) (@af _ _ _ _ _ _ (ae 5) ag z_) z_) z_) z_) (hk:=by omega))) z_ acT) (@ai _ _ _ _ _ (@cC _ _ _ _ _ _ _ _ (UD B2 (ae 7) p5 (aV _)) (@aq _ _ _ (@aE _ _ _ _ (@bH _ _ _ _ _ _ (@af _ _ _ _ _ _ vd (@af _ _ _ _ _ _ (ae 7) ag z_) z_)))) a6) (@ai _ _ _ _ _ (@cC _ _ _ _ _ _ _ _ (UD (eY hr.units) (ae 6) (aN bS rfl T.aaH y_ (@af _ _ _ _ _ _ (ae 2) ag z_)) (aV _)) (@aq _ _ _ (@aE _ _ _ _ (@bH _ _ _ _ _ _ (@af _ _ _ _ _ _ vd (@af _ _ _ _ _ _ (ae 4) ag z_) z_)))) a6) (@ai _ _ _ _ _ (@aF _ _ _ 8 _ _ _ dc.nd rfl v6 (@dM _ _ _ _ _ ag) z_ acT) (@ai _ _ _ _ _ (ft YF rfl (bB (@bH _ _ _ _ _ _ (@af _ _ _ _ _ _ (vj T.aaL rfl) (@af _ _ _ _ _ _ (vj T.ab8 rfl) ag z_) z_))) (fo (i:=9) dc.nd rfl v6) (@ai _ _ _ _ _ (dP dc.nd (j:=10) rfl v6 (sc:=(aj kX)) (N:=vG) (Nt:=[ "tie" ,"load" ]) (Nf:=[ "ring" ,"k" ,"way" ,"sizes" ]) (fi:=[0,6,9,2]) rfl rfl rfl (iz rfl T.aaN (ae 5)) rfl y_ y_ y_ xp rfl y_ xp (λ_ _ _ _=>(nv rfl (bJ (i:=0) xp (show(([ "tie" ,"load" ]:List Str)++([ "ring" ,"k" ,"way" ,"sizes" ]:List Str)).Nodup by decide +kernel) rfl (Or.inl rfl) (bJ (i:=1) xp (show(([ "tie" ,"load" ]:List Str)++([ "ring" ,"k" ,"way" ,"sizes" ]:List Str)).Nodup by decide +kernel) rfl (Or.inl rfl) iA)))) (λ_ _ _ _=>a9) (λ_ _ _ _=>(@az _ _ _ _ _ _ _ _ bo (ae 1) (@m8 _ _ _ _ _ _ _ _ (cD (aL (pW T) T.aaZ hr (@af _ _ _ _ _ _ (ae 2) (@af _ _ _ _ _ _ (ae 3) (@af _ _ _ _ _ _ (ae 4) (@af _ _ _ _ _ _ (ae 0) ag z_) z_) z_) z_) (hk:=by omega))) (@ax _ _ _ _ _ _ (ae 5) (ae 3) aaA) ah)))) (@ai _ _ _ _ _ (@aF _ _ _ 11 _ _ _ dc.nd rfl v6 (aL (qy T n) T.abb hr (@af _ _ _ _ _ _ (ae 0) (@af _ _ _ _ _ _ (ae 1) (@af _ _ _ _ _ _ (ae 2) (@af _ _ _ _ _ _ (ae 3) (@af _ _ _ _ _ _ (@aA _ _ _ (@az _ _ _ _ _ _ _ _ bo (ae 4) (@dM _ _ _ _ _ (@af _ _ _ _ _ _ (ae 9) ag z_)))) (@af _ _ _ _ _ _ (ae 10) ag z_) z_) z_) z_) z_) z_) (hk:=by omega)) z_ acT) (@ai _ _ _ _ _ (@cC _ _ _ _ _ _ _ _ (UD (eY hr.units) (@ax _ _ _ _ _ _ (ae 11) ah aaA) vd (aV _)) (@aq _ _ _ (@aE _ _ _ _ (c6 11))) a6) (@aq _ _ _ (iq (eD 8 (@ax _ _ _ _ _ _ (ae 11) ah aaA)))))))) (@aq _ _ _ (@aE _ _ _ _ (@bH _ _ _ _ _ _ (@af _ _ _ _ _ _ vd (@af _ _ _ _ _ _ (@bH _ _ _ _ _ _ (@af _ _ _ _ _ _ (vj T.acj rfl) (@af _ _ _ _ _ _ (ae 6) (@af _ _ _ _ _ _ (@jz _ _ _ _ _ (lq 8 ah aaA) (@ax _ _ _ _ _ _ (ae 8) ah aaA)) (@af _ _ _ _ _ _ (@jz _ _ _ _ _ (lq 8 ah aaA) (@ax _ _ _ _ _ _ (ae 8) ah aaA)) ag z_) z_) z_) z_)) ag z_) z_)))))))))))
  (zJ n)
theorem BI(T:Tx K mg ad fd):aaG T P w base 14 41 ["ring","wish","sizes","bounds","fixed","loads"] 6 t7:=qy T 9
theorem eG:aC mr ["ring","scale"] (aj fG):=⟨rfl,rfl,rfl,y_,rfl,y_,y_⟩
theorem zX(T:Tx K mg ad fd):aaG T P w base 3 42 ["ring","scale"] 2 j8:=
 a7 (k:=2) T.abI.f eG mL (λcdv A outer s H E hr=>(ai (aF (i:=2) eG.nd rfl v6 (ax (ae 1) ah aaA))
  (ai (aF (i:=3) eG.nd rfl v6 (dM (af (aA (bq (sc:=(aj fG)) (N:=mr) (Nt:=["cut"]) (Nf:=["most"]) (fi:=[2]) rfl rfl rfl (bB (aL (uk T) T.aa8 hr (af (ae 0) ag))) rfl y_ y_ y_ xp rfl y_ xp (λ_ _ _ _=>(bf xp (show((["cut"]:List Str)++(["most"]:List Str)).Nodup by decide +kernel) rfl (Or.inl rfl))) (λ_ _ _ _=>a9) (λ_ _ _ _=>(bH (af (ae 0) (af (aA (az bo (ax (ae 1) (ax (ae 0) ah aaA) aaA) (ax (ae 1) (ax (ae 0) ah aaA) aaA))) ag)))))) ag)))
  (ai (ft YF rfl (MA rfl T.ab6 (vo rfl T.aaM rfl T.aaU rfl (af (ax (ae 0) ah aaA) (af (ax (ae 1) ah aaA) ag)))) (yw rfl (d4 (i:=4) eG.nd rfl v6 (d4 (i:=5) eG.nd rfl v6 rK))) (aq (iq (eD 3 (bq (sc:=(aj fG)) (N:=mr) (Nt:=["cut","bound"]) (Nf:=["ask","size"]) (fi:=[4,5]) rfl rfl rfl (bB (jz (lq 3 (ve ah) aaA) (ax (ae 3) (ve ah) aaA))) rfl y_ y_ y_ xp rfl y_ xp (λ_ _ _ _=>(nv rfl (bJ (i:=0) xp (show((["cut","bound"]:List Str)++(["ask","size"]:List Str)).Nodup by decide +kernel) rfl (Or.inl rfl) (bJ (i:=1) xp (show((["cut","bound"]:List Str)++(["ask","size"]:List Str)).Nodup by decide +kernel) rfl (Or.inl rfl) iA)))) (λ_ _ _ _=>a9) (λ_ _ _ _=>(bH (af (ae 0) (af (az cm (ae 1) (m8 (cD (aL (fU T) T.aaY hr (af (ae 0) (af (ax (ae 2) ah aaA) (af (ax (ae 2) ah aaA) ag))))) (ae 3) ah)) ag)))))))))
  (aq (aE (c6 3)))))))
  xy
theorem uw:aC vH ["ring","wish"] (aj kY):=⟨rfl,rfl,rfl,y_,rfl,y_,y_⟩
theorem BJ(T:Tx K mg ad fd):aaG T P w base 15 43 ["ring","wish"] 2 mM:=
 a7 (k:=14) T.abJ.f uw pS (λcdv A outer s H E hr=>(ai (cC (UD yz (aN bS rfl T.aaH y_ (af (ax (ae 0) ah aaA) ag)) (vj T.ach rfl) (aV _)) (aq m9) a6)
  (ai (aF (i:=2) uw.nd rfl v6 (aA (aL (vK T) T.aba hr (af (ae 0) (af (ax (ae 1) ah aaA) ag)))))
  (aq (aE (aL (BI T) T.abb hr (af (ae 0) (af (ae 1) (af (ax (ae 2) ah aaA) (af (aA (aL (zX T) T.abI hr (af (ae 0) (af (ae 2) ag)))) (af (aA (dM ag)) (af (aA (bq (sc:=(aj kY)) (N:=vH) (Nt:=["room"]) (Nf:=[]) (fi:=[]) rfl rfl rfl (bB (ax (ae 0) ah aaA)) rfl y_ y_ y_ xp rfl y_ xp (λ_ _ _ _=>(bf xp (show((["room"]:List Str)++([]:List Str)).Nodup by decide +kernel) rfl (Or.inl rfl))) (λ_ _ _ _=>a9) (λ_ _ _ _=>ah))) ag))))))))))))
  zK
theorem qT:aC jK ["ring","top"] (aj dB):=⟨rfl,rfl,rfl,y_,rfl,y_,y_⟩
theorem qU(T:Tx K mg ad fd):aaG T P w base 1 44 ["ring","top"] 2 eR:=
 a7 (k:=0) T.abK.f qT fO (λcdv A outer s H E hr=>(aq (aE (bH (af (ae 1) (af vT (af (aA (bq (sc:=(aj dB)) (N:=jK) (Nt:=["ask"]) (Nf:=[]) (fi:=[]) rfl rfl rfl (bB (ax (ae 0) ah aaA)) rfl y_ y_ y_ xp rfl y_ xp (λ_ _ _ _=>(bf xp (show((["ask"]:List Str)++([]:List Str)).Nodup by decide +kernel) rfl (Or.inl rfl))) (λ_ _ _ _=>a9) (λ_ _ _ _=>p5))) (af ah ag))))))))
  pT
theorem eI:aC sR ["ring"] (aj iL):=⟨rfl,rfl,rfl,y_,rfl,y_,y_⟩
theorem zY(T:Tx K mg ad fd):aaG T P w base 16 45 ["ring"] 1 j9:=
 a7 (k:=15) T.abL.f eI mN (λcdv A outer s H E hr=>(ai (dP eI.nd (j:=1) rfl v6 (sc:=(aj iL)) (N:=sR) (Nt:=["ask"]) (Nf:=[]) (fi:=[]) rfl rfl rfl (bB (ax (ae 0) ah aaA)) rfl y_ y_ y_ xp rfl y_ xp (λ_ _ _ _=>(bf xp (show((["ask"]:List Str)++([]:List Str)).Nodup by decide +kernel) rfl (Or.inl rfl))) (λ_ _ _ _=>a9) (λ_ _ _ _=>(vj T.aaL rfl)))
  (aq (qW YF (cD vT) (ai (aF (i:=2) eI.nd rfl v6 (aA (aL (HF T) T.abD hr (af (ae 0) (af (ae 1) ag)))))
  (ai (aF (i:=3) eI.nd rfl v6 (aA (aL (BJ T) T.abJ hr (af (ae 0) (af (aA (aL (qU T) T.abK hr (af (ae 0) (af (ae 2) ag)))) ag)))))
  (ai (cC (UD (eY hr.units) (ax (ae 3) ah aaA) vd (aV _)) (aq (aE (bH (af (ae 2) (af (ae 1) (af (ax (ae 3) ah aaA) ag)))))) a6)
  (aq (aF (i:=1) eI.nd rfl v6 (ax (ae 3) ah aaA))))))))))
  xA
theorem kC:aC lz ["ring","k","waiting","cut"] (aj d8):=⟨rfl,rfl,rfl,y_,rfl,y_,y_⟩
theorem uy(T:Tx K mg ad fd):aaG T P w base 3 46 ["ring","k","waiting","cut"] 4 fP:=
 a7 (k:=2) T.abM.f kC gS (λcdv A outer s H E hr=>(ai (aF (i:=4) kC.nd rfl v6 (ax (ae 0) ah aaA))
  (aq (aE (aN (Pb rfl) rfl T.ace y_ (af (aA (bq (sc:=(aj d8)) (N:=lz) (Nt:=["j"]) (Nf:=["waiting","cut","asks"]) (fi:=[2,3,4]) rfl rfl rfl (BX rfl T.aaJ (az bo (ae 1) ah) (aN bS rfl T.aaH y_ (af (ae 4) ag))) rfl y_ y_ y_ xp rfl y_ xp (λ_ _ _ _=>(bf xp (show((["j"]:List Str)++(["waiting","cut","asks"]:List Str)).Nodup by decide +kernel) rfl (Or.inl rfl))) (λ_ _ _ _=>(mh (cD (aL (fU T) T.aaY hr (af (ae 2) (af (ax (ax (ae 3) (ae 0) aaA) ah aaA) (af (ax (ax (ae 3) (ae 0) aaA) ah aaA) ag))))))) (λ_ _ _ _=>(ax (ae 1) (ae 0) aaA)))) ag))))))
  qO
theorem fh:aC G9 ["ring","k","waiting","free"] (aj sS):=⟨rfl,rfl,rfl,y_,rfl,y_,y_⟩
theorem D6(T:Tx K mg ad fd):aaG T P w base 4 47 ["ring","k","waiting","free"] 4 pU:=
 a7 (k:=3) T.abN.f fh ub (λcdv A outer s H E hr=>(ai (aF (i:=4) fh.nd rfl v6 (aA (aN Ft rfl T.abf y_ (af (aA (aL (D1 T) T.abw hr (af (ae 0) (af (ae 1) (af (vj T.aaL rfl) ag))))) ag))))
  (ai (aF (i:=5) fh.nd rfl v6 (aA (az bj ah (ax (ae 2) (ae 1) aaA))))
  (ai (ft YF rfl (bB (ae 4)) (fo (i:=6) fh.nd rfl v6) (aq (ft YF rfl (bB (ae 4)) (fo (i:=7) fh.nd rfl v6) (aq (cC (UD OS (ae 6) (ae 7) (aV _)) (aq (aF (i:=5) fh.nd rfl v6 (aA (aN (KG rfl) rfl T.ab5 y_ (af (ae 5) (af (az cm (az bo (ax (ae 3) (ae 6) aaA) (ax (ae 3) (ae 7) aaA)) (aL (uy T) T.abM hr (af (ae 0) (af (ae 1) (af (ae 2) (af (bH (af (ae 6) (af (ae 7) ag))) ag)))))) ag)))))) a6)))))
  (aq (aE (az lp (ae 5) ah)))))))
  By
theorem z0:aC sT ["ring","k","free","part","rest"] (aj iM):=⟨rfl,rfl,rfl,y_,rfl,y_,y_⟩
theorem z5(T:Tx K mg ad fd):aaG T P w base 2 48 ["ring","k","free","part","rest"] 5 ka:=
 a7 (k:=1) T.abO.f z0 mO (λcdv A outer s H E hr=>(aq (aE (bq (sc:=(aj iM)) (N:=sT) (Nt:=["tie","room"]) (Nf:=["ring","k","part","rest"]) (fi:=[0,1,3,4]) rfl rfl rfl (iz rfl T.aaN (ae 2)) rfl y_ y_ y_ xp rfl y_ xp (λ_ _ _ _=>(nv rfl (bJ (i:=0) xp (show((["tie","room"]:List Str)++(["ring","k","part","rest"]:List Str)).Nodup by decide +kernel) rfl (Or.inl rfl) (bJ (i:=1) xp (show((["tie","room"]:List Str)++(["ring","k","part","rest"]:List Str)).Nodup by decide +kernel) rfl (Or.inl rfl) iA)))) (λ_ _ _ _=>a9) (λ_ _ _ _=>(az cm (ae 1) (m8 (cD (aL (pW T) T.aaZ hr (af (ae 2) (af (ae 3) (af (vj T.aaL rfl) (af (ae 0) ag)))))) (ae 4) (ae 5))))))))
  xB
theorem aY:aC pE ["ring","top"] (aj dU):=⟨rfl,rfl,rfl,y_,rfl,y_,y_⟩
theorem oR(T:Tx K mg ad fd):aaG T P w base 5 49 ["ring","top"] 2 dD:=
 a7 (k:=4) T.abP.f aY dY (λcdv A outer s H E hr=>by exact(@ai _ _ _ _ _ (@aF _ _ _ 2 _ _ _ aY.nd rfl v6 (@aA _ _ _ (aL (vK T) T.aba hr (@af _ _ _ _ _ _ (ae 0) (@af _ _ _ _ _ _ (ae 1) ag z_) z_))) z_ acT) (@ai _ _ _ _ _ (@aF _ _ _ 3 _ _ _ aY.nd rfl v6 (@ax _ _ _ _ _ _ (ae 2) ah aaA) z_ acT) (@ai _ _ _ _ _ (@aF _ _ _ 4 _ _ _ aY.nd rfl v6 (@ax _ _ _ _ _ _ (ae 2) ah aaA) z_ acT) (@ai _ _ _ _ _ (@aF _ _ _ 5 _ _ _ aY.nd rfl v6 (@dM _ _ _ _ _ ag) z_ acT) (@ai _ _ _ _ _ (ft YF rfl (iz rfl T.aaN (ae 3)) (yw rfl (d4 (i:=6) aY.nd rfl v6 (d4 (i:=7) aY.nd rfl v6 rK))) (@ai _ _ _ _ _ (@aF _ _ _ 8 _ _ _ aY.nd rfl v6 (@aA _ _ _ (aL (D6 T) T.abN hr (@af _ _ _ _ _ _ (ae 0) (@af _ _ _ _ _ _ (ae 6) (@af _ _ _ _ _ _ (ae 3) (@af _ _ _ _ _ _ (ae 4) ag z_) z_) z_) z_))) z_ acT) (@ai _ _ _ _ _ (@aF _ _ _ 4 _ _ _ aY.nd rfl v6 (@aA _ _ _ (aL (z5 T) T.abO hr (@af _ _ _ _ _ _ (ae 0) (@af _ _ _ _ _ _ (ae 6) (@af _ _ _ _ _ _ (ae 4) (@af _ _ _ _ _ _ (ae 8) (@af _ _ _ _ _ _ (@az _ _ _ _ _ _ _ _ cm (ae 7) (ae 8)) ag z_) z_) z_) z_) z_))) z_ acT) (@aq _ _ _ (iq (eD 5 (aL (Kq T) T.abi hr (@af _ _ _ _ _ _ (ae 8) (@af _ _ _ _ _ _ (@ax _ _ _ _ _ _ (ae 2) ah aaA) ag z_) z_)))))))) (@aq _ _ _ (@aE _ _ _ _ (c6 5)))))))))
  mP
theorem qz:aC Bi ["ring"] (aj mv):=⟨rfl,rfl,rfl,y_,rfl,y_,y_⟩
theorem z6(T:Tx K mg ad fd):aaG T P w base 8 50 ["ring"] 1 kb:=
 a7 (k:=7) T.abQ.f qz mQ (λcdv A outer s H E hr=>(ai (aF (i:=1) qz.nd rfl v6 (aA (aL (um T) T.abt hr (af (ae 0) ag))))
  (aq (aE (o7 (af (ax (ae 1) ah aaA) (af (aL (oR T) T.abP hr (af (ae 0) (af (ax (ae 1) ah aaA) ag))) (af (ax (ae 1) ah aaA) ag))))))))
  xC
theorem kD:aC sU ["ring","tie"] (aj iN):=⟨rfl,rfl,rfl,y_,rfl,y_,y_⟩
theorem z7(T:Tx K mg ad fd):aaG T P w base 2 51 ["ring","tie"] 2 kc:=
 a7 (k:=1) T.abR.f kD mR (λcdv A outer s H E hr=>(ai (aF (i:=2) kD.nd rfl v6 (ax (ae 0) ah aaA))
  (ai (cC (UD OT (aN bS rfl T.aaH y_ (af (ae 2) ag)) (vj T.aci rfl) (aV _)) (aq m9) a6)
  (ai (Pg 3 (dP kD.nd (j:=3) rfl v6 (sc:=(aj iN)) (N:=sU) (Nt:=["place"]) (Nf:=["tie"]) (fi:=[1]) rfl rfl rfl (bN rfl T.aaJ (aN bS rfl T.aaH y_ (af (ae 2) ag))) rfl y_ y_ y_ xp rfl y_ xp (λ_ _ _ _=>(bf xp (show((["place"]:List Str)++(["tie"]:List Str)).Nodup by decide +kernel) rfl (Or.inl rfl))) (λ_ _ _ _=>a9) (λ_ _ _ _=>(m8 (UD yz (ae 0) (ae 1) (aV _)) (az bo (ae 0) ah) (ae 0)))))
  (aq (aE (bH (af (aA (az bo (bP (ae 2) trivial (az bo (ae 1) ah)) (bP (ae 2) (ae 1) trivial))) (af (aA (aL (fc T) T.aaQ hr (af (ax (ae 0) ah aaA) (af (ae 3) ag)))) ag)))))))))
  xD
theorem kE:aC uP ["rooms","place"] (aj gJ):=⟨rfl,rfl,rfl,y_,rfl,y_,y_⟩
theorem uz(T:Tx K mg ad fd):aaG T P w base 3 52 ["rooms","place"] 2 fR:=
 a7 (k:=2) T.abS.f kE gT (λcdv A outer s H E hr=>(ai (aF (i:=2) kE.nd rfl v6 (aA (aL (Hx T) T.abk hr (af (ax (ae 0) (az cm (ae 1) ah) aaA) (af (ax (ae 0) (ae 1) aaA) ag)))))
  (ai (cC (UD (eY hr.units) (ae 1) ah (aV _)) (aq (aE (az bo (bP (ae 0) ah (ve ah)) (dM (af (ae 2) ag))))) a6)
  (aq (aE (az bo (az bo (bP (ae 0) trivial (az cm (ae 1) ah)) (dM (af (ae 2) ag))) (bP (ae 0) (az bo (ae 1) ah) trivial)))))))
  qP
theorem l6:aC iO ["ring","place"] (aj dC):=⟨rfl,rfl,rfl,y_,rfl,y_,y_⟩
theorem u7(T:Tx K mg ad fd):aaG T P w base 4 53 ["ring","place"] 2 gU:=
 a7 (k:=3) T.abT.f l6 i5 (λcdv A outer s H E hr=>(ai (cC (UB.pb (yt (UD OS (aN bS rfl T.aaH y_ (af (ax (ae 0) ah aaA) ag)) (vj T.acg rfl) (aV _)) (vU (cD (aN (Pf rfl) rfl T.acb y_ (af (aA (bq (sc:=(aj dC)) (N:=iO) (Nt:=["ask"]) (Nf:=["place"]) (fi:=[1]) rfl rfl rfl (bB (ax (ae 0) ah aaA)) rfl y_ y_ y_ xp rfl y_ xp (λ_ _ _ _=>(bf xp (show((["ask"]:List Str)++(["place"]:List Str)).Nodup by decide +kernel) rfl (Or.inl rfl))) (λ_ _ _ _=>a9) (λ_ _ _ _=>(dJ OZ (ae 1) (bP (ae 0) ah ah) rfl)))) ag)))))) (aq m9) a6)
  (ai (Pg 2 (dP l6.nd (j:=2) rfl v6 (sc:=(aj dC)) (N:=iO) (Nt:=["other"]) (Nf:=["place"]) (fi:=[1]) rfl rfl rfl (bN rfl T.aaJ (aN bS rfl T.aaH y_ (af (ax (ae 0) ah aaA) ag))) rfl y_ y_ y_ xp rfl y_ xp (λ_ _ _ _=>(bf xp (show((["other"]:List Str)++(["place"]:List Str)).Nodup by decide +kernel) rfl (Or.inl rfl))) (λ_ _ _ _=>a9) (λ_ _ _ _=>(m8 (UD yz (ae 0) (ae 1) (aV _)) (az cm (ae 0) ah) (ae 0)))))
  (aq (aE (bH (af (aA (aL (uz T) T.abS hr (af (ax (ae 0) ah aaA) (af (ae 1) ag)))) (af (aA (aL (fc T) T.aaQ hr (af (ax (ae 0) ah aaA) (af (ae 2) ag)))) ag))))))))
  uc
theorem qC:aC sV ["ring","k"] (aj iP):=⟨rfl,rfl,rfl,y_,rfl,y_,y_⟩
theorem qD(T:Tx K mg ad fd):aaG T P w base 1 54 ["ring","k"] 2 gy:=
 a7 (k:=0) T.abc.f qC mS (λcdv A outer s H E hr=>(ai (aF (i:=2) qC.nd rfl v6 (aA (aN Ce rfl T.abf y_ (af (aA (bP (ax (ax (ae 0) ah aaA) (ae 1) aaA) ah ah)) ag))))
  (aq (aE (bq (sc:=(aj iP)) (N:=sV) (Nt:=["l","ask"]) (Nf:=["ends"]) (fi:=[2]) rfl rfl rfl (iz rfl T.aaN (ax (ae 0) ah aaA)) rfl y_ y_ y_ xp rfl y_ xp (λ_ _ _ _=>(nv rfl (bJ (i:=0) xp (show((["l","ask"]:List Str)++(["ends"]:List Str)).Nodup by decide +kernel) rfl (Or.inl rfl) (bJ (i:=1) xp (show((["l","ask"]:List Str)++(["ends"]:List Str)).Nodup by decide +kernel) rfl (Or.inl rfl) iA)))) (λ_ _ _ _=>(mh (UD (eY hr.units) (aN Ce rfl T.abf y_ (af (aA (bP (ae 1) ah ah)) ag)) (ae 2) (aV _)))) (λ_ _ _ _=>(ae 0)))))))
  xE
theorem xT:aC qg ["ring"] (aj gq):=⟨rfl,rfl,rfl,y_,rfl,y_,y_⟩
theorem xU(T:Tx K mg ad fd):aaG T P w base 2 55 ["ring"] 1 i6:=
 a7 (k:=1) T.abU.f xT kf (λcdv A outer s H E hr=>(aq (aE (bq (sc:=(aj gq)) (N:=qg) (Nt:=["k"]) (Nf:=["ring"]) (fi:=[0]) rfl rfl rfl (bN rfl T.aaJ (aN bS rfl T.aaH y_ (af (ax (ae 0) ah aaA) ag))) rfl y_ y_ y_ xp rfl y_ xp (λ_ _ _ _=>(bf xp (show((["k"]:List Str)++(["ring"]:List Str)).Nodup by decide +kernel) rfl (Or.inl rfl))) (λ_ _ _ _=>(mh (UD (eY hr.units) (ax (aL (qD T) T.abc hr (af (ae 1) (af (ae 0) ag))) ah aaA) (ae 0) (aV _)))) (λ_ _ _ _=>(ae 0))))))
  uT
theorem fV:aC lA ["ring"] (aj d9):=⟨rfl,rfl,rfl,y_,rfl,y_,y_⟩
theorem uA(T:Tx K mg ad fd):aaG T P w base 5 56 ["ring"] 1 fS:=
 a7 (k:=4) T.abV.f fV gW (λcdv A outer s H E hr=>(ai (aF (i:=1) fV.nd rfl v6 (ax (ae 0) ah aaA))
  (ai (dP fV.nd (j:=2) rfl v6 (sc:=(aj d9)) (N:=lA) (Nt:=["k"]) (Nf:=["asks","ring"]) (fi:=[1,0]) rfl rfl rfl (bB (aL (xU T) T.abU hr (af (ae 0) ag))) rfl y_ y_ y_ xp rfl y_ xp (λ_ _ _ _=>(bf xp (show((["k"]:List Str)++(["asks","ring"]:List Str)).Nodup by decide +kernel) rfl (Or.inl rfl))) (λ_ _ _ _=>a9) (λ_ _ _ _=>(az Fx (bP (ax (ae 1) (ae 0) aaA) trivial ah) (bH (af (aA (aL (ui T) T.aaX hr (af (aA (bq (sc:=_) (N:=((["k"]:List Str)++(["asks","ring"]:List Str))) (Nt:=["l"]) (Nf:=["asks"]) (fi:=[1]) rfl rfl rfl (bB (aL (qD T) T.abc hr (af (ae 2) (af (ae 0) ag)))) rfl y_ y_ (Pl y_) xp rfl y_ xp (λ_ _ _ _=>(bf xp (show((["l"]:List Str)++(["asks"]:List Str)).Nodup by decide +kernel) rfl (Or.inl rfl))) (λ_ _ _ _=>a9) (λ_ _ _ _=>(ax (ax (ae 1) (ae 0) aaA) ah aaA)))) ag))) ag)))))
  (aq (aE (o7 (af (nh EV rfl T.aaM y_ (af (ax (ae 0) ah aaA) ag)) (af (c6 2) ag))))))))
  qQ
theorem z8:aC Bj ["_law_ring_here"] (aj mw):=⟨rfl,rfl,rfl,y_,rfl,y_,y_⟩
theorem gC(T:Tx K mg ad fd):aaG T P w base 17 57 ["_law_ring_here"] 1 dg:=
 a7 (k:=16) T.aaR.f z8 mT (λcdv A outer s H E hr=>(aq (aE (dM (af (ax (aL (z6 T) T.abQ hr (af (ae 0) ag)) ah aaA) (af (ax (aL (zY T) T.abL hr (af (ae 0) ag)) ah aaA) ag))))))
  xF
theorem xV:aC zx ["_law_one","_law_other"] (aj jL):=⟨rfl,rfl,rfl,y_,rfl,y_,y_⟩
theorem oS(T:Tx K mg ad fd):aaG T P w base 1 58 ["_law_one","_law_other"] 2 fb:=
 a7 (k:=0) T.abd.f xV kg (λcdv A outer s H E hr=>(aq (aE (dJ Ax (az bj (ax (ae 0) ah aaA) (ax (ae 1) ah aaA)) (az bj (ax (ae 1) ah aaA) (ax (ae 0) ah aaA)) (aV _)))))
  uU
theorem eK:aC Bk ["_law_state","_law_many"] (aj mx):=⟨rfl,rfl,rfl,y_,rfl,y_,y_⟩
theorem aO(T:Tx K mg ad fd):aaG T P w base 1 59 ["_law_state","_law_many"] 2 aM:=
 a7 (k:=0) T.aaI.f eK mU (λcdv A outer s H E hr=>(ai (cC (cD (jz (lq 0 ah aaA) (ax (ae 0) ah aaA))) (ai (aF (i:=2) eK.nd rfl v6 (az cF (jz (lq 0 ah aaA) (ax (ae 0) ah aaA)) (ae 1)))
  (ai (AA 0 ah (az lp (jz (lq 0 ah aaA) (ax (ae 0) ah aaA)) (ae 1)))
  (ai (AA 0 ah (dJ yz (jz (lq 0 ah aaA) (ax (ae 0) ah aaA)) ah (aV _)))
  (aq (aE (c6 2)))))) a6)
  (ai (aF (i:=3) eK.nd rfl v6 ah)
  (ai (ft YF rfl (bN rfl T.aaJ (az bo ah (az bj ah (nh KH rfl T.aa2 y_ (af (dJ yz (ae 1) (az ER ah ah) (aV _)) ag))))) (fo (i:=4) eK.nd rfl v6) (ai (AA 0 ah (az cF (az bo (az bj (jz (lq 0 ah aaA) (ax (ae 0) ah aaA)) ah) ah) ah))
  (aq (aF (i:=3) eK.nd rfl v6 (aA (az bo (az bj (ae 3) ah) (az cF (az bj (jz (lq 0 ah aaA) (ax (ae 0) ah aaA)) (jz (lq 0 ah aaA) (ax (ae 0) ah aaA))) ah)))))))
  (aq (aE (az cF (az lp (ae 3) ah) (ae 1))))))))
  xG
theorem cO:aC eE ["_law_ring_here","_law_state"] (aj cH):=⟨rfl,rfl,rfl,y_,rfl,y_,y_⟩
theorem xW(T:Tx K mg ad fd):aaG T P w base 5 60 ["_law_ring_here","_law_state"] 2 i8:=
 a7 (k:=4) T.abW.f cO ki (λcdv A outer s H E hr=>by exact(@ai _ _ _ _ _ (@aF _ _ _ 2 _ _ _ cO.nd rfl v6 (@aA _ _ _ (aN bS rfl T.aaH y_ (@af _ _ _ _ _ _ (@ax _ _ _ _ _ _ (ae 0) ah aaA) ag z_))) z_ acT) (@ai _ _ _ _ _ (dP cO.nd (j:=3) rfl v6 (sc:=(aj cH)) (N:=eE) (Nt:=[ "_law_k" ]) (Nf:=[ "_law_state" ]) (fi:=[1]) rfl rfl rfl (bN rfl T.aaJ (aN bS rfl T.aaH y_ (@af _ _ _ _ _ _ (@ax _ _ _ _ _ _ (ae 0) ah aaA) ag z_))) rfl y_ y_ y_ xp rfl y_ xp (λ_ _ _ _=>(bf xp (show(([ "_law_k" ]:List Str)++([ "_law_state" ]:List Str)).Nodup by decide +kernel) rfl (Or.inl rfl))) (λ_ _ _ _=>(mh (UD (eY hr.units) (bT (aO T) T.aaI hr 0 1 (br 1 (@af _ _ _ _ _ _ ah ag z_))) ah (aV _)))) (λ_ _ _ _=>(ae 0))) (@ai _ _ _ _ _ (@aF _ _ _ 4 _ _ _ cO.nd rfl v6 (@dM _ _ _ _ _ (@af _ _ _ _ _ _ (@aA _ _ _ (aL (u3 T) T.abl hr (@af _ _ _ _ _ _ (ae 0) (@af _ _ _ _ _ _ (@aA _ _ _ (bT (aO T) T.aaI hr 0 1 (br 1 (@af _ _ _ _ _ _ (ae 2) ag z_)))) ag z_) z_))) (@af _ _ _ _ _ _ (@aA _ _ _ (aL (qR T) T.abm hr (@af _ _ _ _ _ _ (ae 0) ag z_))) ag z_) z_)) z_ acT) (@ai _ _ _ _ _ (iq (eD 4 (aL (xQ T) T.abo hr (@af _ _ _ _ _ _ (ae 0) (@af _ _ _ _ _ _ (ae 3) ag z_) z_)))) (@ai _ _ _ _ _ (iq (eD 4 (aL (z7 T) T.abR hr (@af _ _ _ _ _ _ (ae 0) (@af _ _ _ _ _ _ (@aA _ _ _ (bT (aO T) T.aaI hr 0 1 (br 1 (@af _ _ _ _ _ _ (ae 2) ag z_)))) ag z_) z_)))) (@ai _ _ _ _ _ (@aF _ _ _ 5 _ _ _ cO.nd rfl v6 (@aA _ _ _ (@az _ _ _ _ _ _ _ _ bo (bq (sc:=(aj cH)) (N:=eE) (Nt:=[ "_law_ask" ]) (Nf:=[]) (fi:=[]) rfl rfl rfl (bB (@ax _ _ _ _ _ _ (ae 0) ah aaA)) rfl y_ y_ y_ xp rfl y_ xp (λ_ _ _ _=>(bf xp (show(([ "_law_ask" ]:List Str)++([]:List Str)).Nodup by decide +kernel) rfl (Or.inl rfl))) (λ_ _ _ _=>a9) (λ_ _ _ _=>(@ax _ _ _ _ _ _ (ae 0) ah aaA))) (bq (sc:=(aj cH)) (N:=eE) (Nt:=[ "_law_ask" ]) (Nf:=[]) (fi:=[]) rfl rfl rfl (bB (@ax _ _ _ _ _ _ (ae 0) ah aaA)) rfl y_ y_ y_ xp rfl y_ xp (λ_ _ _ _=>(bf xp (show(([ "_law_ask" ]:List Str)++([]:List Str)).Nodup by decide +kernel) rfl (Or.inl rfl))) (λ_ _ _ _=>a9) (λ_ _ _ _=>(@ax _ _ _ _ _ _ (ae 0) ah aaA))))) z_ acT) (@ai _ _ _ _ _ (dP cO.nd (j:=6) rfl v6 (sc:=(aj cH)) (N:=eE) (Nt:=[ "_law_place" ]) (Nf:=[ "_law_ends_here" ]) (fi:=[5]) rfl rfl rfl (bN rfl T.aaJ (ae 2)) rfl y_ y_ y_ xp rfl y_ xp (λ_ _ _ _=>(bf xp (show(([ "_law_place" ]:List Str)++([ "_law_ends_here" ]:List Str)).Nodup by decide +kernel) rfl (Or.inl rfl))) (λ_ _ _ _=>(mh (UD Ip (ae 0) (ae 1) rfl))) (λ_ _ _ _=>(ae 0))) (@ai _ _ _ _ _ (@cC _ _ _ _ _ _ _ _ (UB.pb (EF (UD yz (ae 2) ah (aV _)) (BU (UD (Ay hr.units) (ae 6) (@dM _ _ _ _ _ ag) (aV _))))) (@aq _ _ _ (iq (eD 4 (aL (u7 T) T.abT hr (@af _ _ _ _ _ _ (ae 0) (@af _ _ _ _ _ _ (@ax _ _ _ _ _ _ (ae 6) (bT (aO T) T.aaI hr 0 1 (br 1 (@af _ _ _ _ _ _ (@aA _ _ _ (aN bS rfl T.aaH y_ (@af _ _ _ _ _ _ (ae 6) ag z_))) ag z_))) aaA) ag z_) z_))))) a6) (@aq _ _ _ (@aE _ _ _ _ (c6 4))))))))))))
  uV
theorem fW:aC DT ["_law_top","_law_bottom"] (aj pF):=⟨rfl,rfl,rfl,y_,rfl,y_,y_⟩
theorem m5(T:Tx K mg ad fd):aaG T P w base 1 61 ["_law_top","_law_bottom"] 2 fT:=
 a7 (k:=0) T.aa0.f fW pV (λcdv A outer s H E hr=>(ai (aF (i:=2) fW.nd rfl v6 (aA (aN ES rfl T.abe y_ (af (ae 0) ag))))
  (ai (aF (i:=3) fW.nd rfl v6 (aA (aN ES rfl T.abe y_ (af (ae 1) ag))))
  (ai (qW YF (UD (Ay hr.units) (ae 2) ah (aV _)) (aq (OX (i:=2) (j:=3) rfl fW.nd rfl rfl xp rfl rfl (az cF (ae 3) (ae 2)) (ae 2) rfl)))
  (ai (cC (UD Ax (ae 1) ah (aV _)) (aq (aF (i:=3) fW.nd rfl v6 (az cm ah (ae 3)))) a6)
  (aq (aE (bH (af (az lp (ae 0) (ae 3)) (af (az lp (ae 1) (ae 3)) ag))))))))))
  zM
theorem g6:aC xg ["_law_state","_law_least","_law_kind"] (aj iQ):=⟨rfl,rfl,rfl,y_,rfl,y_,y_⟩
theorem cW(T:Tx K mg ad fd):aaG T P w base 2 62 ["_law_state","_law_least","_law_kind"] 3 bR:=
 a7 (k:=1) T.aaP.f g6 i9 (λcdv A outer s H E hr=>by exact(@ai _ _ _ _ _ (@aF _ _ _ 3 _ _ _ g6.nd rfl v6 (@aA _ _ _ (@az _ _ _ _ _ _ _ _ bo ah (bT (aO T) T.aaI hr 0 0 (br 0 (@af _ _ _ _ _ _ (@ax _ _ _ _ _ _ (@dM _ _ _ _ _ (@af _ _ _ _ _ _ ah (@af _ _ _ _ _ _ ah (@af _ _ _ _ _ _ ah (@af _ _ _ _ _ _ ah (@af _ _ _ _ _ _ ah ag z_) z_) z_) z_) z_)) (ae 2) aaA) ag z_))))) z_ acT) (@ai _ _ _ _ _ (@aF _ _ _ 4 _ _ _ g6.nd rfl v6 (@aA _ _ _ (@az _ _ _ _ _ _ _ _ bo (ae 1) (bT (aO T) T.aaI hr 0 0 (br 0 (@af _ _ _ _ _ _ (@ax _ _ _ _ _ _ (@dM _ _ _ _ _ (@af _ _ _ _ _ _ ah (@af _ _ _ _ _ _ ah (@af _ _ _ _ _ _ ah (@af _ _ _ _ _ _ ah (@af _ _ _ _ _ _ (@az _ _ _ _ _ _ _ _ ER ah ah) ag z_) z_) z_) z_) z_)) (ae 2) aaA) ag z_))))) z_ acT) (@aq _ _ _ (@aE _ _ _ _ (aL (m5 T) T.aa0 hr (@af _ _ _ _ _ _ (ae 4) (@af _ _ _ _ _ _ (ae 3) ag z_) z_)))))))
  ud
theorem z9:aC Bl ["_law_one","_law_other"] (aj my):=⟨rfl,rfl,rfl,y_,rfl,y_,y_⟩
theorem Aa(T:Tx K mg ad fd):aaG T P w base 2 63 ["_law_one","_law_other"] 2 km:=
 a7 (k:=1) T.abX.f z9 mV (λcdv A outer s H E hr=>(aq (aE (aL (m5 T) T.aa0 hr (af (aA (az bj (ax (ae 0) ah aaA) (ax (ae 1) ah aaA))) (af (aA (az bj (ax (ae 0) ah aaA) (ax (ae 1) ah aaA))) ag))))))
  xH
theorem xX:aC zy ["_law_one","_law_other"] (aj jM):=⟨rfl,rfl,rfl,y_,rfl,y_,y_⟩
theorem xY(T:Tx K mg ad fd):aaG T P w base 2 64 ["_law_one","_law_other"] 2 ja:=
 a7 (k:=1) T.abY.f xX ko (λcdv A outer s H E hr=>(aq (aE (aL (m5 T) T.aa0 hr (af (aA (az bj (ax (ae 0) ah aaA) (ax (ae 1) ah aaA))) (af (aA (az bj (ax (ae 0) ah aaA) (ax (ae 1) ah aaA))) ag))))))
  uW
theorem Ab:aC sW ["_law_found","_law_due"] (aj iR):=⟨rfl,rfl,rfl,y_,rfl,y_,y_⟩
theorem oT(T:Tx K mg ad fd):∀ n,FnOk P w K mg base CX0 (1+n) (ad 65) (fd 65) ["_law_found","_law_due"] (spF K 2 (cM n))
 |0=>Fy zN
 | n+1=>a7 (k:=1+n) T.aaS.f Ab (mW (cM n)) (λcdv A outer s H E hr=>(ai (cC (cD (Mp v5 rN rfl T.aaK rfl T.aaM y_ rfl T.abg y_ (ae 1))) (ai (cC (UD (Ay hr.units) (ji v5 rfl T.aaK rfl T.aaM y_ (ae 1)) (ji v5 rfl T.aaK rfl T.aaM y_ (ae 0)) (aV _)) (aq (aE vT)) a6)
  (ai (cC (UB.pb (yt (UD (Ay hr.units) (ji rN rfl T.aaK rfl T.abg y_ (ae 1)) (ji rN rfl T.aaK rfl T.abg y_ (ae 0)) (aV _)) (vU (UD (Ay hr.units) (aN bS rfl T.aaH y_ (af (ae 0) ag)) (aN bS rfl T.aaH y_ (af (ae 1) ag)) (aV _))))) (aq (aE vT)) a6)
  (aq (aE (aN (Pe rfl) rfl T.aca y_ (af (aA (bq (sc:=(aj iR)) (N:=sW) (Nt:=["_law_one","_law_other"]) (Nf:=[]) (fi:=[]) rfl rfl rfl (IP rfl T.aaU (ae 0) (ae 1)) rfl y_ y_ y_ xp rfl y_ xp (λ_ _ _ _=>(nv rfl (bJ (i:=0) xp (show((["_law_one","_law_other"]:List Str)++([]:List Str)).Nodup by decide +kernel) rfl (Or.inl rfl) (bJ (i:=1) xp (show((["_law_one","_law_other"]:List Str)++([]:List Str)).Nodup by decide +kernel) rfl (Or.inl rfl) iA)))) (λ_ _ _ _=>a9) (λ_ _ _ _=>(aL (oT T n) T.aaS hr (af (ae 0) (af (ae 1) ag)) (hk:=by omega))))) ag)))))) a6)
  (ai (cC (cD (ji Fb rfl T.aaK rfl T.ab7 y_ (ae 1))) (aq (aE (rF (ji Fb rfl T.aaK rfl T.ab7 y_ (ae 0)) (rE (dJ (eY hr.units) (ae 0) (ae 1) (aV _)))))) a6)
  (ai (cC (UD AC (ae 1) p5 (aV _)) (aq (aE (dJ AC (ae 0) p5 (aV _)))) a6)
  (ai (cC (cD (ji qX rfl T.aaK rfl T.aa1 y_ (ae 1))) (aq (aE (rF (ji qX rfl T.aaK rfl T.aa1 y_ (ae 0)) (rE (dJ (eY hr.units) (ae 0) (ae 1) (aV _)))))) a6)
  (aq (aE (rF (ji EY rfl T.aaK rfl T.aa2 y_ (ae 0)) (rF (EH (ji qX rfl T.aaK rfl T.aa1 y_ (ae 0))) (rE (dJ (eY hr.units) (ae 0) (ae 1) (aV _))))))))))))
  (xI n)
theorem kF(T:Tx K mg ad fd):aaG T P w base 10 65 ["_law_found","_law_due"] 2 gz:=oT T 9
theorem b8:aC sX ["_law_ring_here","_law_state"] (aj iS):=⟨rfl,rfl,rfl,y_,rfl,y_,y_⟩
theorem Ac(T:Tx K mg ad fd):aaG T P w base 18 66 ["_law_ring_here","_law_state"] 2 kq:=
 a7 (k:=17) T.abZ.f b8 mX (λcdv A outer s H E hr=>by exact(@ai _ _ _ _ _ (@aF _ _ _ 2 _ _ _ b8.nd rfl v6 (@aA _ _ _ (aL (gC T) T.aaR hr (@af _ _ _ _ _ _ (ae 0) ag z_))) z_ acT) (@ai _ _ _ _ _ (@cC _ _ _ _ _ _ _ _ (cD (aL (oS T) T.abd hr (@af _ _ _ _ _ _ (@ax _ _ _ _ _ _ (ae 2) ah aaA) (@af _ _ _ _ _ _ (@ax _ _ _ _ _ _ (ae 2) ah aaA) ag z_) z_))) (@aq _ _ _ (@aE _ _ _ _ vT)) a6) (@ai _ _ _ _ _ (ft YF rfl (bB (bT (xW T) T.abW hr 1 1 (@af _ _ _ _ _ _ (ae 0) (br 1 ag) z_))) (fo (i:=3) b8.nd rfl v6) (@aq _ _ _ (@cC _ _ _ _ _ _ _ _ (yu (cD (aL (kF T) T.aaS hr (@af _ _ _ _ _ _ (@aA _ _ _ (aL (gC T) T.aaR hr (@af _ _ _ _ _ _ (ae 3) ag z_))) (@af _ _ _ _ _ _ (ae 2) ag z_) z_)))) (@aq _ _ _ (@aE _ _ _ _ vT)) a6))) (@ai _ _ _ _ _ (@aF _ _ _ 4 _ _ _ b8.nd rfl v6 (@aA _ _ _ (bT (cW T) T.aaP hr 0 1 (br 1 (@af _ _ _ _ _ _ ah (@af _ _ _ _ _ _ (@aA _ _ _ (bT (aO T) T.aaI hr 0 1 (br 1 (@af _ _ _ _ _ _ ah ag z_)))) ag z_) z_)))) z_ acT) (@ai _ _ _ _ _ (@aF _ _ _ 5 _ _ _ b8.nd rfl v6 (@aA _ _ _ (bT (cW T) T.aaP hr 0 1 (br 1 (@af _ _ _ _ _ _ ah (@af _ _ _ _ _ _ (@aA _ _ _ (bT (aO T) T.aaI hr 0 1 (br 1 (@af _ _ _ _ _ _ ah ag z_)))) ag z_) z_)))) z_ acT) (@ai _ _ _ _ _ (@aF _ _ _ 6 _ _ _ b8.nd rfl v6 (@aA _ _ _ (aL (Aa T) T.abX hr (@af _ _ _ _ _ _ (ae 4) (@af _ _ _ _ _ _ (ae 5) ag z_) z_))) z_ acT) (@ai _ _ _ _ _ (dP b8.nd (j:=7) rfl v6 (sc:=(aj iS)) (N:=sX) (Nt:=[ "_law_top" ]) (Nf:=[ "_law_share" ]) (fi:=[6]) rfl rfl rfl (bB (ae 2)) rfl y_ y_ y_ xp rfl y_ xp (λ_ _ _ _=>(bf xp (show(([ "_law_top" ]:List Str)++([ "_law_share" ]:List Str)).Nodup by decide +kernel) rfl (Or.inl rfl))) (λ_ _ _ _=>a9) (λ_ _ _ _=>(aL (xY T) T.abY hr (@af _ _ _ _ _ _ (ae 0) (@af _ _ _ _ _ _ (ae 1) ag z_) z_)))) (@ai _ _ _ _ _ (@cC _ _ _ _ _ _ _ _ (yu (cD (aL (kF T) T.aaS hr (@af _ _ _ _ _ _ (@aA _ _ _ (aL (gC T) T.aaR hr (@af _ _ _ _ _ _ (@aA _ _ _ (aL (u4 T) T.abn hr (@af _ _ _ _ _ _ (ae 0) (@af _ _ _ _ _ _ (ae 4) (@af _ _ _ _ _ _ (ae 5) ag z_) z_) z_))) ag z_))) (@af _ _ _ _ _ _ (ae 7) ag z_) z_)))) (@aq _ _ _ (@aE _ _ _ _ vT)) a6) (@ai _ _ _ _ _ (@aF _ _ _ 8 _ _ _ b8.nd rfl v6 (@aA _ _ _ (aL (gC T) T.aaR hr (@af _ _ _ _ _ _ (@aA _ _ _ (aL (uA T) T.abV hr (@af _ _ _ _ _ _ (ae 0) ag z_))) ag z_))) z_ acT) (@aq _ _ _ (@aE _ _ _ _ (rF (aL (kF T) T.aaS hr (@af _ _ _ _ _ _ (@ax _ _ _ _ _ _ (ae 8) ah aaA) (@af _ _ _ _ _ _ (@ax _ _ _ _ _ _ (ae 2) ah aaA) ag z_) z_)) (rE (EH (aL (oS T) T.abd hr (@af _ _ _ _ _ _ (@ax _ _ _ _ _ _ (ae 8) ah aaA) (@af _ _ _ _ _ _ (@ax _ _ _ _ _ _ (ae 2) ah aaA) ag z_) z_)))))))))))))))))
  xJ
theorem jf:aC zz ["_law_script","_law_k"] (aj jN):=⟨rfl,rfl,rfl,y_,rfl,y_,y_⟩
theorem ff(T:Tx K mg ad fd):aaG T P w base 1 67 ["_law_script","_law_k"] 2 cN:=
 a7 (k:=0) T.aaT.f jf kr (λcdv A outer s H E hr=>(ai (aF (i:=2) jf.nd rfl v6 ah)
  (ai (cC (UD Ax (ae 1) (aN bS rfl T.aaH y_ (af (ae 0) ag)) (aV _)) (aq (aF (i:=2) jf.nd rfl v6 (ax (ae 0) (ae 1) aaA))) a6)
  (aq (aE (dM (af (ae 2) (af (az cF (az bo (az bo (az cF (ae 2) ah) (az bj (az bj ah (ae 1)) (ae 1))) ah) ah) (af (dJ OT (ae 2) (az ER ah ah) (aV _)) ag)))))))))
  uX
theorem dE:aC jO ["_law_state","_law_many"] (aj eF):=⟨rfl,rfl,rfl,y_,rfl,y_,y_⟩
theorem xZ(T:Tx K mg ad fd):aaG T P w base 2 68 ["_law_state","_law_many"] 2 jc:=
 a7 (k:=1) T.ab0.f dE ku (λcdv A outer s H E hr=>(ai (aF (i:=2) dE.nd rfl v6 vd)
  (ai (aF (i:=3) dE.nd rfl v6 (aA (Me (bq (sc:=(aj eF)) (N:=jO) (Nt:=["_law_k"]) (Nf:=["_law_letters","_law_state"]) (fi:=[2,0]) rfl rfl rfl (bN rfl T.aaJ (az bo ah (bT (aO T) T.aaI hr 0 0 (br 0 (af ah ag))))) rfl y_ y_ y_ xp rfl y_ xp (λ_ _ _ _=>(bf xp (show((["_law_k"]:List Str)++(["_law_letters","_law_state"]:List Str)).Nodup by decide +kernel) rfl (Or.inl rfl))) (λ_ _ _ _=>a9) (λ_ _ _ _=>(ax (ae 1) (bT (aO T) T.aaI hr 0 2 (br 2 (af ah ag))) aaA))))))
  (ai (aF (i:=4) dE.nd rfl v6 (aA (bT (aO T) T.aaI hr 0 0 (br 0 (af (aA (aN bS rfl T.aaH y_ (af (ae 3) ag))) ag)))))
  (ai (aF (i:=5) dE.nd rfl v6 (aA (bT (aO T) T.aaI hr 0 0 (br 0 (af ah ag)))))
  (aq (aE (bq (sc:=(aj eF)) (N:=jO) (Nt:=["_law_k"]) (Nf:=["_law_base","_law_at","_law_letters","_law_turn"]) (fi:=[3,4,2,5]) rfl rfl rfl (bN rfl T.aaJ (ae 1)) rfl y_ y_ y_ xp rfl y_ xp (λ_ _ _ _=>(bf xp (show((["_law_k"]:List Str)++(["_law_base","_law_at","_law_letters","_law_turn"]:List Str)).Nodup by decide +kernel) rfl (Or.inl rfl))) (λ_ _ _ _=>a9) (λ_ _ _ _=>(az bo (az bo (bP (ae 1) trivial (ae 2)) (ax (ae 3) (az cF (az bo (ae 4) (ae 0)) ah) aaA)) (bP (ae 1) (az bo (ae 2) ah) trivial)))))))))))
  uY
theorem cP:aC zB ["_law_state","_law_ties","_law_kind"] (aj jP):=⟨rfl,rfl,rfl,y_,rfl,y_,y_⟩
theorem ya(T:Tx K mg ad fd):aaG T P w base 3 69 ["_law_state","_law_ties","_law_kind"] 3 jd:=
 a7 (k:=2) T.ab1.f cP kx (λcdv A outer s H E hr=>(ai (aF (i:=3) cP.nd rfl v6 (aA (bT (aO T) T.aaI hr 0 0 (br 0 (af ah ag)))))
  (ai (aF (i:=4) cP.nd rfl v6 (aA (bT (cW T) T.aaP hr 0 0 (br 0 (af ah (af (ae 2) ag))))))
  (ai (cC (UD (eY hr.units) (ae 3) ah (aV _)) (aq (aF (i:=4) cP.nd rfl v6 (bH (af ah (af ah ag))))) a6)
  (ai (aF (i:=5) cP.nd rfl v6 (dM (af (ae 4) ag)))
  (ai (qW YF (UD Ax (jz (LV 5 rfl T.aaH) (aN bS rfl T.aaH PySem.boot_len (af (ae 5) ag))) (ae 1) (aV _)) (ai (aF (i:=6) cP.nd rfl v6 (aA (bT (cW T) T.aaP hr 0 0 (br 0 (af ah (af (ae 2) ag))))))
  (aq (iq (eD 5 (ax (dM (af (ae 4) (af (ae 6) ag))) (nh KH rfl T.aa2 y_ (af (dJ (eY hr.units) (ae 3) ah (aV _)) ag)) aaA))))))
  (aq (aE (c6 5)))))))))
  uZ
theorem kG:aC Bm ["_law_state","_law_shape","_law_places","_law_k"] (aj mz):=⟨rfl,rfl,rfl,y_,rfl,y_,y_⟩
theorem Ad(T:Tx K mg ad fd):aaG T P w base 2 70 ["_law_state","_law_shape","_law_places","_law_k"] 4 ky:=
 a7 (k:=1) T.ab2.f kG mY (λcdv A outer s H E hr=>(ai (aF (i:=4) kG.nd rfl v6 (aA (bT (aO T) T.aaI hr 0 0 (br 0 (af (ae 2) ag)))))
  (ai (aF (i:=5) kG.nd rfl v6 (az cF (az bo (az bo (ae 4) ah) (bT (aO T) T.aaI hr 0 0 (br 0 (af (az cm (ae 2) ah) ag)))) (ae 2)))
  (ai (cC (UD (eY hr.units) (ae 1) ah (aV _)) (aq (aE (bH (af (az cF (ae 3) (ae 2)) (af (az cF (az bo (ae 3) (az lp (ae 2) ah)) (ae 2)) ag))))) a6)
  (ai (cC (UD (eY hr.units) (ae 1) ah (aV _)) (aq (aE (bH (af (aA (az bj (az cF (ae 3) ah) (az cm (ae 2) ah))) (af (aA (az bj (az cm ah (az cF (ae 3) ah)) (az cm (ae 2) ah))) ag))))) a6)
  (ai (cC (UD (eY hr.units) (ae 1) ah (aV _)) (aq (aE (bH (af ah (af (aA (az bo ah (az cF (ae 5) (az cm (ae 2) ah)))) ag))))) a6)
  (aq (aE (bH (af (ae 4) (af (ae 5) ag)))))))))))
  xK
theorem bh:aC Bn ["_law_script","_law_at","_law_most","_law_count"] (aj mB):=⟨rfl,rfl,rfl,y_,rfl,y_,y_⟩
theorem Ae(T:Tx K mg ad fd):aaG T P w base 4 71 ["_law_script","_law_at","_law_most","_law_count"] 4 kA:=
 a7 (k:=3) T.ab3.f bh mZ (λcdv A outer s H E hr=>by exact(@ai _ _ _ _ _ (@aF _ _ _ 4 _ _ _ bh.nd rfl v6 (aL (ff T) T.aaT hr (@af _ _ _ _ _ _ (ae 0) (@af _ _ _ _ _ _ (ae 1) ag z_) z_)) z_ acT) (@ai _ _ _ _ _ (@aF _ _ _ 5 _ _ _ bh.nd rfl v6 (@aA _ _ _ (@az _ _ _ _ _ _ _ _ bo ah (bT (aO T) T.aaI hr 0 4 (br 4 (@af _ _ _ _ _ _ (@az _ _ _ _ _ _ _ _ cm (ae 2) ah) ag z_))))) z_ acT) (@ai _ _ _ _ _ (@aF _ _ _ 6 _ _ _ bh.nd rfl v6 (@aA _ _ _ (bT (aO T) T.aaI hr 0 4 (br 4 (@af _ _ _ _ _ _ (@aA _ _ _ (@az _ _ _ _ _ _ _ _ bo (ae 3) ah)) ag z_)))) z_ acT) (@ai _ _ _ _ _ (@aF _ _ _ 7 _ _ _ bh.nd rfl v6 (@aA _ _ _ (@dM _ _ _ _ _ (@af _ _ _ _ _ _ (@aA _ _ _ (bT (aO T) T.aaI hr 0 4 (br 4 (@af _ _ _ _ _ _ ah ag z_)))) (@af _ _ _ _ _ _ (@aA _ _ _ (bT (aO T) T.aaI hr 0 4 (br 4 (@af _ _ _ _ _ _ ah ag z_)))) ag z_) z_))) z_ acT) (@ai _ _ _ _ _ (@aF _ _ _ 8 _ _ _ bh.nd rfl v6 (@aA _ _ _ (bT (aO T) T.aaI hr 0 4 (br 4 (@af _ _ _ _ _ _ ah ag z_)))) z_ acT) (@ai _ _ _ _ _ (@aF _ _ _ 9 _ _ _ bh.nd rfl v6 (@aA _ _ _ (bT (xZ T) T.ab0 hr 0 4 (br 4 (@af _ _ _ _ _ _ (ae 6) ag z_)))) z_ acT) (@ai _ _ _ _ _ (@aF _ _ _ 10 _ _ _ bh.nd rfl v6 (@aA _ _ _ (aL (ya T) T.ab1 hr (@af _ _ _ _ _ _ (aL (ff T) T.aaT hr (@af _ _ _ _ _ _ (ae 0) (@af _ _ _ _ _ _ (@aA _ _ _ (@az _ _ _ _ _ _ _ _ bo (ae 1) ah)) ag z_) z_)) (@af _ _ _ _ _ _ (ae 5) (@af _ _ _ _ _ _ (@ax _ _ _ _ _ _ (ae 7) ah aaA) ag z_) z_) z_))) z_ acT) (@ai _ _ _ _ _ (@aF _ _ _ 4 _ _ _ bh.nd rfl v6 (aL (ff T) T.aaT hr (@af _ _ _ _ _ _ (ae 0) (@af _ _ _ _ _ _ (@aA _ _ _ (@az _ _ _ _ _ _ _ _ bo (ae 1) ah)) ag z_) z_)) z_ acT) (@ai _ _ _ _ _ (@aF _ _ _ 11 _ _ _ bh.nd rfl v6 (@dM _ _ _ _ _ ag) z_ acT) (@ai _ _ _ _ _ (ft YF rfl (bN rfl T.aaJ (ae 6)) (fo (i:=12) bh.nd rfl v6) (@ai _ _ _ _ _ (LX (yw rfl (d4 (i:=13) bh.nd rfl v6 (d4 (i:=14) bh.nd rfl v6 rK))) (bT (Ad T) T.ab2 hr 0 4 (br 4 (@af _ _ _ _ _ _ (ae 8) (@af _ _ _ _ _ _ (ae 5) (@af _ _ _ _ _ _ (ae 12) ag z_) z_) z_)))) (@aq _ _ _ (iq (eD 11 (@bH _ _ _ _ _ _ (@af _ _ _ _ _ _ (@ax _ _ _ _ _ _ (ae 9) (ae 12) aaA) (@af _ _ _ _ _ _ (ae 13) (@af _ _ _ _ _ _ (ae 14) (@af _ _ _ _ _ _ (@aA _ _ _ (bT (cW T) T.aaP hr 0 4 (br 4 (@af _ _ _ _ _ _ ah (@af _ _ _ _ _ _ (@ax _ _ _ _ _ _ (ae 7) ah aaA) ag z_) z_)))) ag z_) z_) z_) z_))))))) (@aq _ _ _ (@aE _ _ _ _ (@bH _ _ _ _ _ _ (@af _ _ _ _ _ _ (ae 10) (@af _ _ _ _ _ _ (ae 11) ag z_) z_)))))))))))))))
  xM
theorem Ld:aC RQ ["_law_script"] (aj Ki):=⟨rfl,rfl,rfl,y_,rfl,y_,y_⟩
theorem Qu(T:Tx K mg ad fd):aaG T P w base 19 72 ["_law_script"] 1 fs_law:=
 a7 (k:=18) T.ab4.f Ld N0 (λcdv A outer s H E hr=>by exact(@ai _ _ _ _ _ (ft YF rfl (IH rfl T.aaJ ah (aN (OW rfl) rfl T.acd y_ (@af _ _ _ _ _ _ ah (@af _ _ _ _ _ _ (@aA _ _ _ (aN (KG rfl) rfl T.ab5 y_ (@af _ _ _ _ _ _ (@aA _ _ _ (aN bS rfl T.aaH y_ (@af _ _ _ _ _ _ (ae 0) ag z_))) (@af _ _ _ _ _ _ ah ag z_) z_))) ag z_) z_)) ah) (fo (i:=1) Ld.nd rfl v6) (@aq _ _ _ (@cC _ _ _ _ _ _ _ _ (yu (cD (aL (Ac T) T.abZ hr (@af _ _ _ _ _ _ (@aA _ _ _ (aL (Ae T) T.ab3 hr (@af _ _ _ _ _ _ (ae 0) (@af _ _ _ _ _ _ (ae 1) (@af _ _ _ _ _ _ ah (@af _ _ _ _ _ _ ah ag z_) z_) z_) z_))) (@af _ _ _ _ _ _ (aL (ff T) T.aaT hr (@af _ _ _ _ _ _ (ae 0) (@af _ _ _ _ _ _ (@aA _ _ _ (@az _ _ _ _ _ _ _ _ bo (ae 1) ah)) ag z_) z_)) ag z_) z_)))) (@aq _ _ _ (@aE _ _ _ _ vT)) a6))) (@aq _ _ _ (@aE _ _ _ _ vT))))
  N1
end
noncomputable def XC(i:Nat):Addr:=([21,28,91,99,106,113,120,127,134,141,148,155,170,160,165,175,180,187,194,199,206,213,218,225,237,242,230,249,254,261,268,273,278,283,290,295,302,307,314,321,343,336,331,326,348,353,372,367,377,360,384,389,401,394,406,411,416,503,491,430,508,437,444,484,477,496,513,423,449,456,463,470,520]:List Addr).getD i 0
noncomputable abbrev XE:Value:=(.str "ringloads.divisors" 187)
noncomputable abbrev XG:Value:=(.str "ringloads.names" 282)
noncomputable abbrev XH:Value:=acu
noncomputable abbrev XI:Value:=acx
noncomputable abbrev XJ:Value:=acv
noncomputable abbrev XM:Value:=(.str "ringloads.units" 459)
noncomputable abbrev XN:Value:=(.str "ringloads.ways" 482)
noncomputable abbrev XQ:Value:=acw
noncomputable abbrev XR:Value:=(.str "ringloads.sendings" 557)
noncomputable abbrev XS:Value:=(.str "ringloads.wishes" 573)
noncomputable abbrev Le:Value:=acy
noncomputable abbrev QN:Value:=(.str "ringloads.best" 638)
noncomputable abbrev Lf:Value:=acz
noncomputable abbrev Sn:Value:=(.str "ringloads.leasts" 695)
noncomputable abbrev N9:Value:=(.str "ringloads.placing" 709)
noncomputable abbrev Oa:Value:=acA
noncomputable abbrev l7:Value:=acr
noncomputable def XT(i:Nat):FuncData:=[U5 "greatest_shared" dS XE 20,U5 "least_common" gF XE 27,U5 "is_whole" pB XG 90,U5 "lowest" w8 XH 98,U5 "ratio" Bb XH 105,U5 "plus" G6 XH 112,U5 "minus" Bc XH 119,U5 "times" Bd XH 126,U5 "over" G7 XH 133,U5 "under" Be XH 140,U5 "lesser" w9 XH 147,U5 "sum_of" xa XH 154,U5 "renumbered" gk XI 169,U5 "turned_ring" dn XI 159,U5 "mirrored_ring" dz XI 164,U5 "scaled_ring" dA XI 174,U5 "told_round" gm XI 179,U5 "is_within" ml XJ 186,U5 "parts_places" gG XJ 193,U5 "across" rk XJ 198,U5 "rooms_of" pC XJ 205,U5 "shown_by" pD XJ 212,U5 "all_cuts" kT XJ 217,U5 "greatest_cut" gH XJ 224,U5 "common_bottom" fF XM 236,U5 "in_units" kU XM 241,U5 "weighed" jI XM 229,U5 "other_way" mn XN 248,U5 "ties_of" jJ XN 253,U5 "is_over" sP XN 260,U5 "sent_over" mq XQ 267,U5 "load_of" nO XQ 272,U5 "loads_of" kW XQ 277,U5 "strains_of" gn XQ 282,U5 "top_of" xb XQ 289,U5 "sent_by" nP XR 294,U5 "top_by" xc XR 301,U5 "turned_by" iJ XS 306,U5 "is_too_much" iK XS 313,U5 "are_too_many" gI XS 320,U5 "reason_against" eN Le 342,U5 "searched" kX Le 335,U5 "bounds_of" fG Le 330,U5 "ways_for" kY Le 325,U5 "wish_for_less" dB QN 347,U5 "best_ways" iL QN 352,U5 "still_across" d8 Lf 371,U5 "most_on" sS Lf 366,U5 "left_free" iM Lf 376,U5 "sent_one_by_one" dU Lf 359,U5 "least_top" mv Sn 383,U5 "place_put" iN N9 388,U5 "joined_rooms" gJ N9 400,U5 "place_taken" dC N9 393,U5 "asks_like" iP Oa 405,U5 "first_asks" gq Oa 410,U5 "put_together" d9 Oa 415,U5 "_law_tops" mw l7 502,U5 "_law_under" jL l7 490,U5 "_law_take" mx l7 429,U5 "_law_rings" cH l7 507,U5 "_law_low" pF l7 436,U5 "_law_amount" iQ l7 443,U5 "_law_over" my l7 483,U5 "_law_times" jM l7 476,U5 "_law_same" iR l7 495,U5 "_law_good" iS l7 512,U5 "_law_begun" jN l7 422,U5 "_law_names" eF l7 448,U5 "_law_rooms" jP l7 455,U5 "_law_ends" mz l7 462,U5 "_law_ring" mB l7 469,U5 "law" Ki l7 519].getD i (U5 "law" Ki XE 0)
theorem tx{Pm:Params}{h:Heap}{mg:Str->Option Value}(X:(Hd.Kf Pm).In h)(G:h.Ns mainGlobals mg):Tx (Hd.Kf Pm) mg XC XT where
 aa3:=FX.mk' X G (a:=21) (c:=20) (md:=XE) z_ z_ z_ z_ aaC
 abh:=FX.mk' X G (a:=28) (c:=27) (md:=XE) z_ z_ z_ z_ aaC
 aa4:=FX.mk' X G (a:=91) (c:=90) (md:=XG) z_ z_ z_ z_ aaB
 aaO:=FX.mk' X G (a:=99) (c:=98) (md:=XH) z_ z_ z_ z_ aaC
 abi:=FX.mk' X G (a:=106) (c:=105) (md:=XH) z_ z_ z_ z_ aaC
 aa5:=FX.mk' X G (a:=113) (c:=112) (md:=XH) z_ z_ z_ z_ aaC
 abj:=FX.mk' X G (a:=120) (c:=119) (md:=XH) z_ z_ z_ z_ aaC
 aaV:=FX.mk' X G (a:=127) (c:=126) (md:=XH) z_ z_ z_ z_ aaC
 aa6:=FX.mk' X G (a:=134) (c:=133) (md:=XH) z_ z_ z_ z_ aaC
 aaW:=FX.mk' X G (a:=141) (c:=140) (md:=XH) z_ z_ z_ z_ aaC
 abk:=FX.mk' X G (a:=148) (c:=147) (md:=XH) z_ z_ z_ z_ aaC
 aaX:=FX.mk' X G (a:=155) (c:=154) (md:=XH) z_ z_ z_ z_ aaB
 aaQ:=FX.mk' X G (a:=170) (c:=169) (md:=XI) z_ z_ z_ z_ aaC
 abl:=FX.mk' X G (a:=160) (c:=159) (md:=XI) z_ z_ z_ z_ aaC
 abm:=FX.mk' X G (a:=165) (c:=164) (md:=XI) z_ z_ z_ z_ aaB
 abn:=FX.mk' X G (a:=175) (c:=174) (md:=XI) z_ z_ z_ z_ aaD
 abo:=FX.mk' X G (a:=180) (c:=179) (md:=XI) z_ z_ z_ z_ aaC
 aa7:=FX.mk' X G (a:=187) (c:=186) (md:=XJ) z_ z_ z_ z_ aaC
 aaY:=FX.mk' X G (a:=194) (c:=193) (md:=XJ) z_ z_ z_ z_ aaD
 abp:=FX.mk' X G (a:=199) (c:=198) (md:=XJ) z_ z_ z_ z_ aaC
 abq:=FX.mk' X G (a:=206) (c:=205) (md:=XJ) z_ z_ z_ z_ aaC
 abr:=FX.mk' X G (a:=213) (c:=212) (md:=XJ) z_ z_ z_ z_ aaC
 aa8:=FX.mk' X G (a:=218) (c:=217) (md:=XJ) z_ z_ z_ z_ aaB
 abt:=FX.mk' X G (a:=225) (c:=224) (md:=XJ) z_ z_ z_ z_ aaB
 abu:=FX.mk' X G (a:=237) (c:=236) (md:=XM) z_ z_ z_ z_ aaB
 aa9:=FX.mk' X G (a:=242) (c:=241) (md:=XM) z_ z_ z_ z_ aaC
 aba:=FX.mk' X G (a:=230) (c:=229) (md:=XM) z_ z_ z_ z_ aaC
 abv:=FX.mk' X G (a:=249) (c:=248) (md:=XN) z_ z_ z_ z_ aaB
 abw:=FX.mk' X G (a:=254) (c:=253) (md:=XN) z_ z_ z_ z_ aaD
 aaZ:=FX.mk' X G (a:=261) (c:=260) (md:=XN) z_ z_ z_ z_ aaE
 abx:=FX.mk' X G (a:=268) (c:=267) (md:=XQ) z_ z_ z_ z_ aaE
 aby:=FX.mk' X G (a:=273) (c:=272) (md:=XQ) z_ z_ z_ z_ aaD
 abz:=FX.mk' X G (a:=278) (c:=277) (md:=XQ) z_ z_ z_ z_ aaC
 abA:=FX.mk' X G (a:=283) (c:=282) (md:=XQ) z_ z_ z_ z_ aaC
 abB:=FX.mk' X G (a:=290) (c:=289) (md:=XQ) z_ z_ z_ z_ aaC
 abC:=FX.mk' X G (a:=295) (c:=294) (md:=XR) z_ z_ z_ z_ aaC
 abD:=FX.mk' X G (a:=302) (c:=301) (md:=XR) z_ z_ z_ z_ aaC
 abE:=FX.mk' X G (a:=307) (c:=306) (md:=XS) z_ z_ z_ z_ aaC
 abF:=FX.mk' X G (a:=314) (c:=313) (md:=XS) z_ z_ z_ z_ aaD
 abG:=FX.mk' X G (a:=321) (c:=320) (md:=XS) z_ z_ z_ z_ aaC
 abH:=FX.mk' X G (a:=343) (c:=342) (md:=Le) z_ z_ z_ z_ aaE
 abb:=FX.mk' X G (a:=336) (c:=335) (md:=Le) z_ z_ z_ z_ λ_ _ _ _ _ _=>acS λ_ _ _ _ _ _=>rfl
 abI:=FX.mk' X G (a:=331) (c:=330) (md:=Le) z_ z_ z_ z_ aaC
 abJ:=FX.mk' X G (a:=326) (c:=325) (md:=Le) z_ z_ z_ z_ aaC
 abK:=FX.mk' X G (a:=348) (c:=347) (md:=QN) z_ z_ z_ z_ aaC
 abL:=FX.mk' X G (a:=353) (c:=352) (md:=QN) z_ z_ z_ z_ aaB
 abM:=FX.mk' X G (a:=372) (c:=371) (md:=Lf) z_ z_ z_ z_ aaE
 abN:=FX.mk' X G (a:=367) (c:=366) (md:=Lf) z_ z_ z_ z_ aaE
 abO:=FX.mk' X G (a:=377) (c:=376) (md:=Lf) z_ z_ z_ z_ λ_ _ _ _ _ _=>acR λ_ _ _ _ _=>rfl
 abP:=FX.mk' X G (a:=360) (c:=359) (md:=Lf) z_ z_ z_ z_ aaC
 abQ:=FX.mk' X G (a:=384) (c:=383) (md:=Sn) z_ z_ z_ z_ aaB
 abR:=FX.mk' X G (a:=389) (c:=388) (md:=N9) z_ z_ z_ z_ aaC
 abS:=FX.mk' X G (a:=401) (c:=400) (md:=N9) z_ z_ z_ z_ aaC
 abT:=FX.mk' X G (a:=394) (c:=393) (md:=N9) z_ z_ z_ z_ aaC
 abc:=FX.mk' X G (a:=406) (c:=405) (md:=Oa) z_ z_ z_ z_ aaC
 abU:=FX.mk' X G (a:=411) (c:=410) (md:=Oa) z_ z_ z_ z_ aaB
 abV:=FX.mk' X G (a:=416) (c:=415) (md:=Oa) z_ z_ z_ z_ aaB
 aaR:=FX.mk' X G (a:=503) (c:=502) (md:=l7) z_ z_ z_ z_ aaB
 abd:=FX.mk' X G (a:=491) (c:=490) (md:=l7) z_ z_ z_ z_ aaC
 aaI:=FX.mk' X G (a:=430) (c:=429) (md:=l7) z_ z_ z_ z_ aaC
 abW:=FX.mk' X G (a:=508) (c:=507) (md:=l7) z_ z_ z_ z_ aaC
 aa0:=FX.mk' X G (a:=437) (c:=436) (md:=l7) z_ z_ z_ z_ aaC
 aaP:=FX.mk' X G (a:=444) (c:=443) (md:=l7) z_ z_ z_ z_ aaD
 abX:=FX.mk' X G (a:=484) (c:=483) (md:=l7) z_ z_ z_ z_ aaC
 abY:=FX.mk' X G (a:=477) (c:=476) (md:=l7) z_ z_ z_ z_ aaC
 aaS:=FX.mk' X G (a:=496) (c:=495) (md:=l7) z_ z_ z_ z_ aaC
 abZ:=FX.mk' X G (a:=513) (c:=512) (md:=l7) z_ z_ z_ z_ aaC
 aaT:=FX.mk' X G (a:=423) (c:=422) (md:=l7) z_ z_ z_ z_ aaC
 ab0:=FX.mk' X G (a:=449) (c:=448) (md:=l7) z_ z_ z_ z_ aaC
 ab1:=FX.mk' X G (a:=456) (c:=455) (md:=l7) z_ z_ z_ z_ aaD
 ab2:=FX.mk' X G (a:=463) (c:=462) (md:=l7) z_ z_ z_ z_ aaE
 ab3:=FX.mk' X G (a:=470) (c:=469) (md:=l7) z_ z_ z_ z_ aaE
 ab4:=FX.mk' X G (a:=520) (c:=519) (md:=l7) z_ z_ z_ z_ aaB
 abe:=Yv X G z_
 aca:=Yv X G z_
 acb:=Yv X G z_
 aa1:=Yv X G z_
 aaN:=Yv X G z_
 aa2:=Yv X G z_
 aaK:=Yv X G z_
 aaH:=Yv X G z_
 aaM:=Yv X G z_
 acd:=Yv X G z_
 ab5:=Yv X G z_
 aaJ:=Yv X G z_
 ab6:=Yv X G z_
 abf:=Yv X G z_
 ab7:=Yv X G z_
 ace:=Yv X G z_
 abg:=Yv X G z_
 aaU:=Yv X G z_
 ab8:=nq (ZR X G (v:=(.str "back" 486)) z_)
 acf:=nq (ZR X G (v:=(.str "cut" 598)) z_)
 acg:=v7 (ZR X G (v:=(.int 2 705)) z_)
 ach:=v7 (ZR X G (v:=(.int 7 606)) z_)
 aci:=v7 (ZR X G (v:=(.int 12 707)) z_)
 ab9:=Ir (ZR X G (v:=.ref 92) z_) (show(Hd.Kf Pm).lookup 92=some (Hd.acn #[(.int 0 293),(.int 1 294)]) by kernel_rfl) ⟨_,_,[L2.V.int 0,L2.V.int 1],_,rfl,rfl,rfl,xp,(.cons ⟨_,rfl⟩ (.cons ⟨_,rfl⟩ .nil)),λK H=>(.cons (.int _) (.cons (.int _) .nil))⟩
 aaL:=nq (ZR X G (v:=(.str "on" 484)) z_)
 acj:=nq (ZR X G (v:=(.str "split" 602)) z_)
 ack:=nq (ZR X G (v:=(.str "turned" 600)) z_)
theorem walkF(w:World)(mg:Str→Option Value)(fa:Addr)(h:Heap)(X:(Hd.Kf w.params).In h)(G:h.Ns mainGlobals mg) (hmg:mg "law"=some (.ref fa)) :
  ∃ fd:FuncData,(∀(s:Shared)(u:Value),BindsTo s fd ⟨[u],[]⟩ [("_law_script",u)])∧∀ base:Heap,(Hd.Kf w.params).In base→base.Ns mainGlobals mg→FnOk PySem.Challenge.pw_ringloads_k67_whole_tops_alike w (Hd.Kf w.params) mg base CX0 19 fa fd ["_law_script"] (spF (Hd.Kf w.params) 1 fs_law):=by
 have T:=tx X G
 have e:=hmg.symm.trans T.ab4.m
 cases e
 exact⟨_,fun s v=>.of_eq rfl,fun base _ _=>Qu T⟩
theorem tabR(w:World):∀x∈L2.lamNames,W.tabIn (Hd.Kf w.params) x=none∨((PyProof.Rows.recsOf Hd.q).find? λe=>e.name == x).isSome=true:=by
 intro x hx;simp only[L2.lamNames,XW,YD,ZU]at hx;rcases hx with rfl|rfl|rfl
 . exact .inl z_
 . exact .inl z_
 . exact .inl z_
theorem walk{l:W.OpenLaw}{q:Program}{loose:List Str}{XP:(Str->Option Value)->Heap->Prop}{YP:World->Heap->Prop}{d:DefRec}{K:Params->W.Frag}(hn:l.most=some 63)(hq:PyProof.Rows.importsNone q=true)(hdf:d.params.defaults=[])
  (hY:∀(w:World)(h:Heap),YP w h->(K w.params).In h) (hto:∀w:World,L2.tabsOk (K w.params)=true) (hrc:∀(w:World),∀x∈L2.lamNames,W.tabIn (K w.params) x=none∨((PyProof.Rows.recsOf q).find? λe=>e.name == x).isSome=true)
  (F:∀(w:World)(mg:Str->Option Value)(fa:Addr)(h:Heap),(K w.params).In h->h.Ns mainGlobals mg->mg d.name=some (.ref fa) ->
   ∃ fd:FuncData,(∀(s:Shared)(u:Value),BindsTo s fd ⟨[u],[]⟩ [("_law_script",u)])/\∀ base:Heap,(K w.params).In base->base.Ns mainGlobals mg->FnOk l.prog w (K w.params) mg base CX0 19 fa fd ["_law_script"] (spF (K w.params) 1 fs_law)) :
  W.WalkO q loose XP YP l.row.toRowW d [] (λf vs=>PySem.call f vs) :=
 L2.walk_of (n:=63) (k:=19) (x:="_law_script") (CX:=λ_=>CX0) (sp:=λw=>spF (K w.params) 1 fs_law) hn hq xp hdf ⟨rfl,xp,xp,rfl⟩ hY hto hrc F (λ_ H a ns hl hO hS=>Fc hl hO hS (Hs hl)) λ_ _ _ _ _ z=>z
end My
open PySem PySem.W PyProof.Rows
noncomputable abbrev PySem.W.Fast.tw12941143299267134018:PySem.Program:=PySem.Challenge.pw_ringloads_k67_whole_tops_alike
theorem PySem.W.Fast.te12941143299267134018:PySem.Challenge.pw_ringloads_k67_whole_tops_alike=PySem.W.Fast.tw12941143299267134018:=rfl
set_option maxRecDepth 100000 in
theorem PySem.Challenge.cw_ringloads_k67_whole_tops_alike_holds : PySem.Challenge.rw_ringloads_k67_whole_tops_alike.Holds := by
 w_on;o_law
 refine W.holds_open (q:=Hd.q) (loose:=Hd.loose) (Xt:=Hd.Xt) (XP:=XL Hd.q []) (Yf:=Hook.obs Hd.Hk) (Ya:=Hook.val Hd.Hk) (YP:=Hook.says Hd.Hk) (N:=_) Hd.left (Hook.of Hd.Hk) (Hook.keeps Hd.Hk) (fun s e=>xl_of s (aak.mp e).1) XL.keeps (by rfl) (by rfl) (by rfl) (fun s e=>recFacts_of (aak.mp e).2) (by rfl) (by assumption) y_ ⟨rfl,rfl,rfl,rfl,rfl,y_⟩ ?hw ?hc
 case hw=>w_witness2
 case hc=>exact My.walk (l:=PySem.Challenge.rw_ringloads_k67_whole_tops_alike) (K:=Hd.Kf) rfl y_ rfl (fun w h Y=>PySem.W.kIn_of Y) (fun w=>by kernel_rfl) My.tabR My.walkF