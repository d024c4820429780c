import PyProof.Rows.All
import Wide.All
import OpenK.AllK
import Wide.FinOn
import Lean
import PyProof.EqAt
import PyProof.EqKinds
import PyProof.TupleCall
import PyProof.ExcArgs
import KE.KSortKey
import KE.KIsAll
import PyProof.ExcInit
import PyProof.StationsW
import PyProof.NsDelKeeps
import PyProof.RulesAs
import PyProof.PassesOwn
import PyProof.ExcBaseAll.ValueError
import PyProof.InstStoreFacts
import PyProof.Rows.EqDataRows
import PyProof.ReprRoads
import PyProof.Rows.Range3
import PyProof.ConsumeWalk
import PyProof.FString5
import PyProof.ReprLen
import PyProof.Rows.TupAdd
import PyProof.Rows.RuleIs
import PyProof.ListNew
import KE.KRevIter
import PyProof.Rows.SeqMore2
import PyProof.ListRange
import KE.KEqDict
import PyProof.NeKinds
import PyProof.CallStr
import PyProof.ListMulAny
import PyProof.Rows.SetFrom
import PyProof.SetRoads
import KE.KSortTup
import PySem.Challenge.RW_ringloads_k28_rings_at_their_bounds
set_option Elab.async false
set_option linter.all false
set_option maxRecDepth 100000
set_option maxHeartbeats 0
theorem z_ {α:Sort _} {a b:α} (h:a=b:=by kernel_rfl):a=b:=h
theorem y_ {p:Prop} [Decidable p] (h:decide p=true:=by decide +kernel):p:=of_decide_eq_true h
theorem xp {p:Prop} [Decidable p] (h:decide p=true:=by decide):p:=of_decide_eq_true h
theorem xL{p:Prop}(h:p:=by omega):p:=h
theorem x_{p:Prop}(h:p:=by simp):p:=h
section
open PySem PySem.Spec PyProof.Rows PySem.W
theorem fI:type_of% @List.mem_cons_of_mem:=@List.mem_cons_of_mem
theorem gV:type_of% @List.getElem?_eq_getElem:=@List.getElem?_eq_getElem
theorem k4:type_of% @List.mem_cons_self:=@List.mem_cons_self
theorem k5:type_of% @Nat.lt_of_lt_of_le:=@Nat.lt_of_lt_of_le
theorem so:type_of% @List.getElem?_eq_some_iff:=@List.getElem?_eq_some_iff
theorem tu:type_of% @List.getD_eq_getElem?_getD:=@List.getD_eq_getElem?_getD
theorem ZL:type_of% @List.length_map:=@List.length_map
theorem ZM:type_of% @List.getElem_mem:=@List.getElem_mem
theorem ZN:type_of% @Nat.pow_le_pow_right:=@Nat.pow_le_pow_right
theorem ZO:type_of% @Heap.get?_push_of_some:=@Heap.get?_push_of_some
theorem ZP:type_of% @decide_eq_false:=@decide_eq_false
theorem ZQ:type_of% @wpAny_bind:=@wpAny_bind
theorem ZR:type_of% @Nat.le_trans:=@Nat.le_trans
theorem ZS:type_of% @Nat.lt_of_le_of_lt:=@Nat.lt_of_le_of_lt
theorem ZT:type_of% @List.mem_range:=@List.mem_range
theorem ZU:type_of% @List.mem_cons:=@List.mem_cons
theorem ZV:type_of% @Heap.lt_size:=@Heap.lt_size
theorem ZW:type_of% @List.mem_map:=@List.mem_map
theorem ZX:type_of% @decide_eq_true_eq:=@decide_eq_true_eq
theorem ZY:type_of% @Nat.le_refl:=@Nat.le_refl
theorem ZZ:type_of% @List.getElem?_map:=@List.getElem?_map
theorem Z4:type_of% @Int.natAbs_natCast:=@Int.natAbs_natCast
theorem Z5:type_of% @Bool.and_eq_true:=@Bool.and_eq_true
theorem Z8:type_of% @PassesOwn.never:=@PassesOwn.never
theorem aaa:type_of% @decide_eq_true:=@decide_eq_true
theorem aab:type_of% @List.size_toArray:=@List.size_toArray
theorem aac:type_of% @List.length_range:=@List.length_range
theorem aad:type_of% @List.mem_append_right:=@List.mem_append_right
theorem aae:type_of% @List.map_cons:=@List.map_cons
theorem aaf:type_of% @Option.some.inj:=@Option.some.inj
theorem aag:type_of% @List.map_map:=@List.map_map
theorem aah:type_of% @Heap.get?_push_size:=@Heap.get?_push_size
theorem aai:type_of% @wpAny_pure:=@wpAny_pure
theorem aaj:type_of% @List.mem_append_left:=@List.mem_append_left
theorem aak:type_of% @Int.toNat_natCast:=@Int.toNat_natCast
theorem aal:type_of% @List.getElem?_append_right:=@List.getElem?_append_right
theorem aam:type_of% @List.mem_filter:=@List.mem_filter
theorem aan:type_of% @PySem.W.mg_none_of:=@PySem.W.mg_none_of
theorem aao:type_of% @List.filter_cons:=@List.filter_cons
theorem aap:type_of% @List.mem_append:=@List.mem_append
theorem aaq:type_of% @Nat.add_sub_cancel_left:=@Nat.add_sub_cancel_left
theorem aar:type_of% @Nat.ne_of_lt:=@Nat.ne_of_lt
theorem aas:type_of% @List.take_of_length_le:=@List.take_of_length_le
theorem aat:type_of% @Option.some.injEq:=@Option.some.injEq
theorem aau:type_of% @List.getElem?_range:=@List.getElem?_range
theorem aav:type_of% @List.nodup_cons:=@List.nodup_cons
theorem aaw:type_of% @Bool.false_eq_true:=@Bool.false_eq_true
theorem aax:type_of% @List.getElem?_set_self:=@List.getElem?_set_self
theorem aay:type_of% @List.getElem?_set_ne:=@List.getElem?_set_ne
theorem aaz:type_of% @List.nodup_append:=@List.nodup_append
theorem aaA:type_of% @List.lookup_cons:=@List.lookup_cons
theorem aaB:type_of% @List.drop_eq_getElem_cons:=@List.drop_eq_getElem_cons
theorem aaC:type_of% @List.map_congr_left:=@List.map_congr_left
theorem aaD:type_of% @Bool.false_and:=@Bool.false_and
theorem aaE:type_of% @List.filterMap_cons:=@List.filterMap_cons
theorem aaF:type_of% @Bool.false_ne_true:=@Bool.false_ne_true
theorem aaG:type_of% @List.getElem?_append_left:=@List.getElem?_append_left
theorem aaH:type_of% @List.length_zip:=@List.length_zip
theorem aaI:type_of% @SeqAt.canLay_of_shaped:=@SeqAt.canLay_of_shaped
theorem aaJ:type_of% @List.append_assoc:=@List.append_assoc
theorem aaK:type_of% @List.length_append:=@List.length_append
theorem aaL:type_of% @Rat.num_divInt_den:=@Rat.num_divInt_den
theorem aaM:type_of% @List.length_filter_le:=@List.length_filter_le
theorem aaN:type_of% @Nat.zero_le:=@Nat.zero_le
theorem aaO:type_of% @List.perm_append_comm:=@List.perm_append_comm
theorem aaP:type_of% @List.all_eq_true:=@List.all_eq_true
theorem aaQ:type_of% @Int.fmod_eq_emod_of_nonneg:=@Int.fmod_eq_emod_of_nonneg
theorem aaR:type_of% @Bool.true_and:=@Bool.true_and
theorem aaS:type_of% @List.mem_singleton:=@List.mem_singleton
theorem aaT:type_of% @exists_eq_left':=@exists_eq_left'
theorem aaU:type_of% @List.foldl_cons:=@List.foldl_cons
theorem aaV:type_of% @Int.natAbs_mul:=@Int.natAbs_mul
theorem aaW:type_of% @List.map_append:=@List.map_append
theorem aaX:type_of% @if_true:=@if_true
theorem aaY:type_of% @Nat.le_of_dvd:=@Nat.le_of_dvd
theorem aaZ:type_of% @List.getElem_of_mem:=@List.getElem_of_mem
theorem aa0:type_of% @wpAny_truthy_bool:=@wpAny_truthy_bool
theorem aa1:type_of% @Nat.le_of_lt:=@Nat.le_of_lt
theorem aa2:type_of% @Int.fdiv_eq_ediv_of_nonneg:=@Int.fdiv_eq_ediv_of_nonneg
theorem aa3:type_of% @if_false:=@if_false
theorem aa4:type_of% @Rat.sub_eq_add_neg:=@Rat.sub_eq_add_neg
theorem aa5:type_of% @List.nil_append:=@List.nil_append
theorem aa6:type_of% @PySem.W.kia_one:=@PySem.W.kia_one
theorem aa7:type_of% @List.zip_append:=@List.zip_append
theorem aa8:type_of% @List.length_cons:=@List.length_cons
theorem aa9:type_of% @List.ext_getElem:=@List.ext_getElem
theorem aba:type_of% @Nat.le_add_right:=@Nat.le_add_right
theorem abb:type_of% @decide_eq_decide:=@decide_eq_decide
theorem abc:type_of% @List.sublist_append_right:=@List.sublist_append_right
theorem abd:type_of% @PySem.mem_of_lookup:=@PySem.mem_of_lookup
theorem abe:type_of% @Ne.symm:=@Ne.symm
theorem abf:type_of% @Nat.lt_irrefl:=@Nat.lt_irrefl
theorem abg:type_of% @List.length_set:=@List.length_set
theorem abh:type_of% @List.append_nil:=@List.append_nil
theorem abi:type_of% @Rat.natCast_pos:=@Rat.natCast_pos
theorem abj:type_of% @Rat.le_refl:=@Rat.le_refl
theorem abk:type_of% @PyProof.Rows.callWith_type1:=@PyProof.Rows.callWith_type1
theorem abl:type_of% @of_decide_eq_true:=@of_decide_eq_true
theorem abm:type_of% @List.foldl_append:=@List.foldl_append
theorem abn:type_of% @wpAny_mono:=@wpAny_mono
theorem abo:type_of% @Rat.not_lt:=@Rat.not_lt
theorem abp:type_of% @List.getElem_zip:=@List.getElem_zip
theorem abq:type_of% @Rat.le_trans:=@Rat.le_trans
theorem abr:type_of% @wpAny_holding:=@wpAny_holding
theorem abt:type_of% @Bool.and_eq_true_iff:=@Bool.and_eq_true_iff
theorem abu:type_of% @List.length_eq_zero_iff:=@List.length_eq_zero_iff
theorem abv:type_of% @Int.eq_ofNat_of_zero_le:=@Int.eq_ofNat_of_zero_le
theorem abw:type_of% @Int.mul_ne_zero:=@Int.mul_ne_zero
theorem abx:type_of% @Fast.te14364793385576792824:=@Fast.te14364793385576792824
theorem aby:type_of% @Rat.le_of_lt:=@Rat.le_of_lt
theorem abz:type_of% @List.set_set:=@List.set_set
theorem abA:type_of% @List.not_mem_nil:=@List.not_mem_nil
theorem abB:type_of% @List.length_drop:=@List.length_drop
theorem abC:type_of% @Nat.mod_lt:=@Nat.mod_lt
theorem abD:type_of% @List.zip_cons_cons:=@List.zip_cons_cons
theorem abE:type_of% @List.mem_filterMap:=@List.mem_filterMap
theorem abF:type_of% @wpAny_Call_Name_kw:=@wpAny_Call_Name_kw
theorem abG:type_of% @List.set_append_right:=@List.set_append_right
theorem abH:type_of% @List.getElem?_eq_none:=@List.getElem?_eq_none
theorem abI:type_of% @wpAny_passesOwn:=@wpAny_passesOwn
theorem abJ:type_of% @Nat.pow_add:=@Nat.pow_add
theorem abK:type_of% @decide_false:=@decide_false
theorem abL:type_of% @List.Sublist.refl:=@List.Sublist.refl
theorem abM:type_of% @wpAny_newObj_type:=@wpAny_newObj_type
theorem abN:type_of% @Rat.divInt_eq_div:=@Rat.divInt_eq_div
theorem abO:type_of% @List.sum_cons:=@List.sum_cons
theorem abP:type_of% @List.all_cons:=@List.all_cons
theorem abQ:type_of% @Nat.dvd_trans:=@Nat.dvd_trans
theorem abR:type_of% @List.getElem_map:=@List.getElem_map
theorem abS:type_of% @List.length_take:=@List.length_take
theorem abT:type_of% @piece_app:=@piece_app
theorem abU:type_of% @segRun_of:=@segRun_of
theorem abV:type_of% @List.cons_append:=@List.cons_append
theorem abW:type_of% @List.of_mem_zip:=@List.of_mem_zip
theorem abX:type_of% @decide_true:=@decide_true
theorem abY:type_of% @Nat.one_dvd:=@Nat.one_dvd
end
theorem abZ{p:Prop}(h:p:=by exact λ_ _=>rfl):p:=h
theorem ab0{p:Prop}(h:p:=by exact λ_ _ _ _ _ _ u l=>match u,l with | [_],_=>rfl):p:=h
theorem ab1{p:Prop}(h:p:=by exact λ_ _ _ _ _ _ u l=>match u,l with | [_,_],_=>rfl):p:=h
theorem ab2{p:Prop}(h:p:=by exact λ_ _ _ _ _ _ u l=>match u,l with | [_,_,_],_=>rfl):p:=h
theorem ab3{p:Prop}(h:p:=by exact λ_ _ _ _ _ _ u l=>match u,l with | [_,_,_,_],_=>rfl):p:=h
section
open PySem PySem.Spec
abbrev aee:Value:=.str "law_ringloads_k28_rings_at_their_bounds" 963
abbrev aef:Value:=.str "ringloads.errors" 237
abbrev aeg:Value:=.str "ringloads.slides" 752
abbrev aeh:Value:=.str "ringloads.ratios" 306
abbrev aei:Value:=.str "ringloads.rounding" 860
abbrev aej:Value:=.str "ringloads.cuts" 393
abbrev aek:Value:=.str "ringloads.parting" 569
abbrev ael:Value:=.str "ringloads.loads" 504
abbrev aem:Value:=.str "ringloads.leasts" 668
abbrev aen:Value:=.str "ringloads.crossing" 704
abbrev aeo:Value:=.str "ringloads.names" 206
abbrev aep:Value:=.str "ringloads.units" 546
end
theorem aes{p:Prop}(h:p:=by first | exact .inl rfl | exact .inr rfl):p:=h
abbrev aet(x:PySem.Str):Prop:=(x == ("__debug__":PySem.Str))=false
abbrev aeu(x:PySem.Str):Prop:=(x == ("__classdict__":PySem.Str))=false
namespace L2
open PySem PySem.Spec PyProof.Rows
noncomputable abbrev Vi:=Sum Int Str
noncomputable def Qh:Vi->Value->Bool
 |.inl k,v=>Value.isInt k v
 |.inr x,v=>Value.isStrOf x v
noncomputable def UG(w:World):Vi->Int
 |.inl k=>hashInt k
 |.inr x=>hashStr w x
theorem cg:∀{k:Vi}{v:Value},Qh k v=true->(∃i t,k=Sum.inl i/\v=Value.int i t)∨(∃x t,k=Sum.inr x/\v=Value.str x t)
 | .inl i,v,h=>by obtain⟨t,e⟩:=Value.isInt_shape (k:=i) (v:=v) h;exact .inl ⟨i,t,rfl,e⟩
 | .inr x,v,h=>by obtain⟨t,e⟩:=Value.isStrOf_shape (x:=x) (v:=v) h;exact .inr ⟨x,t,rfl,e⟩
theorem Qi(a b:Int):decide ((Sum.inl a:Vi)=Sum.inl b)=(a == b):=by
 by_cases e:a=b
 . subst e;simp
 . have h:¬(Sum.inl a:Vi)=Sum.inl b:=λq=>e (Sum.inl.inj q);rw[ZP h];exact(beq_eq_false_iff_ne.mpr e).symm
theorem Qj(a b:Str):decide ((Sum.inr a:Vi)=Sum.inr b)=decide (a=b):=by
 by_cases e:a=b
 . subst e;simp
 . have h:¬(Sum.inr a:Vi)=Sum.inr b:=λq=>e (Sum.inr.inj q);rw[ZP h,ZP e]
theorem Qk(a:Int)(b:Str):decide ((Sum.inl a:Vi)=Sum.inr b)=false:=ZP (λq=>nomatch q)
theorem Ql(a:Str)(b:Int):decide ((Sum.inr a:Vi)=Sum.inl b)=false:=ZP (λq=>nomatch q)
noncomputable def GX(prog:Program)(w:World):PySem.KeyKind prog w Vi where
 is:=Qh
 hash:=UG w
 inj:=λv a b ha hb=>by
  rcases cg ha with⟨i,t,rfl,rfl⟩|⟨x,t,rfl,rfl⟩
  .
   rcases cg hb with⟨j,u,rfl,e⟩|⟨y,u,rfl,e⟩
   . injection e with e1 _;rw[e1]
   . exact nomatch e
  .
   rcases cg hb with⟨j,u,rfl,e⟩|⟨y,u,rfl,e⟩
   . exact nomatch e
   . injection e with e1 _;rw[e1]
 byValue:=λk v h=>by rcases cg h with⟨i,t,rfl,rfl⟩|⟨x,t,rfl,rfl⟩<;>rfl
 pyHash:=λhv h=>by
  rcases cg hv with⟨i,t,rfl,rfl⟩|⟨x,t,rfl,rfl⟩
  . exact wpAny_pyHash_int h
  . exact wpAny_pyHash_str h
 eqBool:=λhu hv h=>by
  rcases cg hu with⟨i,t,rfl,rfl⟩|⟨x,t,rfl,rfl⟩
  .
   rcases cg hv with⟨j,u,rfl,rfl⟩|⟨y,u,rfl,rfl⟩
   . rw[Qi]at h;exact wpAny_eqBool_int h
   . rw[Qk]at h;exact SeqAt.EqAt.int_str i t y u _ _ _ _ h
  .
   rcases cg hv with⟨j,u,rfl,rfl⟩|⟨y,u,rfl,rfl⟩
   . rw[Ql]at h;exact SeqAt.EqAt.str_int x t j u _ _ _ _ h
   . rw[Qj]at h;exact wpAny_eqBool_str h
 «strs»:=λk x t v h=>by
  rcases cg h with⟨i,u,rfl,e⟩|⟨y,u,rfl,e⟩
  . exact nomatch e
  . injection e with e1 _;subst e1;cases v<;>rfl
inductive V where
 |non|bl (b:Bool)|int (i:Int)|str (x:Str)|byt (b:Array UInt8)|flt (b:UInt64)|ref (a:Addr)|ty (n:String)
 deriving DecidableEq
def cO:V->Value->Prop
 |.non,u=>u=Value.none
 |.bl b,u=>u=Value.bool b
 |.int i,u=>∃t,u=Value.int i t
 |.str x,u=>∃t,u=Value.str x t
 |.byt b,u=>∃t,u=Value.bytes b t
 |.flt b,u=>∃t,u=Value.float b t
 |.ref a,u=>u=Value.ref a
 |.ty n,u=>u=Value.type n
abbrev dA:List V->List Value->Prop:=Paired cO
theorem dA.length{xs:List V}{us:List Value}(r:dA xs us):xs.length=us.length:=Paired.length r
theorem dA.get:∀{xs:List V}{us:List Value}{i:Nat}{x:V},dA xs us->xs[i]?=some x->∃u,us[i]?=some u/\cO x u
 |_,_,_,_,.nil,e=>by simp at e
 |_,_,0,_,.cons r _,e=>by simp at e;subst e;exact⟨_,rfl,r⟩
 | _,_,i+1,x,.cons _ t,e=>by obtain⟨u,h1,h2⟩:=dA.get (i:=i) (x:=x) t (by simpa using e);exact⟨u,by simpa using h1,h2⟩
theorem dA.set{x:V}{u:Value}(r:cO x u):∀{xs:List V}{us:List Value}(i:Nat),dA xs us->dA (xs.set i x) (us.set i u)
 |_,_,_,.nil=>.nil
 |_,_,0,.cons _ t=>.cons r t
 |_,_,i+1,.cons q t=>.cons q (dA.set r i t)
theorem dA.append:∀{xs ys:List V}{us ws:List Value},dA xs us->dA ys ws->dA (xs++ys) (us++ws)
 |_,_,_,_,.nil,s=>s
 |_,_,_,_,.cons r t,s=>.cons r (dA.append t s)
theorem dA.take:∀{xs:List V}{us:List Value}(n:Nat),dA xs us->dA (xs.take n) (us.take n)
 |_,_,0,_=>.nil
 |_,_,_+1,.nil=>.nil
 |_,_,n+1,.cons r t=>.cons r (dA.take n t)
theorem dA.drop:∀{xs:List V}{us:List Value}(n:Nat),dA xs us->dA (xs.drop n) (us.drop n)
 |_,_,0,r=>r
 |_,_,_+1,.nil=>.nil
 |_,_,n+1,.cons _ t=>dA.drop n t
def Sf:Option V->Option Value->Prop
 |some v,some u=>cO v u
 |none,none=>True
 |_,_=>False
def KV{κ:Type}:List (κ×V)->List (κ×Value)->Prop:=Paired λ(p:κ×V) (q:κ×Value)=>p.1=q.1/\cO p.2 q.2
noncomputable def kV:Vi->V
 |.inl i=>.int i
 |.inr x=>.str x
inductive HO where
 |lst (xs:List V)
 |tup (xs:List V)
 |dK (kvs:List (Vi×V))|dT (kvs:List (List Vi×V))
 |set (S:Int->Bool) (n:Nat)
 |ins (C dx:Addr) (fs:List (Str×V))
 |own (x:Addr)
 |xd (fs:List (Str×V))
 |met (f x:Addr)
 |rng (lo hi:Int)
 |frz (o:Obj) (u:HO)
 |tbl (q:Str)
 |ext (φ:Heap->Prop)
noncomputable abbrev Hp:=Addr->Option HO
noncomputable def Vj(H:Hp)(a:Addr)(o:HO):Hp:=λb=>if b=a then some o else H b
theorem bu{H:Hp}{a:Addr}{o:HO}:Vj H a o a=some o:=by unfold Vj;rw[if_pos rfl]
theorem aH{H:Hp}{a b:Addr}{o:HO}(h:b≠a):Vj H a o b=H b:=by unfold Vj;rw[if_neg h]
theorem bC{H:Hp}{a b:Addr}{o:HO}(h:H a=some o)(h':H b=none):a≠b:=by intro e;subst e;rw[h]at h';cases h'
def uE(oc:Obj)(q:Str):Prop:=∃vs t,oc.data=.fields vs/\vs[1]?=some (.str q t)
section
variable(P:Program)(w:World)
def jd(H:Hp)(h:Heap)(a:Addr):HO->Prop
 |.lst xs=>xs.length<=sizeLine/\∃(its:List Value)(n:Nat),dA xs its/\h.get? a=some {cls:=.type "list",data:=.seq its.toArray n}
 |.tup xs=>xs.length<=sizeLine/\∃its:List Value,dA xs its/\IsTup h a its.toArray
 |.dK kvs=>kvs.length<=sizeLine/\(a == sysModules)=false/\∃vs,KV kvs vs/\h.DictOf (GX P w) a vs
 | .dT kvs=>kvs.length<=sizeLine/\(a == sysModules)=false/\∃xs:List (List Vi×Addr×Value),
   Paired (λ(p:List Vi×V) (q:List Vi×Addr×Value)=>p.1=q.1/\H q.2.1=some (.tup (p.1.map kV))/\cO p.2 q.2.2) kvs xs /\
   ∃o es ep,h.get? a=some o/\o.ExactDict/\o.data=.dict es ep/\es.toList=xs.map (entryOfKey (tupleKind (GX P w)))/\(xs.map (·.1)).Nodup
 |.set S n=>h.SetOf (intKind P w) a S n
 | .ins C dx fs=>H dx=some (.own a)/\fs.length<=1000/\dx≠a/\h.get? a=some (W.instObj C dx) /\
   ∃mA,h.Ns1 dx mA/\(∀f,Sf (fs.lookup f) (mA f))/\PySem.Within mA (fs.map (·.1))
 |.own _=>∃o,h.get? a=some o
 |.xd fs=>∃mA,h.Ns1 a mA/\∀f,Sf (fs.lookup f) (mA f)
 |.rng lo hi=>∃ t u v,h.get? a=some {cls:=.type "range",data:=.fields #[.int lo t,.int hi u,.int 1 v] }
 |.frz o u=>h.get? a=some o/\jd H h a u
 |.tbl q=>∃ps:Array Value,h.get? a=some {cls:=.none,data:=.fields ps}/\TriplesOk ps.toList/\∀pos cv,codeAmong pos ps.toList=some cv->∃c' oc,cv=.ref c'/\H c'=some (.frz oc (.own c'))/\uE oc q
 |.met f x=>h.get? a=some (W.methodObj (.ref f) (.ref x))
 |.ext φ=>φ h/\(∃o,h.get? a=some o)/\∀h1 h2:Heap,φ h1->(∀o,h1.get? a=some o->h2.get? a=some o)->φ h2
def Vk(H:Hp)(h:Heap):Prop:=∀a o,H a=some o->jd P w H h a o
end
section
variable{P:Program}{w:World}{H H':Hp}{h h':Heap}{a:Addr}{o:HO}
theorem jd.lt(x:jd P w H h a o):a<h.objs.size:=by
 cases o with
 |lst xs=>obtain⟨_,_,_,_,e⟩:=x;exact ZV e
 |tup xs=>obtain⟨_,_,_,p⟩:=x;exact p.lt
 |dK kvs=>obtain⟨_,_,_,_,o,_,_,e,_⟩:=x;exact ZV e
 |dT kvs=>obtain⟨_,_,_,_,o,_,_,e,_⟩:=x;exact ZV e
 |set S n=>obtain⟨o,_,_,_,e,_⟩:=x;exact ZV e
 |ins C dx fs=>obtain⟨_,_,_,e,_⟩:=x;exact ZV e
 |own y=>obtain⟨_,e⟩:=x;exact ZV e
 |xd fs=>obtain⟨_,⟨_,_,_,e,_⟩,_⟩:=x;exact ZV e
 |rng lo hi=>obtain⟨_,_,_,e⟩:=x;exact ZV e
 |frz ob u=>obtain⟨e,_⟩:=x;exact ZV e
 |tbl q=>obtain⟨_,e,_⟩:=x;exact ZV e
 |met f y=>exact ZV (show h.get? a=some _ from x)
 |ext φ=>obtain⟨_,⟨_,e⟩,_⟩:=x;exact ZV e
theorem Paired.mapP{α β:Type}{F G:α->β->Prop}:∀{l₁:List α}{l₂:List β},Paired F l₁ l₂->(∀a b,F a b->G a b)->Paired G l₁ l₂
 |_,_,.nil,_=>.nil
 |_,_,.cons r t,f=>.cons (f _ _ r) (Paired.mapP t f)
theorem jd.stay(x:jd P w H h a o)(k:∀b u,(b=a∨H b=some (.own a))->h.get? b=some u->h'.get? b=some u)
  (ho:∀b,H b=some (.own a)->H' b=some (.own a)) (ht:∀b xs,H b=some (.tup xs)->H' b=some (.tup xs)) (hf:∀b o q,uE o q->H b=some (.frz o (.own b))->H' b=some (.frz o (.own b))):jd P w H' h' a o:=by
 induction o with
 |lst xs=>obtain⟨z,its,n,r,e⟩:=x;exact⟨z,its,n,r,k _ _ (.inl rfl) e⟩
 |tup xs=>obtain⟨z,its,r,ob,e,c⟩:=x;exact⟨z,its,r,ob,k _ _ (.inl rfl) e,c⟩
 |dK kvs=>obtain⟨z,y,vs,r,ob,es,ep,e,c⟩:=x;exact⟨z,y,vs,r,ob,es,ep,k _ _ (.inl rfl) e,c⟩
 | dT kvs =>
  obtain⟨z,y,xs,r,ob,es,ep,e,c⟩:=x;exact⟨z,y,xs,Paired.mapP r λp q z=>⟨z.1,ht _ _ z.2.1,z.2.2⟩,ob,es,ep,k _ _ (.inl rfl) e,c⟩
 |set S n=>obtain⟨ob,es,ep,t,e,c⟩:=x;exact⟨ob,es,ep,t,k _ _ (.inl rfl) e,c⟩
 | ins C dx fs =>
  obtain⟨d,z,ne,e,mA,⟨od,es,ep,e2,c⟩,r⟩:=x;exact⟨ho _ d,z,ne,k _ _ (.inl rfl) e,mA,⟨od,es,ep,k _ _ (.inr d) e2,c⟩,r⟩
 |own y=>obtain⟨ob,e⟩:=x;exact⟨ob,k _ _ (.inl rfl) e⟩
 |xd fs=>obtain⟨mA,⟨od,es,ep,e,c⟩,r⟩:=x;exact⟨mA,⟨od,es,ep,k _ _ (.inl rfl) e,c⟩,r⟩
 |rng lo hi=>obtain⟨t,u,v,e⟩:=x;exact⟨t,u,v,k _ _ (.inl rfl) e⟩
 |frz ob u ih=>obtain⟨e,q⟩:=x;exact⟨k _ _ (.inl rfl) e,ih q⟩
 | tbl q =>
  obtain⟨ps,e,tr,m⟩:=x
  exact⟨ps,k a _ (.inl rfl) e,tr,λpos cv z=>let ⟨c',oc,a1,a2,a3⟩:=m pos cv z;⟨c',oc,a1,hf _ _ _ a3 a2,a3⟩⟩
 | met f y =>
  have e:h.get? a=some (W.methodObj (.ref f) (.ref y)):=x;show h'.get? a=some (W.methodObj (.ref f) (.ref y));exact k a _ (.inl rfl) e
 |ext φ=>obtain⟨p,⟨o,e⟩,st⟩:=x;exact⟨st _ _ p λo q=>k _ _ (.inl rfl) q,⟨o,k _ _ (.inl rfl) e⟩,st⟩
theorem Vk.lt(x:Vk P w H h)(e:H a=some o):a<h.objs.size:=(x a o e).lt
theorem Vk.fresh(x:Vk P w H h)(e:h.objs.size<=a):H a=none:=by
 cases q:H a with
 |none=>rfl
 |some u=>exact absurd (k5 (x.lt q) e) (abf _)
theorem Vk.kept(x:Vk P w H h)(k:∀b u,h.get? b=some u->h'.get? b=some u):Vk P w H h':=λa o e =>
 (x a o e).stay (λb u _ q=>k b u q) (λ_ q=>q) (λ_ _ q=>q) λ_ _ _ _ q=>q
theorem Vk.laid(x:Vk P w H h)(k:∀b u,h.get? b=some u->h'.get? b=some u)(hp:h.objs.size<=a)(new:jd P w (Vj H a o) h' a o):Vk P w (Vj H a o) h':=λb u e=>by
 have hn:=x.fresh hp;by_cases hb:b=a
 . subst hb;rw[bu]at e;cases e;exact new
 . rw[aH hb]at e;exact(x b u e).stay (λc v _ q=>k c v q) (λc q=>by rw[aH (bC q hn)];exact q) (λc xs q=>by rw[aH (bC q hn)];exact q) λc ob _ _ q=>by rw[aH (bC q hn)];exact q
end
def Rd(H:Hp)(a:Addr)(u:HO):Prop:=H a=some u∨∃o,H a=some (.frz o u)
theorem Rd.ok{P:Program}{w:World}{H:Hp}{h:Heap}{a:Addr}{u:HO}(r:Rd H a u)(x:Vk P w H h):jd P w H h a u:=by
 rcases r with r|⟨o,r⟩
 . exact x a u r
 . obtain⟨_,q⟩:=x a _ r;exact q
def Vl:Option HO->Prop
 |some (.lst _)=>True
 |some (.dK _)=>True
 |some (.dT _)=>True
 |some (.set _ _)=>True
 |some (.ins _ _ _)=>True
 |some (.ext _)=>True
 |_=>False
section
variable{P:Program}{w:World}{H:Hp}{h h':Heap}{x e:Addr}{o':HO}
theorem Vk.write(ok:Vk P w H h)(mu:Vl (H x))(he:e=x∨H e=some (.own x))(k:∀b u,b≠e->h.get? b=some u->h'.get? b=some u)(heo:∃u,h'.get? e=some u)
  (new:jd P w (Vj H x o') h' x o'):Vk P w (Vj H x o') h':=λb u q=>by
 have nown:∀c y,H c=some (.own y)->c≠x:=λc y r z=>by subst z;rw[r]at mu;exact mu
 have ntup:∀c xs,H c=some (.tup xs)->c≠x:=λc xs r z=>by subst z;rw[r]at mu;exact mu
 have nfrz:∀c o u,H c=some (.frz o u)->c≠x:=λc o u r z=>by subst z;rw[r]at mu;exact mu
 by_cases hb:b=x
 . subst hb;rw[bu]at q;cases q;exact new
 .
  rw[aH hb]at q;by_cases hbe:b=e
  .
   have q':H b=some (.own x):=by
    rcases he with z|z
    . exact absurd (hbe.trans z) hb
    . rw[hbe];exact z
   rw[q]at q';cases q';obtain⟨v,hv⟩:=heo;exact⟨v,by rw[hbe];exact hv⟩
  .
   refine(ok b u q).stay (λc v hc r=>k c v ?_ r) (λc r=>by rw[aH (nown c b r)];exact r) (λc xs r=>by rw[aH (ntup c xs r)];exact r) λc ob _ _ r=>by rw[aH (nfrz c ob _ r)];exact r
   rcases hc with rfl|hc
   . exact hbe
   .
    rintro rfl;rcases he with z|z
    . exact nown c b hc z
    . rw[hc]at z;cases z;exact hb rfl
end
structure Un (fs ex:List Addr) (H H':Hp) (h h':Heap):Prop where
 keep:∀b o,h.get? b=some o->H b=none->b∉fs->b∉ex->h'.get? b=some o
 slot:∀b o,h.get? b=some o->H b=none->b∈fs->b∉ex->∃sl,h'.get? b=some {o with slots:=sl}
 free:∀b o,h.get? b=some o->H b=none->b∉ex->H' b=none
 there:∀b o,h.get? b=some o->b∉ex->∃o',h'.get? b=some o'
 tups:∀b xs,H b=some (.tup xs)->H' b=some (.tup xs)
 frzs:∀b o u,H b=some (.frz o u)->H' b=some (.frz o u)
 tbls:∀b q,H b=some (.tbl q)->H' b=some (.tbl q)
section
variable{fs ex:List Addr}{H H1:Hp}{h h1 h':Heap}{a x e:Addr}{o:HO}
theorem Un.any(u:Un fs ex H H1 h h1){b:Addr}{ob:Obj}(q:h.get? b=some ob)(n:H b=none)(hx:b∉ex):∃sl,h1.get? b=some {ob with slots:=sl}:=by
 by_cases hb:b∈fs
 . exact u.slot b ob q n hb hx
 . exact⟨ob.slots,u.keep b ob q n hb hx⟩
theorem Un.kept(k:∀b u,h.get? b=some u->h'.get? b=some u):Un fs ex H H h h' :=
 ⟨λb ob q _ _ _=>k b ob q,λb ob q _ _ _=>⟨ob.slots,k b ob q⟩,λ_ _ _ n _=>n,λb ob q _=>⟨ob,k b ob q⟩,λ_ _ q=>q,λ_ _ _ q=>q,λ_ _ q=>q⟩
theorem Un.refl:Un fs ex H H h h:=Un.kept λ_ _ q=>q
theorem Un.laid(k:∀b u,h.get? b=some u->h'.get? b=some u)(hp:h.objs.size<=a)(hn:H a=none):Un fs ex H (Vj H a o) h h' where
 keep:=λb u q _ _ _=>k b u q
 slot:=λb u q _ _ _=>⟨u.slots,k b u q⟩
 free:=λb u q n _=>by rw[aH (aar (k5 (ZV q) hp))];exact n
 there:=λb u q _=>⟨u,k b u q⟩
 tups:=λb xs q=>by rw[aH (bC q hn)];exact q
 frzs:=λb u xs q=>by rw[aH (bC q hn)];exact q
 tbls:=λb ps q=>by rw[aH (bC q hn)];exact q
theorem Un.write(mu:Vl (H x))(he:e=x∨H e=some (.own x))(k:∀b u,b≠e->h.get? b=some u->h'.get? b=some u)(heo:∃u,h'.get? e=some u):Un fs ex H (Vj H x o) h h':=by
 have hx:∀b,H b=none->b≠x:=λb n z=>by subst z;rw[n]at mu;exact mu
 have hb:∀b,H b=none->b≠e:=λb n z=>by
  subst z;rcases he with r|r
  . exact hx b n r
  . rw[n]at r;cases r
 have hm:∀b u,H b=some u->¬Vl (some u)->b≠x:=λb u q nm z=>by subst z;rw[q]at mu;exact nm mu
 refine⟨λb u q n _ _=>k b u (hb b n) q,λb u q n _ _=>⟨u.slots,k b u (hb b n) q⟩,λb u q n _=>by rw[aH (hx b n)];exact n,λb u q _=>?_,
  λb xs q=>by rw[aH (hm b _ q λz=>z)];exact q,λb u xs q=>by rw[aH (hm b _ q λz=>z)];exact q,λb ps q=>by rw[aH (hm b _ q λz=>z)];exact q⟩
 by_cases hbe:b=e
 . subst hbe;exact heo
 . exact⟨u,k b u hbe q⟩
end
noncomputable def Vm(h:Heap)(H:Hp):List Addr:=(List.range h.objs.size).filter λa=>(H a).isSome
noncomputable def Kx(h:Heap)(H:Hp):Heap:=W.hideAll h (Vm h H)
theorem GY(h:Heap)(H:Hp):(Kx h H).objs.size=h.objs.size:=W.hideAll_size _ _
theorem Ky{h:Heap}{H:Hp}{b:Addr}{o:Obj}(e:h.get? b=some o)(n:H b=none):(Kx h H).get? b=some o :=
 W.hideAll_get _ e λhm=>by have q:(H b).isSome=true:=(aam.mp hm).2;rw[n]at q;simp at q
theorem NH{h:Heap}{H:Hp}{b:Addr}{o:Obj}(e:(Kx h H).get? b=some o):h.get? b=some o/\H b=none:=by
 have e':h.get? b=some o:=W.of_hideAll (Vm h H) e;refine⟨e',?_⟩
 cases q:H b with
 |none=>rfl
 | some x =>
  have hm:b∈Vm h H:=aam.mpr ⟨ZT.mpr (ZV e'),by simp[q]⟩;have z:(Kx h H).get? b=none:=W.hideAll_none (Vm h H) hm;rw[z]at e;cases e
noncomputable def uF(g h:Heap)(L:Addr):List (Addr×Obj):=(List.range h.objs.size).filterMap λa=>if a=L∨(g.get? a).isSome=true then none else(h.get? a).map λo=>(a,o)
theorem Cu{g h:Heap}{L a:Addr}{o:Obj}(h1:a≠L)(h2:g.get? a=none)(h3:h.get? a=some o):(a,o)∈uF g h L :=
 abE.mpr ⟨a,ZT.mpr (ZV h3),by simp[h1,h2,h3]⟩
theorem xi{g h:Heap}{L:Addr}{p:Addr×Obj}(hp:p∈uF g h L):p.1≠L/\g.get? p.1=none/\h.get? p.1=some p.2:=by
 obtain⟨b,_,e⟩:=abE.mp hp;split at e
 . cases e
 .
  rename_i hn
  cases q:h.get? b with
  |none=>rw[q]at e;simp at e
  | some u =>
   rw[q]at e;simp only[Option.map_some,aat]at e;subst e;refine⟨λz=>hn (.inl z),?_,q⟩;show g.get? b=none
   cases r:g.get? b with
   |none=>rfl
   |some v=>exact(hn (.inr (by simp[r]))).elim
noncomputable def rest(g h:Heap)(L d:Addr):List (Addr×Obj):=(uF g h L).filter λp=>decide (p.1≠d)
theorem Kz{g h:Heap}{L:Addr}:News g L h (uF g h L):=λp hp=>let ⟨a,b,c⟩:=xi hp;⟨c,a,b⟩
def Qm(mg:Str->Option Value)(h:Heap):Prop:=∃ bm ob,mg "__builtins__"=some (.ref bm)/\bm≠builtinsNs/\h.get? bm=some ob/\ob.cls=.type "module"/\ob.dict=some builtinsNs/\ob.data=.plain
noncomputable def lamNames:List Str:=["look_at_asks","by_lesser_place","look_at_string"]
noncomputable def ya(x:Str):Str:=(x++".<locals>.")++"<lambda>"
def Vn(K:W.Frag)(H:Hp):Prop:=∀x∈lamNames,∀c P,W.tabIn K x=some (c,P)->H P=some (.tbl (ya x))
theorem Vn.un{K:W.Frag}{fs ex:List Addr}{H H':Hp}{h h':Heap}(t:Vn K H)(u:Un fs ex H H' h h'):Vn K H':=λx hx c P e=>u.tbls _ _ (t x hx c P e)
structure Mod (K:W.Frag) (mg:Str->Option Value) (base:Heap):Prop where
 kin:K.In base
 glob:base.Ns mainGlobals mg
 blt:∃ mb,base.Ns builtinsNs mb/\∀ x:Str,x≠"__name__"->mb x=bootBuiltins x
 nolimit:base.NoLimit
 sysm:∃mm,base.Ns sysModules mm
 bmn:Qm mg base
 cds:∀x∈lamNames,∀c P,W.tabIn K x=some (c,P)->W.CodeHd base c P
/-- the context: a def's body (or a comprehension's NI) running. base: fixed through the whole law;s₀,H₀: the entry;outer: the frames whose slots others may change (a def's callers);stack: all frames that run;
  ex: iterators that were made ahead of the entry and are walked here (a comprehension's);fn: the names whose cells were made at the entry (a def: all;a comprehension's NI: its own);calm: not fS an except suite;pn: ab that every state bears;xe: what is wanted of an exception that leaves the code -/
structure Cx where
 prog:Program
 w:World
 K:W.Frag
 mg:Str->Option Value
 base:Heap
 A:Around
 N:List Str
 s₀:Shared
 H₀:Hp
 env:Env
 outer:List Env
 stack:List Env
 ex:List Addr
 fn:Str->Bool
 calm:Bool
 pn:List (Addr×Obj)
 xe:Value->Shared->Prop
noncomputable def Vo(l:List Env):List Addr:=l.filterMap (·.frame)
noncomputable abbrev Cx.fs(X:Cx):List Addr:=Vo X.outer
def Vp(sc:Scope)(x:Str):Prop:=sc.names.lookup x=some .local∨sc.names.lookup x=some .cell∨sc.names.lookup x=some .free
def Vq(sc:Scope)(x:Str):Prop:=sc.names.lookup x=some .local∨sc.names.lookup x=some .cell
def UH(env:Env)(h:Heap)(m:Str->Option Value)(x:Str)(u:Value):Prop :=
 (env.kindOf x=some .local/\m x=some u)∨((env.kindOf x=some .cell∨env.kindOf x=some .free)/\∃c,env.cells.lookup x=some c/\h.IsCell c (some u))
structure Cx.Ok (X:Cx):Prop where
 mod:Mod X.K X.mg X.base
 kind:X.env.scope.kind=.function
 glob:X.env.globals=mainGlobals
 blt:X.env.builtins=builtinsNs
 above:X.s₀.heap.objs.size<=X.env.locals
 inj:∀x y c,X.env.cells.lookup x=some c->X.env.cells.lookup y=some c->x=y
 has:∀x,(X.env.kindOf x=some .cell∨X.env.kindOf x=some .free)->∃c,X.env.cells.lookup x=some c
 cab:∀x c,X.fn x=true->X.env.cells.lookup x=some c->X.s₀.heap.objs.size<=c
 hd:X.calm=true->X.A.handled=none
 frames:X.A.frames=some X.stack
 stk:X.stack=X.outer∨(X.stack=X.env::X.outer/\X.env.frame=some X.env.locals)
 exf:∀b∈X.ex,b≠X.env.locals/\∀x c,X.env.cells.lookup x=some c->c≠b
 bs:∀b o,X.base.get? b=some o->X.s₀.heap.get? b=some o/\X.H₀ b=none
 bsz:X.base.objs.size<=X.s₀.heap.objs.size
 noex:∀b o,X.base.get? b=some o->b∉X.ex
 exfs:∀b∈X.ex,b∉X.fs
 funs:X.s₀.heap.FunFrames X.base X.outer
 frf:∀b∈X.fs,X.H₀ b=none
 tbs:Vn X.K X.H₀
structure Vr (X:Cx) (ab:List (Addr×Obj)) (σ:List (Option V)) (H:Hp) (s:Shared):Prop where
 ok:X.Ok
 os:s.os=X.s₀.os
 bare:AllBare s.gens
 base:Un X.fs X.ex X.H₀ H X.s₀.heap s.heap
 loc:∃m,s.heap.Ns X.env.locals m/\∀(i:Nat)(x:Str)(v:V),X.N[i]?=some x->σ[i]?=some (some v)->Vp X.env.scope x->∃u,cO v u/\UH X.env s.heap m x u
 cell:∀x c,X.env.cells.lookup x=some c->∃v,s.heap.IsCell c v
 free:H X.env.locals=none
 freeC:∀x c,X.env.cells.lookup x=some c->H c=none∨(X.fn x=false/\∃o,H c=some (.frz o (.own c)))
 pin:∀p∈X.pn++ab,s.heap.get? p.1=some p.2/\H p.1=none/\p.1≠X.env.locals/\p.1∉X.fs/\∀v,p.2.data≠.cell v
 hok:Vk X.prog X.w H s.heap
 len:σ.length=X.N.length
section
variable{X:Cx}{ab:List (Addr×Obj)}{σ:List (Option V)}{H H':Hp}{s:Shared}{h':Heap}
theorem Cx.Ok.nofr(ok:X.Ok){b:Addr}{o:Obj}(e:X.base.get? b=some o):b∉X.fs:=λhb=>by have:=(ok.funs.mem hb).1;rw[e]at this;cases this
theorem Vr.bs(I:Vr X ab σ H s):∀b o,X.base.get? b=some o->s.heap.get? b=some o/\H b=none:=λb o e =>
 ⟨I.base.keep b o (I.ok.bs b o e).1 (I.ok.bs b o e).2 (I.ok.nofr e) (I.ok.noex b o e),I.base.free b o (I.ok.bs b o e).1 (I.ok.bs b o e).2 (I.ok.noex b o e)⟩
theorem Vr.bk(I:Vr X ab σ H s):∀b o,X.base.get? b=some o->s.heap.get? b=some o:=λb o e=>(I.bs b o e).1
theorem Vr.tbs(I:Vr X ab σ H s):Vn X.K H:=I.ok.tbs.un I.base
theorem Vr.mod(I:Vr X ab σ H s):Mod X.K X.mg X.base:=I.ok.mod
theorem Vr.kIn(I:Vr X ab σ H s):X.K.In s.heap:=I.ok.mod.kin.keeps I.bk
theorem Vr.lt(I:Vr X ab σ H s):X.env.locals<s.heap.objs.size:=let ⟨_,hn,_⟩:=I.loc;hn.lt
theorem Vr.sz(I:Vr X ab σ H s):X.s₀.heap.objs.size<=s.heap.objs.size:=ZR I.ok.above (aa1 I.lt)
theorem Vr.nofs(I:Vr X ab σ H s){a:Addr}(h:s.heap.objs.size<=a):a∉X.fs:=λhb=>by obtain⟨_,o,ho,_⟩:=I.ok.funs.mem hb;exact absurd (k5 (ZV ho) (ZR I.sz h)) (abf _)
theorem Vr.cne(I:Vr X ab σ H s):∀x c,X.env.cells.lookup x=some c->c≠X.env.locals:=λx c e z=>by obtain⟨v,o,ho,hd⟩:=I.cell x c e;obtain⟨m,⟨o',es,ep,ho',hd',_⟩,_⟩:=I.loc;rw[z,ho']at ho;cases ho;rw[hd']at hd;cases hd
theorem Vr.funs(I:Vr X ab σ H s):s.heap.FunFrames X.base X.outer:=by
 have all:∀(l:List Env),(∀b∈Vo l,b∈X.fs)->X.s₀.heap.FunFrames X.base l->s.heap.FunFrames X.base l:=by
  intro l
  induction l with
  |nil=>intro _ _;trivial
  | cons env r ih =>
   intro hs hl;obtain⟨hk,⟨L,o,hf,hn,ho,hd⟩,hr⟩:=hl;have hL:L∈X.fs:=hs L (by unfold Vo;rw[aaE,hf];exact k4);obtain⟨sl,e⟩:=I.base.slot L o ho (I.ok.frf L hL) hL λz=>I.ok.exfs L z hL;exact⟨hk,⟨L,_,hf,hn,e,hd⟩,ih (λb hb=>hs b (by unfold Vo;rw[aaE,hf];exact fI _ hb)) hr⟩
 exact all X.outer (λ_ hb=>hb) I.ok.funs
theorem Vr.stack(I:Vr X ab σ H s):s.heap.FunFrames X.base X.stack:=by
 rcases I.ok.stk with e|⟨e,hf⟩
 . rw[e];exact I.funs
 . rw[e];obtain⟨m,hn,_⟩:=I.loc;refine .cons (by rw[I.ok.kind];decide) hf hn ?_ I.funs;exact Heap.get?_none_of_le (ZR I.ok.bsz I.ok.above)
theorem Vr.stkSub(I:Vr X ab σ H s):∀b∈Vo X.stack,b∈X.env.locals::X.fs:=λb hb=>by
 rcases I.ok.stk with e|⟨e,hf⟩
 . rw[e]at hb;exact fI _ hb
 . rw[e]at hb;unfold Vo at hb;rw[aaE,hf]at hb;exact hb
theorem Vr.stkFree(I:Vr X ab σ H s):∀b∈Vo X.stack,H b=none:=λb hb=>by
 rcases ZU.mp (I.stkSub b hb)with e|hb
 . rw[e];exact I.free
 . obtain⟨_,o,ho,_⟩:=I.ok.funs.mem hb;exact I.base.free b o ho (I.ok.frf b hb) λz=>I.ok.exfs b z hb
theorem Vr.step{g':Array GenState}{t':Nat}{d':Drawn}{ch:List Addr}(I:Vr X ab σ H s)
  (hch:∀b∈ch,(b∈X.ex∨X.s₀.heap.objs.size<=b)/\b≠X.env.locals/\(∀x c,X.env.cells.lookup x=some c->c≠b)/\∀p∈X.pn++ab,p.1≠b)
  (keep:∀b o,b≠X.env.locals->b∉X.fs->b∉ch->s.heap.get? b=some o->H b=none->h'.get? b=some o)
  (slot:∀b o,b≠X.env.locals->b∈X.fs->b∉ch->s.heap.get? b=some o->H b=none->∃sl,h'.get? b=some {o with slots:=sl}) (free:∀b o,b∉ch->s.heap.get? b=some o->H b=none->H' b=none)
  (there:∀b o,b∉ch->s.heap.get? b=some o->∃o',h'.get? b=some o')
  (tups:∀b xs,H b=some (.tup xs)->H' b=some (.tup xs)) (frzs:∀b o u,H b=some (.frz o u)->H' b=some (.frz o u)) (tbls:∀b q,H b=some (.tbl q)->H' b=some (.tbl q))
  (ns:∀m,s.heap.Ns X.env.locals m->h'.Ns X.env.locals m) (hok:Vk X.prog X.w H' h') (hg:AllBare g') :
  Vr X ab σ H' {s with heap:=h',gens:=g',drawn:=d',toks:=t' }:=by
 have neL:∀b o,X.s₀.heap.get? b=some o->b≠X.env.locals:=λb o e=>aar (k5 (ZV e) I.ok.above)
 have neC:∀b o,X.s₀.heap.get? b=some o->b∉X.ex->b∉ch:=λb o e hx hb=>by
  rcases(hch b hb).1 with z|z
  . exact hx z
  . exact absurd (k5 (ZV e) z) (abf _)
 have cellK:∀x c,X.env.cells.lookup x=some c->∀v,s.heap.IsCell c v->h'.IsCell c v:=λx c e v ⟨o,ho,hd⟩=>by
  have nch:c∉ch:=λz=>(hch c z).2.2.1 x c e rfl;rcases I.freeC x c e with hn|⟨_,o2,hz⟩
  .
   by_cases hc:c∈X.fs
   . obtain⟨sl,q⟩:=slot c o (I.cne x c e) hc nch ho hn;exact⟨_,q,hd⟩
   . exact⟨o,keep c o (I.cne x c e) hc nch ho hn,hd⟩
  . have e1:=(I.hok c _ hz).1;rw[ho]at e1;cases e1;exact⟨o,(hok c _ (frzs c _ _ hz)).1,hd⟩
 refine⟨I.ok,I.os,hg,⟨λb o e n hb hx=>?_,λb o e n hb hx=>?_,λb o e n hx=>?_,λb o e hx=>?_,λb xs e=>tups b xs (I.base.tups b xs e),λb o xs e=>frzs b o xs (I.base.frzs b o xs e),λb ps e=>?_⟩,?_,λx c e=>?_,?_,λx c e=>?_,λp hp=>?_,hok,I.len⟩
 . exact keep b o (neL b o e) hb (neC b o e hx) (I.base.keep b o e n hb hx) (I.base.free b o e n hx)
 . obtain⟨sl,e1⟩:=I.base.slot b o e n hb hx;obtain⟨sl',e2⟩:=slot b _ (neL b o e) hb (neC b o e hx) e1 (I.base.free b o e n hx);exact⟨sl',e2⟩
 . obtain⟨o',e1⟩:=I.base.there b o e hx;exact free b o' (neC b o e hx) e1 (I.base.free b o e n hx)
 . obtain⟨o',e1⟩:=I.base.there b o e hx;exact there b o' (neC b o e hx) e1
 . exact tbls b ps (I.base.tbls b ps e)
 .
  obtain⟨m,hn,hl⟩:=I.loc;refine⟨m,ns m hn,λi x v e1 e2 e3=>?_⟩;obtain⟨u,r,l⟩:=hl i x v e1 e2 e3;refine⟨u,r,?_⟩;rcases l with l|⟨k,c,e,z⟩
  . exact .inl l
  . exact .inr ⟨k,c,e,cellK x c e _ z⟩
 . obtain⟨v,z⟩:=I.cell x c e;exact⟨v,cellK x c e v z⟩
 . obtain⟨m,⟨o,_,_,ho,_⟩,_⟩:=I.loc;exact free _ o (λz=>(hch _ z).2.1 rfl) ho I.free
 .
  obtain⟨v,o,ho,hd⟩:=I.cell x c e;rcases I.freeC x c e with hn|⟨hf,o2,hz⟩
  . exact .inl (free c o (λz=>(hch c z).2.2.1 x c e rfl) ho hn)
  . exact .inr ⟨hf,o2,frzs c _ _ hz⟩
 . obtain⟨e,n,ne,nf,d⟩:=I.pin p hp;have nch:p.1∉ch:=λz=>(hch p.1 z).2.2.2 p hp rfl;exact⟨keep p.1 p.2 ne nf nch e n,free p.1 p.2 nch e n,ne,nf,d⟩
theorem Vr.un{t':Nat}(I:Vr X ab σ H s)(u:Un X.fs [] H H' s.heap h')(hok:Vk X.prog X.w H' h'):Vr X ab σ H' {s with heap:=h',toks:=t' }:=by
 obtain⟨m,⟨o,es,ep,ho,r⟩,_⟩:=id I.loc;obtain⟨sl,hL⟩:=u.any ho I.free x_
 exact I.step (g':=s.gens) (d':=s.drawn) (ch:=[]) (λ_ z=>nomatch z) (λb o _ hb _ e n=>u.keep b o e n hb x_) (λb o _ hb _ e n=>u.slot b o e n hb x_) (λb o _ e n=>u.free b o e n x_) (λb o _ e=>u.there b o e x_) u.tups u.frzs u.tbls (λm' hm=>by
  obtain⟨o',es',ep',ho',r'⟩:=hm;rw[ho]at ho';cases ho'
  exact⟨_,es',ep',hL,r'⟩) hok I.bare
theorem Vr.call{g':Array GenState}{t':Nat}{d':Drawn}{ch:List Addr}(I:Vr X ab σ H s)(u:Un (Vo X.stack) ch H H' s.heap h')(hok:Vk X.prog X.w H' h')(hg:AllBare g')
  (hch:∀b∈ch,(b∈X.ex∨X.s₀.heap.objs.size<=b)/\b≠X.env.locals/\(∀x c,X.env.cells.lookup x=some c->c≠b)/\∀p∈X.pn++ab,p.1≠b) :
  Vr X ab σ H' {s with heap:=h',gens:=g',drawn:=d',toks:=t' }:=by
 obtain⟨m,⟨o,es,ep,ho,r⟩,_⟩:=id I.loc;obtain⟨sl,hL⟩:=u.any ho I.free λz=>(hch _ z).2.1 rfl
 exact I.step (ch:=ch) hch (λb o hL hb hc e n=>u.keep b o e n (λz=>(ZU.mp (I.stkSub b z)).elim hL hb) hc) (λb o _ _ hc e n=>u.any e n hc) (λb o hc e n=>u.free b o e n hc) (λb o hc e=>u.there b o e hc) u.tups u.frzs u.tbls (λm' hm=>by
  obtain⟨o',es',ep',ho',r'⟩:=hm;rw[ho]at ho';cases ho'
  exact⟨_,es',ep',hL,r'⟩) hok hg
theorem Vr.turned{t':Nat}{it:Addr}(I:Vr X ab σ H s)(k:∀b o,b≠it->s.heap.get? b=some o->h'.get? b=some o)(hn:H it=none)(hL:it≠X.env.locals)
  (h1:it∈X.ex∨X.s₀.heap.objs.size<=it) (h2:∀x c,X.env.cells.lookup x=some c->c≠it) (h3:∀p∈X.pn++ab,p.1≠it):Vr X ab σ H {s with heap:=h',toks:=t' }:=by
 have nit:∀b u,H b=some u->b≠it:=λb u e z=>by rw[z,hn]at e;cases e
 refine I.step (g':=s.gens) (d':=s.drawn) (ch:=[it]) (λb hb=>?_) (λb o _ _ hc e _=>k b o (λz=>hc (by simp[z])) e) (λb o _ _ hc e _=>⟨o.slots,k b o (λz=>hc (by simp[z])) e⟩) (λ_ _ _ _ n=>n)
  (λb o hc e=>⟨o,k b o (λz=>hc (by simp[z])) e⟩) (λ_ _ e=>e) (λ_ _ _ e=>e) (λ_ _ e=>e) (λm hm=>?_) (λb u e=>?_) I.bare
 .
  have e:b=it:=by simpa using hb
  subst e;exact⟨h1,hL,h2,h3⟩
 . obtain⟨o,es,ep,ho,r⟩:=hm;exact⟨o,es,ep,k _ o (abe hL) ho,r⟩
 .
  refine(I.hok b u e).stay (λc v hc q=>k c v ?_ q) (λ_ q=>q) (λ_ _ q=>q) λ_ _ _ _ q=>q;rcases hc with z|z
  . rw[z];exact nit b u e
  . exact nit c _ z
theorem Vr.tok(I:Vr X ab σ H s)(t:Nat):Vr X ab σ H {s with toks:=t}:=I.un (h':=s.heap) (t':=t) Un.refl I.hok
theorem Vr.kept{t':Nat}(I:Vr X ab σ H s)(k:∀b u,s.heap.get? b=some u->h'.get? b=some u):Vr X ab σ H {s with heap:=h',toks:=t' }:=I.un (Un.kept k) (I.hok.kept k)
theorem Vr.laid{a:Addr}{o:HO}{t':Nat}(I:Vr X ab σ H s)(k:∀b u,s.heap.get? b=some u->h'.get? b=some u)(hp:s.heap.objs.size<=a)(new:jd X.prog X.w (Vj H a o) h' a o) :
  Vr X ab σ (Vj H a o) {s with heap:=h',toks:=t' }:=I.un (Un.laid k hp (I.hok.fresh hp)) (I.hok.laid k hp new)
theorem Vr.write{x e:Addr}{o:HO}{t':Nat}(I:Vr X ab σ H s)(mu:Vl (H x))(he:e=x∨H e=some (.own x))(k:∀b u,b≠e->s.heap.get? b=some u->h'.get? b=some u)(heo:∃u,h'.get? e=some u)
  (new:jd X.prog X.w (Vj H x o) h' x o):Vr X ab σ (Vj H x o) {s with heap:=h',toks:=t' }:=I.un (Un.write mu he k heo) (I.hok.write mu he k heo new)
theorem Vr.pins_of{pins':List (Addr×Obj)}(I:Vr X ab σ H s)(h:∀p∈pins',s.heap.get? p.1=some p.2/\H p.1=none/\p.1≠X.env.locals/\p.1∉X.fs/\∀v,p.2.data≠.cell v):Vr X pins' σ H s :=
 ⟨I.ok,I.os,I.bare,I.base,I.loc,I.cell,I.free,I.freeC,λp hp=>(aap.mp hp).elim (λz=>I.pin p (aaj _ z)) (h p),I.hok,I.len⟩
theorem D9{N:List Str}(hN:N.Nodup){i j:Nat}{x:Str}(a:N[i]?=some x)(b:N[j]?=some x):i=j:=by obtain⟨h1,e1⟩:=so.mp a;obtain⟨h2,e2⟩:=so.mp b;exact(List.getElem_inj hN).mp (e1.trans e2.symm)
theorem Ax{M:Model}{A:Around}{E:Value->Shared->Prop}{i:Nat}{x:Str}{v:V}{u:Value}{Q:Unit->Shared->Prop}(I:Vr X ab σ H s)(hN:X.N.Nodup)(hi:X.N[i]?=some x)(hx:Vq X.env.scope x)(r:cO v u)
  (h:∀s',Vr X ab (σ.set i (some v)) H s'->(∃a,Heap.SameBut a s.heap s'.heap/\(a=X.env.locals∨X.env.cells.lookup x=some a))->Q () s') (hf:X.fn x=true∨X.env.scope.names.lookup x=some .local:=by first|exact .inl rfl|exact .inr rfl|assumption):wpAny M A (storeName X.env x u) Q E s:=by
 obtain⟨m,hn,hl⟩:=id I.loc;have hcls:(X.env.scope.kind == .class ||(X.env.scope.kind == .module && X.env.locals != X.env.globals))=false:=by rw[I.ok.kind];rfl
 have hiσ:i<σ.length:=by rw[I.len];exact(so.mp hi).1
 have cne:=I.cne
 have tracked:∀{a:Addr}{h':Heap},(∃o,s.heap.get? a=some o/\H a=none)->Heap.SameBut a s.heap h'->Vk X.prog X.w H h':=λ{a h'} ha hs b ob e=>by
  obtain⟨_,_,hfree⟩:=ha;refine(I.hok b ob e).stay (λc w' hc q=>(hs.2 c ?_).trans q) (λ_ q=>q) (λ_ _ q=>q) λ_ _ _ _ q=>q;rintro rfl;rcases hc with rfl|hc
  . rw[hfree]at e;cases e
  . rw[hfree]at hc;cases hc
 rcases hx with hk|hk
 .
  refine wpAny_storeName_local hk hn (λh' hn' hs=>?_) hcls;obtain⟨oL,_,_,hoL,_⟩:=id hn;refine h _ ⟨I.ok,I.os,I.bare,⟨λb o e n hb hx=>?_,λb o e n hb hx=>?_,I.base.free,λb o e hx=>?_,I.base.tups,I.base.frzs,I.base.tbls⟩,⟨_,hn',λj y v' e1 e2 e3=>?_⟩,λy c e=>?_,I.free,I.freeC,λp hp=>?_,tracked ⟨oL,hoL,I.free⟩ hs,by simpa using I.len⟩ ⟨_,hs,.inl rfl⟩
  . exact(hs.2 b (aar (k5 (ZV e) I.ok.above))).trans (I.base.keep b o e n hb hx)
  . obtain⟨sl,e1⟩:=I.base.slot b o e n hb hx;exact⟨sl,(hs.2 b (aar (k5 (ZV e) I.ok.above))).trans e1⟩
  . obtain⟨o',e1⟩:=I.base.there b o e hx;exact⟨o',(hs.2 b (aar (k5 (ZV e) I.ok.above))).trans e1⟩
  .
   by_cases hj:j=i
   . subst hj;rw[hi]at e1;cases e1;rw[aax hiσ]at e2;cases e2;exact⟨u,r,.inl ⟨hk,x_⟩⟩
   .
    rw[aay (abe hj)]at e2;obtain⟨u',r',q⟩:=hl j y v' e1 e2 e3;refine⟨u',r',?_⟩;rcases q with⟨k,e⟩|⟨k,c,e,z⟩
    . refine .inl ⟨k,?_⟩;have:y≠x:=λe=>hj (D9 hN e1 (e ▸ hi));simp[this,e]
    . exact .inr ⟨k,c,e,z.sameBut hs (cne y c e)⟩
  . obtain⟨w',z⟩:=I.cell y c e;exact⟨w',z.sameBut hs (cne y c e)⟩
  . obtain⟨e,n,ne,nf,d⟩:=I.pin p hp;exact⟨(hs.2 p.1 ne).trans e,n,ne,nf,d⟩
 .
  have hfn:X.fn x=true:=by
   rcases hf with z|z
   . exact z
   . rw[z]at hk;cases hk
  obtain⟨c,hc⟩:=I.ok.has x (.inl hk);obtain⟨w',z⟩:=I.cell x c hc;refine wpAny_storeName_cell I.ok.kind hk hc z (λh' hc' hs=>?_);obtain⟨oc,hoc,hocd⟩:=id z;refine h {s with heap:=h' } ⟨I.ok,I.os,I.bare,⟨λb o e n hb hx=>?_,λb o e n hb hx=>?_,I.base.free,λb o e hx=>?_,I.base.tups,I.base.frzs,I.base.tbls⟩,⟨m,hn.sameBut hs (abe (cne x c hc)),λj y v' e1 e2 e3=>?_⟩,λy c' e=>?_,I.free,I.freeC,λp hp=>?_,tracked ⟨oc,hoc,(I.freeC x c hc).resolve_right λz=>by rw[hfn]at z;exact absurd z.1 xp⟩ hs,by simpa using I.len⟩ ⟨c,hs,.inr hc⟩
  . exact(hs.2 b (aar (k5 (ZV e) (I.ok.cab x c hfn hc)))).trans (I.base.keep b o e n hb hx)
  . obtain⟨sl,e1⟩:=I.base.slot b o e n hb hx;exact⟨sl,(hs.2 b (aar (k5 (ZV e) (I.ok.cab x c hfn hc)))).trans e1⟩
  . obtain⟨o',e1⟩:=I.base.there b o e hx;exact⟨o',(hs.2 b (aar (k5 (ZV e) (I.ok.cab x c hfn hc)))).trans e1⟩
  .
   by_cases hj:j=i
   . subst hj;rw[hi]at e1;cases e1;rw[aax hiσ]at e2;cases e2;exact⟨u,r,.inr ⟨.inl hk,c,hc,hc'⟩⟩
   .
    rw[aay (abe hj)]at e2;obtain⟨u',r',q⟩:=hl j y v' e1 e2 e3;refine⟨u',r',?_⟩;rcases q with q|⟨k,c',e,z'⟩
    . exact .inl q
    . refine .inr ⟨k,c',e,z'.sameBut hs ?_⟩;rintro rfl;exact hj (D9 hN e1 (I.ok.inj _ _ _ e hc ▸ hi))
  .
   by_cases hcc:c'=c
   . subst hcc;exact⟨_,hc'⟩
   . obtain⟨w2,z2⟩:=I.cell y c' e;exact⟨w2,z2.sameBut hs hcc⟩
  . obtain⟨e,n,ne,nf,d⟩:=I.pin p hp;refine⟨(hs.2 p.1 ?_).trans e,n,ne,nf,d⟩;intro q;rw[q,hoc]at e;have q':oc=p.2:=aaf e;exact d w' (by rw[<- q'];exact hocd)
theorem ug{M:Model}{A:Around}{E:Value->Shared->Prop}{i:Nat}{x:Str}{v:V}{u:Value}{Q:Unit->Shared->Prop}(I:Vr X ab σ H s)(hN:X.N.Nodup)(hi:X.N[i]?=some x)(hx:Vq X.env.scope x)(r:cO v u)
  (h:∀s',Vr X ab (σ.set i (some v)) H s'->Q () s') (hf:X.fn x=true∨X.env.scope.names.lookup x=some .local:=by first|exact .inl rfl|exact .inr rfl|assumption):wpAny M A (storeName X.env x u) Q E s :=
 Ax I hN hi hx r (λs' I' _=>h s' I') hf
theorem Vr.call'{s':Shared}{ch:List Addr}(I:Vr X ab σ H s)(ho:s'.os=s.os)(u:Un (Vo X.stack) ch H H' s.heap s'.heap)(hok:Vk X.prog X.w H' s'.heap)(hg:AllBare s'.gens)
  (hch:∀b∈ch,(b∈X.ex∨X.s₀.heap.objs.size<=b)/\b≠X.env.locals/\(∀x c,X.env.cells.lookup x=some c->c≠b)/\∀p∈X.pn++ab,p.1≠b):Vr X ab σ H' s':=by
 obtain⟨h',g',d',t',o'⟩:=s';have e:o'=s.os:=ho;subst e;exact I.call (g':=g') (t':=t') (d':=d') u hok hg hch
end
noncomputable abbrev XK:=Value->Option Addr->Hp->Prop
noncomputable abbrev St:=List (Option V)
noncomputable abbrev VK:=V->Hp->Prop
abbrev TE:=St->Hp->VK->Prop
noncomputable abbrev TT:=St->Hp->(Bool->Hp->Prop)->Prop
noncomputable abbrev TA:=St->Hp->(List V->Hp->Prop)->Prop
structure Qa where
 nx:St->Hp->Prop
 rt:VK
 bk:St->Hp->Prop:=λ_ _=>False
 ct:St->Hp->Prop:=λ_ _=>False
abbrev TS:=Qa->St->Hp->Prop
inductive EP (X:Cx) (ab:List (Addr×Obj)) (σ:St) (Q:VK) (u:Value) (s':Shared):Prop
 |mk (v:V) (H':Hp) (i:Vr X ab σ H' s') (r:cO v u) (q:Q v H')
theorem EP.on{G:Prop}{X:Cx}{ab:List (Addr×Obj)}{σ:St}{Q:VK}{u:Value}{s':Shared}(h:EP X ab σ Q u s')(k:∀v H',Vr X ab σ H' s'->cO v u->Q v H'->G):G:=by cases h with|mk v H' i r q=>exact k v H' i r q
inductive TP (X:Cx) (ab:List (Addr×Obj)) (σ:St) (Q:Bool->Hp->Prop) (b:Bool) (s':Shared):Prop
 |mk (H':Hp) (i:Vr X ab σ H' s') (q:Q b H')
inductive AP (X:Cx) (ab:List (Addr×Obj)) (σ:St) (Q:List V->Hp->Prop) (us:List Value) (s':Shared):Prop
 |mk (vs:List V) (H':Hp) (i:Vr X ab σ H' s') (r:dA vs us) (q:Q vs H')
inductive Vs (X:Cx) (ab:List (Addr×Obj)) (D:St->Hp->Prop) (s':Shared):Prop
 |mk (σ':St) (H':Hp) (i:Vr X ab σ' H' s') (q:D σ' H')
inductive Vt (X:Cx) (ab:List (Addr×Obj)) (D:VK) (u:Value) (s':Shared):Prop
 |mk (v:V) (σ':St) (H':Hp) (i:Vr X ab σ' H' s') (r:cO v u) (q:D v H')
def SP(X:Cx)(ab:List (Addr×Obj))(D:Qa)(f:Flow)(s':Shared):Prop :=
 match f with
 |.next=>Vs X ab D.nx s'
 |.brk=>Vs X ab D.bk s'
 |.cont=>Vs X ab D.ct s'
 |.ret u=>Vt X ab D.rt u s'
def PE(X:Cx)(e:Expr)(t:TE):Prop :=
 ∀(ab:List (Addr×Obj))(s:Shared)(σ:St)(H:Hp)(Q:VK),Vr X ab σ H s->t σ H Q->wpAny (model X.prog X.w) X.A (eval e X.env) (EP X ab σ Q) X.xe s
def PT(X:Cx)(e:Expr)(t:TT):Prop :=
 ∀(ab:List (Addr×Obj))(s:Shared)(σ:St)(H:Hp)(Q:Bool->Hp->Prop),Vr X ab σ H s->t σ H Q->wpAny (model X.prog X.w) X.A (isTrue e X.env (eval e X.env)) (TP X ab σ Q) X.xe s
def PA(X:Cx)(es:List Expr)(t:TA):Prop :=
 ∀(pos:Pos)(ab:List (Addr×Obj))(s:Shared)(σ:St)(H:Hp)(Q:List V->Hp->Prop),Vr X ab σ H s->t σ H Q->wpAny (model X.prog X.w) X.A (spliced (backTo pos (starEach es X.env))) (AP X ab σ Q) X.xe s
def PS(X:Cx)(st:Stmt)(t:TS):Prop :=
 ∀(ab:List (Addr×Obj))(s:Shared)(σ:St)(H:Hp)(D:Qa),Vr X ab σ H s->t D σ H->wpAny (model X.prog X.w) X.A (exec st X.env) (SP X ab D) X.xe s
def Vu(X:Cx)(st:List Stmt)(t:TS):Prop :=
 ∀(ab:List (Addr×Obj))(s:Shared)(σ:St)(H:Hp)(D:Qa),Vr X ab σ H s->t D σ H->wpAny (model X.prog X.w) X.A (execs st X.env) (SP X ab D) X.xe s
theorem Vv{α:Type}{t:Sem α}{Q Q':α->Shared->Prop}{M:Model}{A:Around}{E:Value->Shared->Prop}{s:Shared}(h:wpAny M A t Q E s)(hQ:∀a s,Q a s->Q' a s):wpAny M A t Q' E s:=abn h hQ λ_ _ x=>x
section
variable{X:Cx}
theorem Vw{a b:Expr}{ta tb:TE}(ha:PE X a ta)(hb:PE X b tb){ab:List (Addr×Obj)}{s:Shared}{σ:St}{H:Hp}{R:V->V->Hp->Prop}(I:Vr X ab σ H s)(h:ta σ H λx H1=>tb σ H1 λy H2=>R x y H2)
  {α:Type} {Q:α->Shared->Prop} {f:Value->Value->Sem α}
  (hf:∀v u s2 x y H2,Vr X ab σ H2 s2->cO x v->cO y u->R x y H2->wpAny (model X.prog X.w) X.A (f v u) Q X.xe s2) :
  wpAny (model X.prog X.w) X.A (eval a X.env) (λv s₁=>wpAny (model X.prog X.w) X.A (eval b X.env) (λu s₂=>wpAny (model X.prog X.w) X.A (f v u) Q X.xe s₂) X.xe s₁) X.xe s:=by
 refine Vv (ha ab s σ H _ I h) λv s1 ⟨x,H1,I1,r1,q1⟩=>?_;refine Vv (hb ab s1 σ H1 _ I1 q1) λu s2 ⟨y,H2,I2,r2,q2⟩=>?_;exact hf v u s2 x y H2 I2 r1 r2 q2
def UI(i:Nat):TE:=λσ H Q=>∃v,σ[i]?=some (some v)/\Q v H
def tC(v:V):TE:=λ_ H Q=>Q v H
theorem ly{i:Nat}{x:Str}{pos:Pos}(hN:X.N[i]?=some x)(hv:Vp X.env.scope x) (hd:aet x:=by decide) (hcd:aeu x:=by decide):PE X (.Name x pos) (UI i):=by
 intro ab s σ H Q I h;obtain⟨v,e,h⟩:=h;obtain⟨m,hn,hl⟩:=I.loc;obtain⟨u,r,l⟩:=hl i x v hN e hv;have Vx:EP X ab σ Q u s:=⟨v,H,I,r,h⟩;rcases l with⟨hk,hm⟩|⟨hk,c,hc,hcell⟩
 . exact wpAny_Name (wpAny_loadName_local I.ok.kind hk hn hm Vx) hd
 .
  rcases hk with hk|hk
  . exact wpAny_Name (wpAny_loadName_cell I.ok.kind hk hc hcell Vx) hd
  . exact wpAny_Name (wpAny_loadName_free I.ok.kind hk hc hcell Vx hcd) hd
theorem Qn {i j pos}:PE X (.Constant (.int i) j pos) (tC (.int i)):=λ_ _ _ H _ I h=>wpAny_Constant_int ⟨.int i,H,I.tok _,⟨_,rfl⟩,h⟩
theorem Sq {b j pos}:PE X (.Constant (.bool b) j pos) (tC (.bl b)):=λ_ _ _ H _ I h=>Constant_bool ⟨.bl b,H,I,rfl,h⟩
theorem Qo {j pos}:PE X (.Constant .none j pos) (tC .non):=λ_ _ _ H _ I h=>Constant_none ⟨.non,H,I,rfl,h⟩
theorem Qp {x j pos}:PE X (.Constant (.str x) j pos) (tC (.str x)):=λ_ _ _ H _ I h=>Calls.Constant_str ⟨.str x,H,I.tok _,⟨_,rfl⟩,h⟩
def Gl(X:Cx)(x:Str):Prop:=X.env.kindOf x=some .globalImplicit
theorem Cv{E:Value->Shared->Prop}{ab:List (Addr×Obj)}{s:Shared}{σ:St}{H:Hp}{x:Str}{u:Value}{pos:Pos}{Q:Value->Shared->Prop}(I:Vr X ab σ H s)(hg:Gl X x)(hm:X.mg x=some u)(h:Q u s)
  (hd:aet x:=by decide):wpAny (model X.prog X.w) X.A (eval (.Name x pos) X.env) Q E s :=
 Calls.Name_function_global I.ok.kind hg (Calls.loadGlobal_global (by rw[I.ok.glob];exact I.mod.glob.keeps I.bk) hm h) hd
theorem p9{E:Value->Shared->Prop}{ab:List (Addr×Obj)}{s:Shared}{σ:St}{H:Hp}{x:Str}{u:Value}{pos:Pos}{Q:Value->Shared->Prop}(I:Vr X ab σ H s)(hg:Gl X x)(hm:X.mg x=none)(hv:bootBuiltins x=some u)(h:Q u s)
  (hn:x≠"__name__":=by decide) (hd:aet x:=by decide):wpAny (model X.prog X.w) X.A (eval (.Name x pos) X.env) Q E s:=by
 obtain⟨mb,h1,h2⟩:=I.mod.blt;exact Calls.Name_function_global I.ok.kind hg (Calls.loadGlobal_builtin (by rw[I.ok.glob];exact I.mod.glob.keeps I.bk) hm (by rw[I.ok.blt];exact h1.keeps I.bk) ((h2 x hn).trans hv) h) hd
theorem NJ{x:Str}{v:V}{u:Value}{pos:Pos}(hg:Gl X x)(hm:X.mg x=some u)(r:cO v u) (hd:aet x:=by decide):PE X (.Name x pos) (tC v) :=
 λ_ _ _ H _ I h=>Cv I hg hm ⟨v,H,I,r,h⟩ hd
theorem NK{x:Str}{v:V}{u:Value}{pos:Pos}(hg:Gl X x)(hm:X.mg x=none)(hv:bootBuiltins x=some u)(r:cO v u) (hn:x≠"__name__":=by decide) (hd:aet x:=by decide):PE X (.Name x pos) (tC v) :=
 λ_ _ _ H _ I h=>p9 I hg hm hv ⟨v,H,I,r,h⟩ hn hd
variable{a b:Expr}{ta tb:TE}{pos:Pos}
noncomputable def tB(t:TE):TT:=λσ H Q=>t σ H λx H1=>∃c,x=.bl c/\Q c H1
end
def Vy(K:W.Frag)(H:Hp)(a:Addr)(xs:List V):Prop :=
 Rd H a (.lst xs) ∨
  ∃(o:Obj)(its:Array Value)(n:Nat),K.lookup a=some o/\o.cls=.type "list"/\o.dict=none/\o.data=.seq its n/\its.size<=sizeLine/\dA xs its.toList
def Vz(K:W.Frag)(H:Hp)(a:Addr)(xs:List V):Prop :=
 Rd H a (.tup xs) ∨
  ∃(o:Obj)(its:Array Value)(n:Nat),K.lookup a=some o/\o.cls=.type "tuple"/\o.data=.seq its n/\its.size<=sizeLine/\dA xs its.toList
noncomputable def UJ:Value->Option V
 |.none=>some .non
 |.bool b=>some (.bl b)
 |.int i _=>some (.int i)
 |.str x _=>some (.str x)
 |.bytes b _=>some (.byt b)
 |.float b _=>some (.flt b)
 |.ref a=>some (.ref a)
 |.type n=>some (.ty n)
 |_=>none
theorem cO.abs{x:V}{u:Value}(r:cO x u):UJ u=some x:=by
 cases x with
 |non=>cases r;rfl
 |bl _=>cases r;rfl
 |int _=>obtain⟨t,rfl⟩:=r;rfl
 |str _=>obtain⟨t,rfl⟩:=r;rfl
 |byt _=>obtain⟨t,rfl⟩:=r;rfl
 |flt _=>obtain⟨t,rfl⟩:=r;rfl
 |ref _=>cases r;rfl
 |ty _=>cases r;rfl
theorem cO.inj{x y:V}{u:Value}(r:cO x u)(q:cO y u):x=y:=aaf (r.abs.symm.trans q.abs)
theorem dA.inj:∀{xs ys:List V}{us:List Value},dA xs us->dA ys us->xs=ys
 |_,_,_,.nil,.nil=>rfl
 |_,_,_,.cons r t,.cons r' t'=>by rw[r.inj r',dA.inj t t']
section
variable{X:Cx}{ab:List (Addr×Obj)}{σ:St}{H:Hp}{s:Shared}{a:Addr}{xs ys:List V}
theorem Vy.of{K:W.Frag}(h:H a=some (.lst xs)):Vy K H a xs:=.inl (.inl h)
theorem Vz.of{K:W.Frag}(h:H a=some (.tup xs)):Vz K H a xs:=.inl (.inl h)
theorem Vr.list(I:Vr X ab σ H s)(h:Vy X.K H a xs):∃its:List Value,dA xs its/\PlainL s.heap a its.toArray/\xs.length<=sizeLine:=by
 rcases h with h|⟨o,its,n,hk,hc,hd,hs,hz,r⟩
 . obtain⟨z,its,n,r,e⟩:=h.ok I.hok;exact⟨its,r,⟨_,n,e,rfl,rfl,rfl⟩,z⟩
 . refine⟨its.toList,r,⟨o,n,I.kIn a o hk,hc,hd,by simpa using hs⟩,?_⟩;have e:=r.length;simp only[Array.length_toList]at e;omega
theorem Vr.tuple(I:Vr X ab σ H s)(h:Vz X.K H a xs):∃its:List Value,dA xs its/\IsTup s.heap a its.toArray/\xs.length<=sizeLine:=by
 rcases h with h|⟨o,its,n,hk,hc,hs,hz,r⟩
 . obtain⟨z,its,r,p⟩:=h.ok I.hok;exact⟨its,r,p,z⟩
 . refine⟨its.toList,r,⟨o,I.kIn a o hk,hc,n,by simpa using hs⟩,?_⟩;have e:=r.length;simp only[Array.length_toList]at e;omega
theorem Vr.list_inj(I:Vr X ab σ H s)(h:Vy X.K H a xs)(h':Vy X.K H a ys):xs=ys:=by
 obtain⟨its,r,⟨o,n,e,_,_,d⟩,_⟩:=I.list h;obtain⟨its',r',⟨o',n',e',_,_,d'⟩,_⟩:=I.list h';rw[e]at e';cases e';rw[d]at d';injection d' with d1 _;have:its=its':=by simpa using congrArg Array.toList d1
 subst this;exact r.inj r'
theorem Vr.tuple_inj(I:Vr X ab σ H s)(h:Vz X.K H a xs)(h':Vz X.K H a ys):xs=ys:=by
 obtain⟨its,r,⟨o,e,_,n,d⟩,_⟩:=I.tuple h;obtain⟨its',r',⟨o',e',_,n',d'⟩,_⟩:=I.tuple h';rw[e]at e';cases e';rw[d]at d';injection d' with d1 _;have:its=its':=by simpa using congrArg Array.toList d1
 subst this;exact r.inj r'
end
noncomputable abbrev Cx.wish(X:Cx)(E:Value->Shared->Prop):Cx:={X with xe:=E}
noncomputable abbrev Cx.nox(X:Cx):Cx:=X.wish λ_ _=>False
theorem Cx.Ok.wish{X:Cx}(ok:X.Ok)(E:Value->Shared->Prop):(X.wish E).Ok :=
 ⟨ok.mod,ok.kind,ok.glob,ok.blt,ok.above,ok.inj,ok.has,ok.cab,ok.hd,ok.frames,ok.stk,ok.exf,ok.bs,ok.bsz,ok.noex,ok.exfs,ok.funs,ok.frf,ok.tbs⟩
theorem Cx.Ok.unwish{X:Cx}{E:Value->Shared->Prop}(ok:(X.wish E).Ok):X.Ok :=
 ⟨ok.mod,ok.kind,ok.glob,ok.blt,ok.above,ok.inj,ok.has,ok.cab,ok.hd,ok.frames,ok.stk,ok.exf,ok.bs,ok.bsz,ok.noex,ok.exfs,ok.funs,ok.frf,ok.tbs⟩
section
variable{X:Cx}{ab:List (Addr×Obj)}{σ:St}{H:Hp}{s:Shared}{E:Value->Shared->Prop}
theorem Vr.wish(I:Vr X ab σ H s)(E:Value->Shared->Prop):Vr (X.wish E) ab σ H s:=⟨I.ok.wish E,I.os,I.bare,I.base,I.loc,I.cell,I.free,I.freeC,I.pin,I.hok,I.len⟩
theorem Vr.unwish(I:Vr (X.wish E) ab σ H s):Vr X ab σ H s:=⟨I.ok.unwish,I.os,I.bare,I.base,I.loc,I.cell,I.free,I.freeC,I.pin,I.hok,I.len⟩
theorem SP.unwish{D:Qa}{f:Flow}{s':Shared}(h:SP (X.wish E) ab D f s'):SP X ab D f s':=by
 cases f with
 |next=>obtain⟨σ',H',I,q⟩:=h;exact⟨σ',H',I.unwish,q⟩
 |brk=>obtain⟨σ',H',I,q⟩:=h;exact⟨σ',H',I.unwish,q⟩
 |cont=>obtain⟨σ',H',I,q⟩:=h;exact⟨σ',H',I.unwish,q⟩
 |ret u=>obtain⟨v,σ',H',I,r,q⟩:=h;exact⟨v,σ',H',I.unwish,r,q⟩
theorem Vu.nox{st:List Stmt}{t:TS}(h:Vu X.nox st t):Vu X st t:=λab s σ H D I hw =>
 abn (h ab s σ H D (I.wish _) hw) (λ_ _ q=>q.unwish) λ_ _ z=>False.elim z
end
section
variable{X:Cx}
theorem Vr.quiet{ab:List (Addr×Obj)}{σ:St}{H:Hp}{s:Shared}(I:Vr X ab σ H s):interactive X.env=false:=by simp[interactive,I.ok.kind]
end
noncomputable abbrev TG:=V->St->Hp->(St->Hp->Prop)->Prop
noncomputable abbrev VA:=List V->St->Hp->(St->Hp->Prop)->Prop
def PG(X:Cx)(target:Expr)(t:TG):Prop :=
 ∀(ab:List (Addr×Obj))(s:Shared)(σ:St)(H:Hp)(v:V)(u:Value)(Q:St->Hp->Prop),Vr X ab σ H s->cO v u->t v σ H Q ->
  wpAny (model X.prog X.w) X.A (assign target X.env u) (λ_ s'=>∃σ' H',Vr X ab σ' H' s'/\Q σ' H') X.xe s
def VB(X:Cx)(ts:List Expr)(t:VA):Prop :=
 ∀(ab:List (Addr×Obj))(s:Shared)(σ:St)(H:Hp)(vs:List V)(us:List Value)(Q:St->Hp->Prop),Vr X ab σ H s->dA vs us->t vs σ H Q ->
  wpAny (model X.prog X.w) X.A (assignInOrder ((assignEach ts X.env).map (·.2)) us) (λ_ s'=>∃σ' H',Vr X ab σ' H' s'/\Q σ' H') X.xe s
noncomputable abbrev Sr:=V->V->V->Hp->(Hp->Prop)->Prop
def Uh(X:Cx)(t:Sr):Prop :=
 ∀(ab:List (Addr×Obj))(s:Shared)(σ:St)(H:Hp)(o i v:V)(ov iv u:Value)(Q:Hp->Prop),Vr X ab σ H s->cO o ov->cO i iv->cO v u->t o i v H Q ->
  wpAny (model X.prog X.w) X.A (setItem ov iv u) (λ_ s'=>∃H',Vr X ab σ H' s'/\Q H') X.xe s
section
variable{X:Cx}{pos:Pos}
noncomputable def Ss(i:Nat):TG:=λv σ H Q=>Q (σ.set i (some v)) H
theorem yH{i:Nat}{x:Str}(hN:X.N.Nodup)(hi:X.N[i]?=some x)(hx:Vq X.env.scope x)(hf:X.fn x=true∨X.env.scope.names.lookup x=some .local:=by first|exact .inl rfl|exact .inr rfl|assumption):PG X (.Name x pos) (Ss i):=by intro ab s σ H v u Q I r h;exact wpAny_assign_Name (ug I hN hi hx r (λs' I'=>⟨_,H,I',h⟩) hf)
noncomputable def UK:VA:=λvs σ H Q=>vs=[]/\Q σ H
noncomputable def Su(t:TG)(u:VA):VA:=λvs σ H Q=>∃v r,vs=v::r/\t v σ H λσ' H'=>u r σ' H' Q
theorem GZ:VB X [] UK:=by intro ab s σ H vs us Q I r h;obtain⟨e,h⟩:=h;subst e;cases r;exact assignInOrder_nil ⟨σ,H,I,h⟩
theorem Ea{e:Expr}{es:List Expr}{t:TG}{u:VA}(h1:PG X e t)(h2:VB X es u)
  (hs:(assignEach (e::es) X.env).map (·.2)=assign e X.env::(assignEach es X.env).map (·.2):=by rfl):VB X (e::es) (Su t u):=by
 intro ab s σ H vs us Q I r h;obtain⟨v,vr,e1,h⟩:=h;subst e1
 cases r with
 | cons r rr =>
  rw[hs];refine assignInOrder_cons (Vv (h1 ab s σ H _ _ _ I r h) λ_ s1 ⟨σ1,H1,I1,q1⟩=>?_);exact h2 ab s1 σ1 H1 _ _ Q I1 rr q1
noncomputable def UL(K:W.Frag)(n:Nat)(t:VA):TG:=λv σ H Q=>∃a xs,v=.ref a/\Vz K H a xs/\xs.length=n/\t xs σ H Q
theorem MT{es:List Expr}{k:Nat}{t:VA}{n:Nat}(hc:X.calm=true)(h:VB X es t)
  (hn:(assignEach es X.env).length=n:=by rfl) (hst:(assignEach es X.env).findIdx? (·.1)=none:=by rfl):PG X (.Tuple es k pos) (UL X.K n t):=by
 intro ab s σ H v u Q I r hw;obtain⟨a,xs,e1,hq,hl,hw⟩:=hw;subst e1;cases r;obtain⟨its,rv,ht,hz⟩:=I.tuple hq;refine assign_Tuple_tuple (I.ok.hd hc) ht (by simp[hn,<- hl,rv.length]) hst λh' hx=>?_;have I1:Vr X ab σ H {s with heap:=h' }:=I.kept (t':=s.toks) λb o e=>hx b o (aar (ZV e)) e;exact h ab _ σ H xs _ Q I1 (by simpa using rv) hw
noncomputable def UM(to ti:TE)(t:Sr):TG:=λv σ H Q=>to σ H λo H1=>ti σ H1 λi H2=>t o i v H2 λH3=>Q σ H3
theorem Qq{o i:Expr}{to ti:TE}{t:Sr}(ho:PE X o to)(hi:PE X i ti)(hs:Uh X t)
  (ha:∀v,assign (.Subscript o i pos) X.env v=(do
   let ov <- holding [v] (eval o X.env)
   let iv <- holding [v,ov] (eval i X.env)
   standAt pos
   holding [v,ov,iv] (setItem ov iv v)
   release [v,ov,iv] []):=by intro _;rfl):PG X (.Subscript o i pos) (UM to ti t):=by
 intro ab s σ H v u Q I r h;rw[ha];refine ZQ (abr (Vv (ho ab s σ H _ I h) λov s1 ⟨x,H1,I1,r1,q1⟩=>?_));refine ZQ (abr (Vv (hi ab s1 σ H1 _ I1 q1) λiv s2 ⟨y,H2,I2,r2,q2⟩=>?_));refine ZQ (wpAny_standAt (ZQ (abr (Vv (hs ab s2 σ H2 x y v ov iv u _ I2 r1 r2 r q2) λ_ s3 ⟨H3,I3,q3⟩=>?_))));exact wpAny_release ⟨σ,H3,I3,q3⟩
def UN(te:TE)(g:TG):TS:=λD σ H=>te σ H λx H1=>g x σ H1 D.nx
theorem Qr{tg e:Expr}{te:TE}{g:TG}(he:PE X e te)(hg:PG X tg g)(hs:swapsWithSole [tg] e pos.line X.env=pure false:=by rfl)(hw:swappedStores [tg] e X.env=pure none:=by rfl)
  (h1:(assignEach [tg] X.env).map (·.2)=[assign tg X.env]:=by rfl):PS X (.Assign [tg] e pos) (UN te g):=by
 intro ab s σ H D I h;refine wpAny_Assign_stores (Vv (he ab s σ H _ I h) λv s1 ⟨x,H1,I1,r1,q1⟩=>?_) hs hw;rw[h1];exact Vv (hg ab s1 σ H1 x v _ I1 r1 q1) λ_ s2 ⟨_,_,a,b⟩=>⟨_,_,a,b⟩
def UO(i j:Nat)(ta:TA):TS:=λD σ H=>ta σ H λvs H1=>∃v w,vs=[v,w]/\D.nx ((σ.set i (some v)).set j (some w)) H1
theorem Qs{i j:Nat}{x y:Str}{a b:Expr}{ta:TA}{px py pt:Pos} {kt k2 pt2} (hc:X.calm=true) (hN:X.N.Nodup) (hi:X.N[i]?=some x) (hj:X.N[j]?=some y) (hij:i≠j)
  (hx:X.env.scope.names.lookup x=some .local) (hy:X.env.scope.names.lookup y=some .local) (ha:PA X [a,b] ta)
  (hw:swappedStores [.Tuple [.Name x px,.Name y py] kt pt] (.Tuple [a,b] k2 pt2) X.env=pure (some [x,y]))
  (hs:swapsWithSole [.Tuple [.Name x px,.Name y py] kt pt] (.Tuple [a,b] k2 pt2) pos.line X.env=pure false:=by rfl) :
  PS X (.Assign [.Tuple [.Name x px,.Name y py] kt pt] (.Tuple [a,b] k2 pt2) pos) (UO i j ta):=by
 intro ab s σ H D I h;rw[exec_Assign_arm];refine ZQ (wpAny_standAt ?_);rw[hs];refine ZQ (aai ?_);rw[if_neg (by decide)];refine ZQ (Tuple_ (Vv (ha _ ab s σ H _ I h) λus s1 ⟨vs,H1,I1,r1,q1⟩=>?_));obtain⟨v,w,e1,q1⟩:=q1;subst e1
 obtain⟨u1,u2,rfl,rv,rw'⟩:∃u1 u2,us=[u1,u2]/\cO v u1/\cO w u2:=by
  cases r1 with
  | cons p q =>
   cases q with
   | cons p' q' =>
    cases q';exact⟨_,_,rfl,p,p'⟩
 refine abM ?_ (by show 2<=sizeLine;decide);have I2:Vr X ab σ H1 {s1 with heap:=s1.heap.push {cls:=.type "tuple",data:=.seq [u1,u2].toArray} }:=I1.kept (t':=s1.toks) λb o e=>ZO _ e;rw[hw];refine ZQ (aai ?_)
 show wpAny (model X.prog X.w) X.A (do rule "assign.swapped-stores"; let items <- unpackItems (.ref s1.heap.objs.size) 2 none; assignInOrder [λv=>bindName X.env y v,λv=>bindName X.env x v] items.reverse; pure Flow.next) _ _ _
 refine ZQ (wpAny_rule (ZQ (unpackItems_tuple (items:=#[u1,u2]) (I.ok.hd hc) (IsTup.new s1.heap _) λh' hx'=>?_)));have I3:=I2.kept (h':=h') (t':=s1.toks) λb o e=>hx' b o (aar (ZV e)) e
 show wpAny _ _ (assignInOrder [λv=>bindName X.env y v,λv=>bindName X.env x v] [u2,u1] >>= λ_=>pure Flow.next) _ _ _
 refine ZQ (assignInOrder_cons (wpAny_bindName (ug I3 hN hj (.inl hy) rw' (λs2 I4=>?_) (.inr hy))));refine assignInOrder_cons (wpAny_bindName (ug I4 hN hi (.inl hx) rv (λs3 I5=>assignInOrder_nil (aai ?_)) (.inr hx)));rw[List.set_comm _ _ (abe hij)]at I5;exact⟨_,H1,I5,q1⟩
end
section
variable{X:Cx}{pos:Pos}
def Qt(c:TT)(tb:TS):TS:=λD σ H=>∃W:Nat->St->Hp->Prop,(∃m,W m σ H)/\∀m σ H,W m σ H ->
 c σ H λb H1=>if b=true then ∃N:St->Hp->Prop,(∀σ' H',N σ' H'->∃m',m' < m/\W m' σ' H')/\tb {D with nx:=N,ct:=N,bk:=D.nx} σ H1 else D.nx σ H1
theorem KA{c:Expr}{body:List Stmt}{tc:TT}{tb:TS}(hp:PassesOwn (model X.prog X.w) X.A X.env X.xe)(hc:PT X c tc)(hb:Vu X body tb):PS X (.While c body [] pos) (Qt tc tb):=by
 intro ab s σ H D I h;obtain⟨W,⟨m0,w0⟩,turn⟩:=h;refine wpAny_While (codeAny_whileLoop (λn s'=>∃σ' H',Vr X ab σ' H' s'/\W n σ' H') ?_ m0 ⟨σ,H,I,w0⟩);rintro n s1 ⟨σ1,H1,I1,w1⟩;refine abI hp (Vv (hc ab s1 σ1 H1 _ I1 (turn n σ1 H1 w1)) λb s2 ⟨H2,I2,q2⟩=>?_)
 cases b with
 | true =>
  obtain⟨N,hN,q2⟩:=q2;rw[if_pos rfl];refine abI hp (Vv (hb ab s2 σ1 H2 _ I2 q2) λf s3 q3=>?_)
  cases f with
  | next =>
   obtain⟨σ3,H3,I3,n3⟩:=q3;obtain⟨m',hm,w3⟩:=hN σ3 H3 n3;exact⟨m',hm,σ3,H3,I3,w3⟩
  | cont =>
   obtain⟨σ3,H3,I3,n3⟩:=q3;obtain⟨m',hm,w3⟩:=hN σ3 H3 n3;exact⟨m',hm,σ3,H3,I3,w3⟩
  |brk=>exact q3
  |ret v=>exact q3
 | false =>
  rw[if_neg aaF];exact wpAny_execs_nil ⟨σ1,H2,I2,q2⟩
end
structure It where
 go:Nat->Hp->Prop
 yld:Nat->Hp->V->Hp->Prop
 stop:Nat->Hp->Prop
def G0(X:Cx)(ab:List (Addr×Obj))(H:Hp)(b:Addr):Prop :=
 H b=none/\b≠X.env.locals/\b∉X.fs/\(b∈X.ex∨X.s₀.heap.objs.size<=b)/\(∀x c,X.env.cells.lookup x=some c->c≠b)/\∀p∈X.pn++ab,p.1≠b
theorem Vr.fpOk{X:Cx}{ab:List (Addr×Obj)}{σ:St}{H H':Hp}{s:Shared}{b:Addr}(I:Vr X ab σ H s)(hb:s.heap.objs.size<=b)(hn:H' b=none):G0 X ab H' b:=by
 refine⟨hn,Nat.ne_of_gt (k5 I.lt hb),I.nofs hb,.inr (ZR I.sz hb),λx c e z=>?_,λp hp z=>?_⟩
 . obtain⟨v,q⟩:=I.cell x c e;exact absurd (k5 q.lt (by rw[z];exact hb)) (abf _)
 . exact absurd (k5 (ZV (I.pin p hp).1) (by rw[z];exact hb)) (abf _)
structure NL (P:Program) (w:World) (K:W.Frag) (tg:Expr) (J:It) (fp:List Addr) (it:Addr) (tn:Nat->Heap->Prop):Prop where
 mem:it∈fp
 obj:∀i h,tn i h->∀b∈fp,∃o,h.get? b=some o/\∀v,o.data≠.cell v
 keep:∀i h h',tn i h->(∀b∈fp,∀o,h.get? b=some o->h'.get? b=some o)->tn i h'
 item:∀(X:Cx),X.prog=P->X.w=w->X.K=K->X.calm=true->∀(i:Nat)(ab:List (Addr×Obj))(s:Shared)(σ:St)(H:Hp)(E:Value->Shared->Prop),Vr X ab σ H s->(∀b∈fp,G0 X ab H b)->tn i s.heap->J.go i H ->
  wpAny (model P w) X.A (pyNext (.ref it)) (λr s1=>∃u,r=some u /\
   wpAny (model P w) X.A (letOwnedTupleGo tg (.ref it) u) (λ_ s2=>∃x H',Vr X ab σ H' s2/\cO x u/\J.yld i H x H'/\tn (i+1) s2.heap/\∀b∈fp,H' b=none) E s1) E s
 done:∀(X:Cx),X.prog=P->X.w=w->X.K=K->X.calm=true->∀(i:Nat)(ab:List (Addr×Obj))(s:Shared)(σ:St)(H:Hp)(E:Value->Shared->Prop),Vr X ab σ H s->(∀b∈fp,G0 X ab H b)->tn i s.heap->J.stop i H ->
  wpAny (model P w) X.A (pyNext (.ref it)) (λr s1=>r=none/\Vr X ab σ H s1) E s
 self:∀(A:Around)(i:Nat)(s:Shared)(Q:Value->Shared->Prop)(E:Value->Shared->Prop),tn i s.heap->Q (.ref it) s->wpAny (model P w) A (pyIter (.ref it)) Q E s
noncomputable abbrev TI:=St->Hp->(It->Hp->Prop)->Prop
inductive VC (X:Cx) (ab:List (Addr×Obj)) (σ:St) (tg:Expr) (R:It->Hp->Prop) (itv:Value) (s2:Shared):Prop
 |mk (it:Addr) (fp:List Addr) (tn:Nat->Heap->Prop) (J:It) (H':Hp) (hv:itv=.ref it) (i:Vr X ab σ H' s2) (t:NL X.prog X.w X.K tg J fp it tn) (h0:tn 0 s2.heap) (hf:∀b∈fp,G0 X ab H' b) (q:R J H')
def PI(X:Cx)(tg iter:Expr)(wi:TI):Prop :=
 ∀(ab:List (Addr×Obj))(s:Shared)(σ:St)(H:Hp)(R:It->Hp->Prop),Vr X ab σ H s->wi σ H R ->
  wpAny (model X.prog X.w) X.A (eval iter X.env) (λv s1=>wpAny (model X.prog X.w) X.A (pyIter v) (VC X ab σ tg R) X.xe s1) X.xe s
theorem NM {M : Model} {A : Around} {E : Value → Shared → Prop} {s : Shared} {tg : Expr} {it : Addr} {u : Value} {o : Obj} {n : String} {vs : Array Value} {Q : Unit → Shared → Prop} (ho : s.heap.get? it = some o) (hc : o.cls = .type n) (hd : o.data = .fields vs)
    (hn : ["enumerate", "zip", "dict_itemiterator", "dict_reverseitemiterator", "odict_iterator", "itertools.zip_longest", "itertools.pairwise"].contains n = false) (hQ : Q () s) : wpAny M A (letOwnedTupleGo tg (.ref it) u) Q E s := by
  unfold letOwnedTupleGo
  cases tg<;>first
    |exact aai hQ
    | (cases u<;>first
        |exact aai hQ
        | (refine ZQ (wpAny_load ho ?_)
           rw[hc, hd]
           show wpAny M A (if(["enumerate", "zip", "dict_itemiterator", "dict_reverseitemiterator", "odict_iterator", "itertools.zip_longest", "itertools.pairwise"].contains n && vs[0]? == some (rawInt _)) = true then _ else _) Q E s
           rw[if_neg (by intro h;rw[hn, aaD]at h;cases h)]
           exact aai hQ))
noncomputable def VD(K:W.Frag)(a:Addr):It :=
 ⟨λi H=>∃xs x,Vy K H a xs/\xs[i]?=some x,λi H x H'=>H'=H/\∀xs,Vy K H a xs->xs[i]?=some x,λi H=>∃xs,Vy K H a xs/\xs.length<=i⟩
noncomputable def VE(K:W.Frag)(a:Addr):It :=
 ⟨λi H=>∃xs x,Vz K H a xs/\xs[i]?=some x,λi H x H'=>H'=H/\∀xs,Vz K H a xs->xs[i]?=some x,λi H=>∃xs,Vz K H a xs/\xs.length<=i⟩
noncomputable def VF(lo:Int)(n:Nat):It:=⟨λi _=>i<n,λi H x H'=>H'=H/\x=.int (lo+i),λi _=>n<=i⟩
theorem G1{P:Program}{w:World}{K:W.Frag}{tg:Expr}(a it:Addr):NL P w K tg (VD K a) [it] it (λi h=>h.IsListIter it a i) where
 mem:=by simp
 obj:=λi h st b hb=>by
  have e:b=it:=by simpa using hb
  subst e;obtain⟨o,e,c,d⟩:=st;exact⟨o,e,λv z=>by rw[d]at z;cases z⟩
 keep:=λi h h' st k=>st.at λo e=>k it x_ o e
 item:=by intro X hP hw hK hc i ab s σ H E I hf st hg;subst hP hw hK;obtain⟨xs,x,hq,hx⟩:=hg;obtain⟨its,rv,p,hz⟩:=I.list hq;obtain⟨u,hu,ru⟩:=rv.get hx;obtain⟨f0,f1,f2,f3,f4,f5⟩:=hf it x_;refine wpAny_pyNext_list_item st p.isList (x:=u) (by simpa using hu) λh' st' sb=>?_;have I1:Vr X ab σ H {s with heap:=h' }:=I.turned (t':=s.toks) (λb o hb e=>(sb.2 b hb).trans e) f0 f1 f3 f4 f5;obtain⟨o,e,c,d⟩:=id st';exact⟨u,rfl,NM (s:={s with heap:=h' }) e c d xp ⟨x,H,I1,ru,⟨rfl,λys hy=>by rw[I.list_inj hy hq];exact hx⟩,st',λb hb=>(hf b hb).1⟩⟩
 done:=by intro X hP hw hK hc i ab s σ H E I hf st hg;subst hP hw hK;obtain⟨xs,hq,hx⟩:=hg;obtain⟨its,rv,p,hz⟩:=I.list hq;obtain⟨f0,f1,f2,f3,f4,f5⟩:=hf it x_;have hl:=rv.length;exact wpAny_pyNext_list_end (I.ok.hd hc) st p.isList (by simp;omega) λh' eb=>⟨rfl,I.turned (t':=s.toks) (λb o hb e=>eb b o hb e) f0 f1 f3 f4 f5⟩
 self:=λ_ _ _ _ _ st h=>wpAny_pyIter_listiter st h
theorem FK{P:Program}{w:World}{K:W.Frag}{tg:Expr}(a it:Addr):NL P w K tg (VE K a) [it] it (λi h=>h.IsTupleIter it a i) where
 mem:=by simp
 obj:=λi h st b hb=>by
  have e:b=it:=by simpa using hb
  subst e;obtain⟨o,e,c,d⟩:=st;exact⟨o,e,λv z=>by rw[d]at z;cases z⟩
 keep:=λi h h' st k=>st.at λo e=>k it x_ o e
 item:=by intro X hP hw hK hc i ab s σ H E I hf st hg;subst hP hw hK;obtain⟨xs,x,hq,hx⟩:=hg;obtain⟨its,rv,p,hz⟩:=I.tuple hq;obtain⟨u,hu,ru⟩:=rv.get hx;obtain⟨f0,f1,f2,f3,f4,f5⟩:=hf it x_;refine wpAny_pyNext_tuple_item st (show s.heap.IsTuple a its.toArray from p) (x:=u) (by simpa using hu) λh' st' sb=>?_;have I1:Vr X ab σ H {s with heap:=h' }:=I.turned (t':=s.toks) (λb o hb e=>(sb.2 b hb).trans e) f0 f1 f3 f4 f5;obtain⟨o,e,c,d⟩:=id st';exact⟨u,rfl,NM (s:={s with heap:=h' }) e c d xp ⟨x,H,I1,ru,⟨rfl,λys hy=>by rw[I.tuple_inj hy hq];exact hx⟩,st',λb hb=>(hf b hb).1⟩⟩
 done:=by intro X hP hw hK hc i ab s σ H E I hf st hg;subst hP hw hK;obtain⟨xs,hq,hx⟩:=hg;obtain⟨its,rv,p,hz⟩:=I.tuple hq;obtain⟨f0,f1,f2,f3,f4,f5⟩:=hf it x_;have hl:=rv.length;exact wpAny_pyNext_tuple_end (I.ok.hd hc) st (show s.heap.IsTuple a its.toArray from p) (by simp;omega) λh' eb=>⟨rfl,I.turned (t':=s.toks) (λb o hb e=>eb b o hb e) f0 f1 f3 f4 f5⟩
 self:=λ_ _ _ _ _ st h=>wpAny_pyIter_tupleiter st h
theorem FL{P:Program}{w:World}{K:W.Frag}{tg:Expr}(it:Addr)(lo:Int)(n:Nat):NL P w K tg (VF lo n) [it] it (λi h=>IsRangeIter h it (lo+(i:Nat)*1) ((n:Int)-(i:Nat)) 1) where
 mem:=by simp
 obj:=λi h st b hb=>by
  have e:b=it:=by simpa using hb
  subst e
  exact⟨_,st,λv z=>by
   have z':Data.fields _=Data.cell v:=z
   cases z'⟩
 keep:=λi h h' st k=>k it x_ _ st
 item:=by intro X hP hw hK hc i ab s σ H E I hf st hg;subst hP hw hK;obtain⟨f0,f1,f2,f3,f4,f5⟩:=hf it x_;have W:=Walks.range (prog:=X.prog) (w:=X.w) (I.ok.hd hc) it lo 1 n;refine W.item i s _ _ hg st λv h' tk hv st' kk=>?_;obtain⟨t,rfl⟩:=hv;have I1:Vr X ab σ H {s with heap:=h',toks:=tk}:=I.turned (λb o hb e=>kk b o (by simpa using hb) e) f0 f1 f3 f4 f5;refine⟨_,rfl,NM (s:={s with heap:=h',toks:=tk}) (n:="range_iterator") st' rfl rfl xp ⟨.int (lo+i),H,I1,⟨t,?_⟩,⟨rfl,rfl⟩,st',λb hb=>(hf b hb).1⟩⟩;rw[Int.mul_one]
 done:=by intro X hP hw hK hc i ab s σ H E I hf st hg;subst hP hw hK;obtain⟨f0,f1,f2,f3,f4,f5⟩:=hf it x_;exact wpAny_pyNext_range_end (I.ok.hd hc) st (by have:n<=i:=hg;omega) λh' eb=>⟨rfl,I.turned (t':=s.toks) (λb o hb e=>eb b o hb e) f0 f1 f3 f4 f5⟩
 self:=λ_ _ _ _ _ st h=>wpAny_pyIter_rangeiter st h
section
variable{X:Cx}{tg:Expr}
theorem Eb{ab:List (Addr×Obj)}{σ:St}{H:Hp}{s:Shared}{R:It->Hp->Prop}{E:Value->Shared->Prop}{lo hi:Int}{t u v:Tok}{tk:Nat}(I:Vr X ab σ H s)(h1 : -(2^62)<=lo)(h2:lo<2^62)(h3 : -(2^62)<=hi)(h4:hi<2^62)
  (q:R (VF lo (hi-lo).toNat) H):wpAny (model X.prog X.w) X.A (pyIter (.ref s.heap.objs.size)) (VC X ab σ tg R) E {s with heap:=s.heap.push {cls:=.type "range",data:=.fields #[.int lo t,.int hi u,.int 1 v] },toks:=tk}:=by
 refine wpAny_pyIter_range (IsRange.new ..) (small_one h1 h2 h3 h4) ?_;have I1:Vr X ab σ H {s with heap:=s.heap.push {cls:=.type "range",data:=.fields #[.int lo t,.int hi u,.int 1 v] },toks:=tk}:=I.kept λb o e=>ZO _ e
 refine⟨(s.heap.push {cls:=.type "range",data:=.fields #[.int lo t,.int hi u,.int 1 v] }).objs.size,[(s.heap.push {cls:=.type "range",data:=.fields #[.int lo t,.int hi u,.int 1 v] }).objs.size],_,_,H,rfl,
  I1.kept (t':=tk) λb o e=>ZO _ e,FL _ lo (hi-lo).toNat,?_,λb hb=>?_,q⟩
 .
  have e1:lo+((0:Nat):Int)*1=lo:=by simp
  have e2:(((hi-lo).toNat:Nat):Int)-((0:Nat):Int)=Builtin.Range.rangeSize lo hi 1:=by rw[rangeSize_one];split<;>omega
  show IsRangeIter _ _ (lo+((0:Nat):Int)*1) ((((hi-lo).toNat:Nat):Int)-((0:Nat):Int)) 1;rw[e1,e2];exact aah _ rfl
 .
  have e:b=(s.heap.push {cls:=.type "range",data:=.fields #[.int lo t,.int hi u,.int 1 v] }).objs.size:=by simpa using hb
  subst e;exact I1.fpOk (ZY _) (I1.hok.fresh (ZY _))
noncomputable def Sv(ta:TA):TI:=λσ H R=>ta σ H λvs H1=>∃j:Int,vs=[.int j]/\-(2^62)<=j/\j<2^62/\R (VF 0 j.toNat) H1
noncomputable def Sw(ta:TA):TI:=λσ H R=>ta σ H λvs H1=>∃i j:Int,vs=[.int i,.int j]/\(-(2^62)<=i/\i<2^62/\-(2^62)<=j/\j<2^62)/\R (VF i (j-i).toNat) H1
theorem G2{a:Expr}{ta:TA}{p pos:Pos} (hg:Gl X "range") (hm:X.mg "range"=none) (ha:PA X [a] ta) (hs:starEach [a] X.env=[(false,eval a X.env)]:=by rfl):PI X tg (.Call (.Name "range" p) [a] [] pos) (Sv ta):=by
 intro ab s σ H R I h;refine Call_ (p9 I hg hm boot_range (abk (Vv (ha pos ab s σ H _ I h) λus s1 ⟨vs,H1,I1,r1,q1⟩=>?_) hs rfl));obtain⟨j,e,q1,q2,q⟩:=q1;subst e
 cases r1 with
 | cons r rr =>
  cases rr;obtain⟨t,rfl⟩:=r;exact call_range_1 (Eb I1 xL xL q1 q2 (by simpa using q))
theorem G3{a b:Expr}{ta:TA}{p pos:Pos} (hg:Gl X "range") (hm:X.mg "range"=none) (ha:PA X [a,b] ta) (hs:starEach [a,b] X.env=[(false,eval a X.env),(false,eval b X.env)]:=by rfl) (hs2:starEach [b] X.env=[(false,eval b X.env)]:=by rfl) :
  PI X tg (.Call (.Name "range" p) [a,b] [] pos) (Sw ta):=by
 intro ab s σ H R I h;refine Call_ (p9 I hg hm boot_range (abk (Vv (ha pos ab s σ H _ I h) λus s1 ⟨vs,H1,I1,r1,q1⟩=>?_) (by rw[hs,hs2]) (by rw[hs2];rfl)));obtain⟨i,j,e,⟨q1,q2,q3,q4⟩,q⟩:=q1;subst e
 cases r1 with
 | cons r rr =>
  cases rr with
  | cons r' rr =>
   cases rr;obtain⟨t,rfl⟩:=r;obtain⟨t',rfl⟩:=r';exact call_range_2 (Eb I1 q1 q2 q3 q4 q)
noncomputable def Ay(fp:List Addr)(h:Heap):List (Addr×Obj):=fp.filterMap λb=>(h.get? b).map λo=>(b,o)
theorem m7{fp:List Addr}{h:Heap}{b:Addr}{o:Obj}(hb:b∈fp)(e:h.get? b=some o):(b,o)∈Ay fp h:=abE.mpr ⟨b,hb,by rw[e];rfl⟩
theorem G4{fp:List Addr}{h:Heap}{p:Addr×Obj}(hp:p∈Ay fp h):p.1∈fp/\h.get? p.1=some p.2:=by
 obtain⟨b,hb,e⟩:=abE.mp hp
 cases q:h.get? b with
 |none=>rw[q]at e;cases e
 | some o =>
  rw[q]at e;have e':(b,o)=p:=aaf e;subst e';exact⟨hb,q⟩
theorem Vr.pinned{ab:List (Addr×Obj)}{σ:St}{H:Hp}{s:Shared}{fp:List Addr}(I:Vr X ab σ H s)(hf:∀b∈fp,G0 X ab H b)(ho:∀b∈fp,∃o,s.heap.get? b=some o/\∀v,o.data≠.cell v):Vr X (ab++Ay fp s.heap) σ H s :=
 I.pins_of λp hp=>(aap.mp hp).elim (λz=>I.pin p (aad _ z)) λz=>by obtain⟨hb,e⟩:=G4 z;obtain⟨f0,f1,f2,_⟩:=hf p.1 hb;obtain⟨o,e',d⟩:=ho p.1 hb;rw[e]at e';cases e';exact⟨e,f0,f1,f2,d⟩
theorem Vr.unpinned{ab pl:List (Addr×Obj)}{σ:St}{H:Hp}{s:Shared}(I:Vr X (ab++pl) σ H s):Vr X ab σ H s:=I.pins_of λp hp=>I.pin p (aad _ (aaj _ hp))
end
abbrev R2:=V->V->Hp->VK->Prop
def VG(X:Cx)(f:Value->Value->Sem Value)(r:R2):Prop :=
 ∀(ab:List (Addr×Obj))(s:Shared)(σ:St)(H:Hp)(x y:V)(v u:Value)(Q:VK),Vr X ab σ H s->cO x v->cO y u->r x y H Q ->
  wpAny (model X.prog X.w) X.A (f v u) (EP X ab σ Q) X.xe s
def VH(X:Cx)(f:Value->Sem Value)(r:V->Hp->VK->Prop):Prop :=
 ∀(ab:List (Addr×Obj))(s:Shared)(σ:St)(H:Hp)(x:V)(v:Value)(Q:VK),Vr X ab σ H s->cO x v->r x H Q ->
  wpAny (model X.prog X.w) X.A (f v) (EP X ab σ Q) X.xe s
def lJ(X:Cx)(f:Value)(r:List V->Hp->VK->Prop):Prop :=
 ∀(ab:List (Addr×Obj))(s:Shared)(σ:St)(H:Hp)(xs:List V)(us:List Value)(Q:VK),Vr X ab σ H s->dA xs us->r xs H Q ->
  wpAny (model X.prog X.w) X.A (call f us) (EP X ab σ Q) X.xe s
def VI(r:R2)(ta tb:TE):TE:=λσ H Q=>ta σ H λx H1=>tb σ H1 λy H2=>r x y H2 Q
def rI(C:Int->Int->Prop)(g:Int->Int->V):R2:=λx y H Q=>∃i j,x=.int i/\y=.int j/\C i j/\Q (g i j) H
def VJ(g:Int->Int->V):R2:=λx y H Q=>∃i j,x=.int i/\y=.int j/\Q (g i j) H
def rU(g:Int->V):V->Hp->VK->Prop:=λx H Q=>∃i,x=.int i/\Q (g i) H
section
variable{X:Cx}{a b:Expr}{ta tb:TE}
theorem UP(ha:PE X a ta)(hb:PE X b tb){ab:List (Addr×Obj)}{s:Shared}{σ:St}{H:Hp}{R:V->V->Hp->Prop}(I:Vr X ab σ H s)
  (h:ta σ H λx H1=>tb σ H1 λy H2=>R x y H2) {Q:Value->Shared->Prop} {f:Value->Value->Sem Value}
  (hf:∀v u s2 x y H2,Vr X ab σ H2 s2->cO x v->cO y u->R x y H2->wpAny (model X.prog X.w) X.A (f v u) Q X.xe s2) :
  wpAny (model X.prog X.w) X.A (eval a X.env) (λv s₁=>wpAny (model X.prog X.w) X.A (eval b X.env) (λu s₂=>wpAny (model X.prog X.w) X.A (f v u) Q X.xe s₂) X.xe s₁) X.xe s:=by
 refine Vv (ha ab s σ H _ I h) λv s1 ⟨x,H1,I1,r1,q1⟩=>?_;refine Vv (hb ab s1 σ H1 _ I1 q1) λu s2 ⟨y,H2,I2,r2,q2⟩=>?_;exact hf v u s2 x y H2 I2 r1 r2 q2
theorem VL{f:Value->Value->Sem Value}{C:Int->Int->Prop}{g:Int->Int->Int}
  (rule:∀(i j:Int)(t u:Tok)(s:Shared)(Q:Value->Shared->Prop)(E:Value->Shared->Prop),C i j->Q (.int (g i j) s.toks) {s with toks:=s.toks+1}->wpAny (model X.prog X.w) X.A (f (.int i t) (.int j u)) Q E s) :
  VG X f (rI C λi j=>.int (g i j)):=by
 intro ab s σ H x y v u Q I rx ry h;obtain⟨i,j,rfl,rfl,hc,q⟩:=h;obtain⟨t,rfl⟩:=rx;obtain⟨t',rfl⟩:=ry;exact rule i j t t' s _ _ hc ⟨.int (g i j),H,I.tok _,⟨_,rfl⟩,q⟩
theorem Ui{f:Value->Value->Sem Value}{g:Int->Int->Int}
  (rule:∀(i j:Int)(t u:Tok)(s:Shared)(Q:Value->Shared->Prop)(E:Value->Shared->Prop),Q (.int (g i j) s.toks) {s with toks:=s.toks+1}->wpAny (model X.prog X.w) X.A (f (.int i t) (.int j u)) Q E s) :
  VG X f (VJ λi j=>.int (g i j)):=by
 intro ab s σ H x y v u Q I rx ry h;obtain⟨i,j,rfl,rfl,q⟩:=h;obtain⟨t,rfl⟩:=rx;obtain⟨t',rfl⟩:=ry;exact rule i j t t' s _ _ ⟨.int (g i j),H,I.tok _,⟨_,rfl⟩,q⟩
theorem Sg{f:Value->Value->Sem Value}{g:Int->Int->Bool}
  (rule:∀(i j:Int)(t u:Tok)(s:Shared)(Q:Value->Shared->Prop)(E:Value->Shared->Prop),Q (.bool (g i j)) s->wpAny (model X.prog X.w) X.A (f (.int i t) (.int j u)) Q E s) :
  VG X f (VJ λi j=>.bl (g i j)):=by
 intro ab s σ H x y v u Q I rx ry h;obtain⟨i,j,rfl,rfl,q⟩:=h;obtain⟨t,rfl⟩:=rx;obtain⟨t',rfl⟩:=ry;exact rule i j t t' s _ _ ⟨.bl (g i j),H,I,rfl,q⟩
def UQ(i j:Int):Prop:=0<=j/\j<=1000000/\i.natAbs<2^64
def Uj(i j:Int):Prop:=(-(2^64)<i/\i<2^64)∨(-(2^64)<j/\j<2^64)
theorem Uj.ok{i j:Int}(h:Uj i j):IntMulOk i j:=by
 rcases h with⟨h1,h2⟩|⟨h1,h2⟩
 . exact .of_left (intBits_le_64 h1 h2)
 . exact .of_right (intBits_le_64 h1 h2)
theorem Qu:VG X (binaryOp .Add) (VJ λi j=>.int (i+j)):=Ui λ_ _ _ _ _ _ _ q=>add_int q
theorem Qv:VG X (binaryOp .Sub) (VJ λi j=>.int (i-j)):=Ui λ_ _ _ _ _ _ _ q=>sub_int q
theorem NN:VG X (binaryOp .Mod) (rI (λ_ j=>j≠0) λi j=>.int (i.fmod j)):=VL λ_ _ _ _ _ _ _ hc q=>mod_int' hc q
theorem Qw:VG X (binaryOp .Pow) (rI UQ λi j=>.int (i^j.toNat)):=VL λ_ _ _ _ _ _ _ hc q=>pow_int_small hc.1 hc.2.1 hc.2.2 q
theorem VM{f:Value->Sem Value}{g:Int->Int}
  (rule:∀(i:Int)(t:Tok)(s:Shared)(Q:Value->Shared->Prop)(E:Value->Shared->Prop),Q (.int (g i) s.toks) {s with toks:=s.toks+1}->wpAny (model X.prog X.w) X.A (f (.int i t)) Q E s) :
  VH X f (rU λi=>.int (g i)):=by
 intro ab s σ H x v Q I rx h;obtain⟨i,rfl,q⟩:=h;obtain⟨t,rfl⟩:=rx;exact rule i t s _ _ ⟨.int (g i),H,I.tok _,⟨_,rfl⟩,q⟩
theorem Qx:VH X (unaryOp .USub) (rU λi=>.int (-i)):=VM λ_ _ _ _ _ q=>neg_int q
end
section
variable{X:Cx}{a b c:Expr}{ta tb tc:TE}{pos:Pos}
theorem MU{ab:List (Addr×Obj)}{σ:St}{H:Hp}{s:Shared}{Q:VK}{k k':Bool}(I:Vr X ab σ H s)(q:Q (.bl k) H)(e:k=k'):EP X ab σ Q (.bool k') s:=by subst e;exact⟨.bl k,H,I,rfl,q⟩
theorem Qy:VG X (compareOp .Lt) (VJ λi j=>.bl (decide (i<j))):=Sg λ_ _ _ _ _ _ _ q=>lt_int q
theorem Qz:VG X (compareOp .LtE) (VJ λi j=>.bl (decide (i<=j))):=Sg λ_ _ _ _ _ _ _ q=>le_int q
theorem Sx:VG X (compareOp .Gt) (VJ λi j=>.bl (decide (j<i))):=Sg λ_ _ _ _ _ _ _ q=>gt_int q
theorem Sy:VG X (compareOp .GtE) (VJ λi j=>.bl (decide (j<=i))):=Sg λ_ _ _ _ _ _ _ q=>ge_int q
theorem QA:VG X (compareOp .Is) (λx y H Q=>y=.non/\Q (.bl (decide (x=.non))) H):=by
 intro ab s σ H x y v u Q I rx ry h;obtain⟨rfl,q⟩:=h;cases ry;refine is_none_gen (MU I q ?_)
 cases x<;>first
  |(cases rx;rfl)
  |(obtain⟨t,rfl⟩:=rx;rfl)
theorem NO:VG X (compareOp .IsNot) (λx y H Q=>y=.non/\Q (.bl (!decide (x=.non))) H):=by
 intro ab s σ H x y v u Q I rx ry h;obtain⟨rfl,q⟩:=h;cases ry;refine isnot_none_gen (MU I q ?_)
 cases x<;>first
  |(cases rx;rfl)
  |(obtain⟨t,rfl⟩:=rx;rfl)
theorem aP(b:Expr){op:CmpOp}(h:op≠.In:=by decide)(h2:op≠.NotIn:=by decide):behindInMarks op b=false:=by
 have e1:(op == CmpOp.In)=false:=by cases op<;>first|rfl|exact absurd rfl h
 have e2:(op == CmpOp.NotIn)=false:=by cases op<;>first|rfl|exact absurd rfl h2
 cases b<;>simp[behindInMarks,e1,e2]
def MV(r r':R2)(ta tb tc:TE):TE:=λσ H Q=>ta σ H λx H1=>tb σ H1 λy H2=>r x y H2 λz H3=>∃k,z=.bl k /\
 (if k=true then tc σ H3 λw' H4=>r' y w' H4 Q else Q (.bl false) H3)
theorem KB{op op':CmpOp}{r r':R2}(ho:VG X (compareOp op) r)(ho':VG X (compareOp op') r')(ha:PE X a ta)(hb:PE X b tb)(hc:PE X c tc)
  (hm:lastMarks [op,op'] [b,c]=false:=by with_unfolding_all rfl):PE X (.Compare a [op,op'] [b,c] pos) (MV r r' ta tb tc):=by
 intro ab s σ H Q I h
 refine Compare_chain (Vv (ha ab s σ H _ I h) λv s1 ⟨x,H1,I1,r1,q1⟩=>chain_link (Vv (hb ab s1 σ H1 _ I1 q1) λu s2 ⟨y,H2,I2,r2,q2⟩ =>
  Vv (ho ab s2 σ H2 x y v u _ I2 r1 r2 q2) λd s3 ⟨z,H3,I3,r3,k,e,q3⟩=>?_)) hm
 subst e;cases r3;refine aa0 ?_
 cases k with
 |false=>exact ite_ff ⟨.bl false,H3,I3,rfl,q3⟩
 |true=>exact ite_tt (chain_last (Vv (hc ab s3 σ H3 _ I3 q3) λw' s4 ⟨z',H4,I4,r4,q4⟩=>ho' ab s4 σ H4 y z' u w' Q I4 r2 r4 q4))
theorem yb:(sizeLine:Nat)<2^63:=by rw[sizeLine_eq];decide
theorem FM:VG X (binaryOp .Add) (λx y H Q=>∃i j,x=.str i/\y=.str j/\i.length+j.length<=sizeLine/\Q (.str (i++j)) H):=by intro ab s σ H x y v u Q I rx ry h;obtain⟨i,j,rfl,rfl,hz,q⟩:=h;obtain⟨t,rfl⟩:=rx;obtain⟨t',rfl⟩:=ry;exact add_str (λt' tk=>⟨.str (i++j),H,I.tok _,⟨_,rfl⟩,q⟩) hz
theorem xj{x:V}{us:List Value}(r:dA [x] us):∃u,us=[u]/\cO x u:=by
 cases r with
 |cons r1 r2=>cases r2;exact⟨_,rfl,r1⟩
theorem NP{x y:V}{us:List Value}(r:dA [x,y] us):∃u w',us=[u,w']/\cO x u/\cO y w':=by
 cases r with
 | cons r1 r2 =>
  cases r2 with
  |cons r3 r4=>cases r4;exact⟨_,_,rfl,r1,r3⟩
theorem KC:lJ X (.builtin "abs") (λxs H Q=>∃ i,xs=[.int i]/\Q (.int (if i < 0 then -i else i)) H):=by
 intro ab s σ H xs us Q I r h;obtain⟨i,rfl,q⟩:=h;obtain⟨u,rfl,t,rfl⟩:=xj r
 exact call_abs_int λu tk=>⟨.int (if i<0 then -i else i),H,I.tok _,⟨_,rfl⟩,q⟩
theorem G5(hc:X.calm=true):lJ X (.builtin "max") (λxs H Q=>∃ i j,xs=[.int i,.int j]/\Q (.int (if j > i then j else i)) H):=by
 intro ab s σ H xs us Q I r h;obtain⟨i,j,rfl,q⟩:=h;obtain⟨u,w',rfl,⟨t,rfl⟩,⟨t',rfl⟩⟩:=NP r;refine max_two_ints (I.ok.hd hc) λh' tk k=>⟨_,H,I.kept k,?_,q⟩;by_cases hj:j > i
 . rw[if_pos hj,if_pos hj];exact⟨_,rfl⟩
 . rw[if_neg hj,if_neg hj];exact⟨_,rfl⟩
theorem G6(hc:X.calm=true):lJ X (.builtin "min") (λxs H Q=>∃ i j,xs=[.int i,.int j]/\Q (.int (if j < i then j else i)) H):=by
 intro ab s σ H xs us Q I r h;obtain⟨i,j,rfl,q⟩:=h;obtain⟨u,w',rfl,⟨t,rfl⟩,⟨t',rfl⟩⟩:=NP r;refine min_two_ints (I.ok.hd hc) λh' tk k=>⟨_,H,I.kept k,?_,q⟩;by_cases hj:j<i
 . rw[if_pos hj,if_pos hj];exact⟨_,rfl⟩
 . rw[if_neg hj,if_neg hj];exact⟨_,rfl⟩
theorem G7:lJ X (.type "int") (λxs H Q=>(∃ i,xs=[.int i]/\Q (.int i) H)∨∃ k,xs=[.bl k]/\Q (.int (if k then 1 else 0)) H):=by
 intro ab s σ H xs us Q I r h;rcases h with⟨i,rfl,q⟩|⟨k,rfl,q⟩
 . obtain⟨u,rfl,t,rfl⟩:=xj r;exact call_int_int ⟨.int i,H,I,⟨_,rfl⟩,q⟩
 .
  obtain⟨u,rfl,r1⟩:=xj r;cases r1
  exact call_int_bool ⟨.int (if k then 1 else 0),H,I.tok _,⟨_,rfl⟩,q⟩
end
structure VN (K:W.Frag) (C:Addr):Prop where
 pg:W.plainGet K C Str.empty=true
 hd:W.hasDictIn K C=true
 po:W.plainOver K C=true
 sa:W.findIn K (.ref C) "__setattr__"=some (some (.builtin "object.__setattr__"))
theorem VN.get{K:W.Frag}{C:Addr}(c:VN K C)(f:Str):W.plainGet K C f=true:=c.pg
structure oI (k:Nat) (A:Around):Prop where
 hd:A.handled=none
 dp:A.depth+3*k+5<recursionLimit
 un:A.units+16*k+200<cLine
 gd:A.guards=some []
theorem oI.mono{j k:Nat}{A:Around}(r:oI k A)(h:j<=k):oI j A:=⟨r.hd,by have:=r.dp;omega,by have:=r.un;omega,r.gd⟩
theorem oI.deeper{k:Nat}{A:Around}(r:oI (k+1) A)(env:Env):oI k (A.deeper env) :=
 ⟨r.hd,by have:=r.dp;show A.depth+1+3*k+5<_;omega,by have:=r.un;show A.units+3+16*k+200<_;omega,r.gd⟩
theorem oI.in1{k:Nat}{A:Around}(r:oI (k+1) A):oI k A.in1 :=
 ⟨r.hd,by have:=r.dp;show A.depth+3*k+5<_;omega,by have:=r.un;show A.units+1+16*k+200<_;omega,r.gd⟩
theorem oI.depth{k:Nat}{A:Around}(r:oI k A):A.depth<recursionLimit:=by have:=r.dp;omega
theorem oI.units{k:Nat}{A:Around}(r:oI k A):A.units+64<cLine:=by have:=r.un;omega
noncomputable def UR:TA:=λ_ H Q=>Q [] H
noncomputable def Sz(ta:TE)(tr:TA):TA:=λσ H Q=>ta σ H λx H1=>tr σ H1 λxs H2=>Q (x::xs) H2
section
variable{X:Cx}{e:Expr}{es:List Expr}{te:TE}{t:TA}{pos:Pos}
theorem uG:PA X [] UR:=λ_ _ _ _ H Q I h=>Calls.spliced_nil ⟨[],H,I,.nil,h⟩
theorem je(ha:PE X e te)(hr:PA X es t)(hs:starEach (e::es) X.env=(false,eval e X.env)::starEach es X.env:=by rfl):PA X (e::es) (Sz te t):=by intro pos ab s σ H Q I h;rw[hs];show wpAny _ _ (spliced ((false,eval e X.env)::backTo pos (starEach es X.env))) _ _ s;refine Calls.spliced_cons (Vv (ha ab s σ H _ I h) λu s1 ⟨x,H1,I1,r1,q1⟩=>?_);exact Vv (hr pos ab s1 σ H1 _ I1 q1) λus s2 ⟨xs,H2,I2,r2,q2⟩=>⟨x::xs,H2,I2,.cons r1 r2,q2⟩
end
noncomputable abbrev Sp:=List V->Hp->VK->XK->Prop
noncomputable abbrev VO:=List Env->Hp->Shared->XK->Value->Shared->Prop
structure KD (P:Program) (w:World) (K:W.Frag) (mg:Str->Option Value) (base:Heap) (A:Around) (outer:List Env) (s:Shared) (H:Hp):Prop where
 frames:A.frames=some outer
 mod:Mod K mg base
 bs:∀b o,base.get? b=some o->s.heap.get? b=some o/\H b=none
 bsz:base.objs.size<=s.heap.objs.size
 funs:s.heap.FunFrames base outer
 frf:∀b∈Vo outer,H b=none
 hok:Vk P w H s.heap
 bare:AllBare s.gens
 tbs:Vn K H
inductive CE (outer:List Env) (P:Program) (w:World) (H:Hp) (s:Shared) (Q:VK) (u:Value) (s':Shared):Prop
 |mk (v:V) (H':Hp) (os:s'.os=s.os) (g:AllBare s'.gens) (un:Un (Vo outer) [] H H' s.heap s'.heap) (ok:Vk P w H' s'.heap) (r:cO v u) (q:Q v H')
def CR(CX:VO)(outer:List Env)(P:Program)(w:World)(H:Hp)(s:Shared)(Q:VK)(E:XK)(r:Result)(s':Shared):Prop :=
 match r with
 |.ok (.ret u)=>CE outer P w H s Q u s'
 |.ok _=>False
 |.error e=>CX outer H s E e s'
structure FnOk (P:Program) (w:World) (K:W.Frag) (mg:Str->Option Value) (base:Heap) (CX:VO) (k:Nat) (f:Addr) (fd:FuncData) (ps:List Str) (sp:Sp):Prop where
 len:∀vs H Q E,sp vs H Q E->vs.length=ps.length
 run:∀(A:Around)(outer:List Env)(s:Shared)(H:Hp)(args:Args)(us:List Value)(vs:List V)(Q:VK)(E:XK),oI k A->KD P w K mg base A outer s H->BindsTo s fd args (ps.zip us)->dA vs us->sp vs H Q E ->
  codeAny (model P w) A (.call (.ref f) args) (CR CX outer P w H s Q E) s
theorem KD.in1{P:Program}{w:World}{K:W.Frag}{mg:Str->Option Value}{base:Heap}{A:Around}{outer:List Env}{s:Shared}{H:Hp}(e:KD P w K mg base A outer s H) :
  KD P w K mg base A.in1 outer s H:=⟨e.frames,e.mod,e.bs,e.bsz,e.funs,e.frf,e.hok,e.bare,e.tbs⟩
section
variable{X:Cx}{ab:List (Addr×Obj)}{σ:St}{H:Hp}{s s':Shared}
theorem Vr.env0(I:Vr X ab σ H s):KD X.prog X.w X.K X.mg X.base X.A X.stack s H :=
 ⟨I.ok.frames,I.ok.mod,I.bs,ZR I.ok.bsz I.sz,I.stack,I.stkFree,I.hok,I.bare,I.tbs⟩
theorem Vr.after{Q:VK}{u:Value}(I:Vr X ab σ H s)(h:CE X.stack X.prog X.w H s Q u s'):EP X ab σ Q u s':=by obtain⟨v,H',os,bare,un,hok,r,q⟩:=h;obtain⟨hh,g,d,t,os'⟩:=s';obtain rfl:os'=s.os:=os;exact⟨v,H',I.call (h':=hh) (g':=g) (d':=d) (t':=t) (ch:=[]) un hok bare (λb z=>absurd z x_),r,q⟩
end
def Cw(K:W.Frag)(fd:FuncData)(ps:List Str)(ds:List Value):Prop :=
 ∀(s:Shared)(us:List Value),K.In s.heap->(us++ds).length=ps.length->BindsTo s fd ⟨us,[]⟩ (ps.zip (us++ds))
theorem Cw.all{K:W.Frag}{fd:FuncData}{ps:List Str}(h:∀us:List Value,us.length=ps.length->bindArgs fd ⟨us,[]⟩=pure (ps.zip us)):Cw K fd ps []:=λs us _ hl=>by rw[abh]at hl ⊢;exact .of_eq (h us hl)
def Ec(CX:VO)(X:Cx)(E:XK):Prop:=∀(ab:List (Addr×Obj))(σ:St)(H:Hp)(s:Shared)(e:Value)(s':Shared),Vr X ab σ H s->CX X.stack H s E e s'->X.xe e s'
section
variable{X:Cx}{CX:VO}{k:Nat}{f:Addr}{fd:FuncData}{ps:List Str}{sp:Sp}{dvs:List V}{ds:List Value}{E:XK}{e:Expr}
theorem MW{ab:List (Addr×Obj)}{σ:St}{H:Hp}{s:Shared}{Q:VK}{us:List Value}{vs:List V}(F:FnOk X.prog X.w X.K X.mg X.base CX k f fd ps sp)(hr:oI k X.A)(hb:Cw X.K fd ps ds)(hd:dA dvs ds)(hx:Ec CX X E)
  (I:Vr X ab σ H s) (r:dA vs us) (h:sp (vs++dvs) H Q E):wpAny (model X.prog X.w) X.A (call (.ref f) us) (EP X ab σ Q) X.xe s:=by
 have r2:dA (vs++dvs) (us++ds):=r.append hd;have hl:(us++ds).length=ps.length:=by rw[<- r2.length];exact F.len _ _ _ _ h
 refine wpAny_call (codeAny_mono (F.run X.A X.stack s H ⟨us,[]⟩ (us++ds) (vs++dvs) Q E hr I.env0 (hb s us I.kIn hl) r2 h) λr s' hq=>?_)
 cases r with
 |error e=>exact hx ab σ H s e s' I hq
 | ok fl =>
  cases fl with
  |ret u=>exact I.after hq
  |next=>exact False.elim hq
  |brk=>exact False.elim hq
  |cont=>exact False.elim hq
end
structure ax (N P:List Str) (sc:Scope):Prop where
 kind:sc.kind=.function
 co:sc.isCoroutine=false
 gen:sc.isGenerator=false
 nd:N.Nodup
 pre:N.take P.length=P
 par:∀x∈P,sc.names.lookup x=some .local∨sc.names.lookup x=some .cell
 nofree:∀y∈sc.names,y.2≠.free
theorem Az{kindOf:Str->Option NameKind}{x:Str}:∀{binds:List (Str×Value)}{m:Str->Option Value},(∀v,(x,v)∉binds)->bindL kindOf binds m x=m x
 |[],_,_=>rfl
 | (n,v)::r,m,h=>by
  unfold bindL;rw[Az λw hw=>h w (fI _ hw)];split
  .
   have:x≠n:=by rintro rfl;exact h v k4
   simp[this]
  . rfl
theorem AA{kindOf:Str->Option NameKind}{x:Str}:∀{binds:List (Str×Value)}{m:Str->Option Value},(∀v,(x,v)∉binds)->bindC kindOf binds m x=m x
 |[],_,_=>rfl
 | (n,v)::r,m,h=>by
  unfold bindC;rw[AA λw hw=>h w (fI _ hw)];split
  . rfl
  .
   have:x≠n:=by rintro rfl;exact h v k4
   simp[this]
theorem AB{kindOf:Str->Option NameKind}{x:Str}{v:Value}:∀{P:List Str}{vs:List Value}{i:Nat}{m:Str->Option Value},P.Nodup->P[i]?=some x->vs[i]?=some v->kindOf x=some .local ->
  bindL kindOf (P.zip vs) m x=some v
 |[],_,_,_,_,h,_,_=>by simp at h
 |_::_,[],_,_,_,_,h,_=>by simp at h
 | p::P,w::vs,0,m,nd,h1,h2,hk=>by simp at h1 h2;subst h1;subst h2;show bindL kindOf ((p,w)::P.zip vs) m p=_;unfold bindL;rw[Az λv hv=>(aav.mp nd).1 (abW hv).1,if_pos hk];simp
 | p::P,w::vs,i+1,m,nd,h1,h2,hk=>by show bindL kindOf ((p,w)::P.zip vs) m x=_;unfold bindL;exact AB (i:=i) (aav.mp nd).2 (by simpa using h1) (by simpa using h2) hk
theorem AC{kindOf:Str->Option NameKind}{x:Str}{v:Value}:∀{P:List Str}{vs:List Value}{i:Nat}{m:Str->Option Value},P.Nodup->P[i]?=some x->vs[i]?=some v->kindOf x≠some .local ->
  bindC kindOf (P.zip vs) m x=some v
 |[],_,_,_,_,h,_,_=>by simp at h
 |_::_,[],_,_,_,_,h,_=>by simp at h
 | p::P,w::vs,0,m,nd,h1,h2,hk=>by simp at h1 h2;subst h1;subst h2;show bindC kindOf ((p,w)::P.zip vs) m p=_;unfold bindC;rw[AA λv hv=>(aav.mp nd).1 (abW hv).1,if_neg hk];simp
 | p::P,w::vs,i+1,m,nd,h1,h2,hk=>by show bindC kindOf ((p,w)::P.zip vs) m x=_;unfold bindC;exact AC (i:=i) (aav.mp nd).2 (by simpa using h1) (by simpa using h2) hk
noncomputable def xk(N:List Str)(vs:List V):St:=vs.map some++List.replicate (N.length-vs.length) none
noncomputable def MX(CX:VO)(P:Program)(w:World)(K:W.Frag)(mg:Str->Option Value)(base:Heap)(N:List Str)(qual:Str)(scope:Scope)(f:Addr)(cd:Value)(A:Around)(outer:List Env)(s:Shared)(H:Hp)(E:XK):Cx where
 prog:=P
 w:=w
 K:=K
 mg:=mg
 base:=base
 A:=A.deeper (envOfC qual scope s.heap.objs.size f cd)
 N:=N
 s₀:=s
 H₀:=H
 env:=envOfC qual scope s.heap.objs.size f cd
 outer:=outer
 stack:=envOfC qual scope s.heap.objs.size f cd::outer
 ex:=[]
 calm:=true
 fn:=λ_=>true
 pn:=[]
 xe:=λe s'=>wpAny (model P w) (A.deeper (envOfC qual scope s.heap.objs.size f cd)) (leaving (envOfC qual scope s.heap.objs.size f cd) e) (λ_ s''=>CX outer H s E e s'') (λe' s''=>CX outer H s E e' s'') s'
theorem Ed{sc:Scope}{n:Nat}{x:Str}(h:sc.names.lookup x=some .cell):∃c,(cellsFrom n sc.names []).lookup x=some c:=by have q:=W.cellsFrom_some sc.names n [] (.inl h);exact Option.isSome_iff_exists.mp q
theorem G8{CX:VO}{P:Program}{w:World}{K:W.Frag}{mg:Str->Option Value}{base:Heap}{N ps:List Str}{qual:Str}{scope:Scope}{f:Addr}{cd:Value}{A:Around}{outer:List Env}{s s1:Shared}{H:Hp}{E:XK}{us:List Value}{vs:List V}
  (S:ax N ps scope) (hd:A.handled=none) (e0:KD P w K mg base A outer s H) (hl:vs.length=ps.length) (r:dA vs us)
  (x:InCallC s s.heap.objs.size (bindL (envOfC qual scope s.heap.objs.size f cd).kindOf (ps.zip us) λ_=>none) (cellsFrom (s.heap.objs.size+1) scope.names []) (bindC (envOfC qual scope s.heap.objs.size f cd).kindOf (ps.zip us) λ_=>none) s1) :
  Vr (MX CX P w K mg base N qual scope f cd A outer s H E) [] (xk N vs) H s1:=by
 have hpl:ps.length<=N.length:=by have:=congrArg List.length S.pre;rw[abS]at this;omega
 obtain⟨h1,tk,rfl,hk⟩:=x.done;have noA:∀b:Addr,b∉(MX CX P w K mg base N qual scope f cd A outer s H E).ex:=λb z=>absurd (show b∈([]:List Addr)from z) x_
 refine⟨⟨e0.mod,S.kind,rfl,rfl,ZY _,λy z c h1 h2=>?_,λy hy=>?_,λy c _ h=>?_,λ_=>hd,Around.frames_deeper e0.frames,.inr ⟨rfl,rfl⟩,λb z=>absurd z (noA b),e0.bs,e0.bsz,λb _ _=>noA b,λb z=>absurd z (noA b),e0.funs,e0.frf,e0.tbs⟩,
  rfl,e0.bare,Un.kept hk,⟨_,x.toInCall.ns,λi y v h1 h2 h3=>?_⟩,λy c h=>⟨_,x.cell y c h⟩,e0.hok.fresh (ZY _),λy c h=>?_,λp hp=>absurd (show p∈([]:List (Addr×Obj))from hp) x_,e0.hok.kept hk,?_⟩
 . exact name_of_addr x.apart (abd h1) (abd h2)
 .
  have hy:scope.names.lookup y=some .cell∨scope.names.lookup y=some .free:=hy;rcases hy with hy|hy
  . exact Ed hy
  . exact absurd rfl (S.nofree _ (abd hy))
 . exact aa1 (x.above y c (abd h))
 .
  have hi:i<vs.length:=by
   unfold xk at h2;by_cases hi:i<vs.length
   . exact hi
   . rw[aal (by simpa using hi)]at h2;rw[List.getElem?_replicate]at h2;split at h2<;>cases h2
  have ha:vs[i]?=some v:=by
   unfold xk at h2;rw[aaG (by simpa using hi),ZZ]at h2
   cases e:vs[i]? with
   |none=>rw[e]at h2;cases h2
   |some a=>rw[e]at h2;cases h2;rfl
  obtain⟨u,hu,rv⟩:=r.get ha;have hp:ps[i]?=some y:=by rw[<- S.pre,List.getElem?_take_of_lt xL];exact h1
  have ndP:ps.Nodup:=by rw[<- S.pre];exact S.nd.sublist (List.take_sublist _ _)
  refine⟨u,rv,?_⟩;rcases S.par y (List.mem_of_getElem? hp)with k|k
  . exact .inl ⟨k,AB ndP hp hu k⟩
  . obtain⟨c,e⟩:=Ed (n:=s.heap.objs.size+1) k;refine .inr ⟨.inl k,c,e,?_⟩;have q:=x.cell y c e;rw[AC ndP hp hu (by show scope.names.lookup y≠_;rw[k];decide)]at q;exact q
 . exact .inl (e0.hok.fresh (aa1 (x.above y c (abd h))))
 . unfold xk;show _=N.length;rw[aaK,ZL,List.length_replicate];omega
theorem QB{CX:VO}{P:Program}{w:World}{K:W.Frag}{mg:Str->Option Value}{base:Heap}{k:Nat}{f:Addr}{name qual:Str}{params:Arguments}{body:List Stmt}{scope:Scope}{dV kV doc pm cdv ct oc:Value}{an od:Option Addr}
  {osl:Array (Option Value)} {N ps:List Str} {sp:Sp} (lk:K.lookup f=some ⟨oc,od,.func (W.fnOf name qual params body scope dV kV doc pm an cdv ct),osl⟩) (hcd:W.codeIn K cdv qual=true) (S:ax N ps scope)
  (len:∀vs H Q E,sp vs H Q E->vs.length=ps.length)
  (hbody:∀(A:Around)(outer:List Env)(s:Shared)(H:Hp)(vs:List V)(Q:VK)(E:XK),oI k (A.deeper (envOfC qual scope s.heap.objs.size f cdv))->sp vs H Q E ->
   ∃t,Vu (MX CX P w K mg base N qual scope f cdv A outer s H E) body t/\t {nx:=λ_ H'=>Q .non H',rt:=Q} (xk N vs) H) :
  FnOk P w K mg base CX (k+1) f (W.fnOf name qual params body scope dV kV doc pm an cdv ct) ps sp:=by
 refine⟨len,λA outer s H args us vs Q E hr e0 hb r hsp=>?_⟩;have hl:=len _ _ _ _ hsp;have KX:K.In s.heap:=e0.mod.kin.keeps λb o e=>(e0.bs b o e).1;have lim:s.heap.NoLimit:=e0.mod.nolimit.keeps λb o e=>(e0.bs b o e).1
 have hkind:∀y∈ps.zip us,scope.names.lookup y.1=some .local∨(scope.names.lookup y.1=some .cell/\((cellsFrom (s.heap.objs.size+1) scope.names []).lookup y.1).isSome=true):=fun⟨n,v⟩ hy=>by
  rcases S.par n (abW hy).1 with q|q
  . exact .inl q
  . exact .inr ⟨q,W.cellsFrom_some _ _ _ (.inl q)⟩
 refine codeAny_call_function hr.depth (KX _ _ lk) rfl S.co S.gen rfl (W.codeRec_of KX hcd) (hb _ _ _ _ ?_);refine wpAny_newFunctionEnv_cells S.kind hkind λenv he s1 x=>?_;subst he;refine⟨lim.keeps x.toInCall.keep,codeAny_func ?_⟩;obtain⟨t,ht,hq⟩:=hbody A outer s H vs Q E (hr.deeper _) hsp;have I:Vr (MX CX P w K mg base N qual scope f cdv A outer s H E) [] (xk N vs) H s1:=G8 S hr.hd e0 hl r x;refine abn (ht [] s1 (xk N vs) H _ I hq) (λfl s' hs=>?_) λe s' hs=>hs
 have Vx:∀{σ':St}{H':Hp}{v:V}{u:Value},Vr (MX CX P w K mg base N qual scope f cdv A outer s H E) [] σ' H' s'->cO v u->Q v H'->CE outer P w H s Q u s' :=
  λ{σ' H' v u} J rv q=>⟨v,H',J.os,J.bare,J.base,J.hok,rv,q⟩
 cases fl with
 | ret u =>
  obtain⟨v,σ',H',J,rv,q⟩:=hs;exact Vx J rv q
 | next =>
  obtain⟨σ',H',J,q⟩:=hs;exact Vx (v:=V.non) (u:=Value.none) J rfl q
 | brk =>
  obtain⟨_,_,_,q⟩:=hs;exact False.elim q
 | cont =>
  obtain⟨_,_,_,q⟩:=hs;exact False.elim q
section
variable{X:Cx}{x:Str}{p pos:Pos}{e:Expr}{es:List Expr}{t:TA}{id:String}{r:List V->Hp->VK->Prop}
def VP(r:List V->Hp->VK->Prop)(t:TA):TE:=λσ H Q=>t σ H λvs H1=>r vs H1 Q
theorem Ee(hc:lJ X (.builtin id) r)(hg:Gl X x)(hm:X.mg x=none)(hv:bootBuiltins x=some (.builtin id))(ha:PA X (e::es) t) (hn:x≠"__name__":=by decide) (hdb:aet x:=by decide)
  (he:starEach (e::es) X.env=(false,eval e X.env)::starEach es X.env:=by rfl) (hpl:(backTo pos (starEach es X.env)).any (·.1)=false:=by rfl):PE X (.Call (.Name x p) (e::es) [] pos) (VP r t):=by
 intro ab s σ H Q I h;refine abF (p9 I hg hm hv ?_ hn hdb);exact PyProof.Rows.callWith_builtin1 (Vv (ha pos ab s σ H _ I h) λus s1 ⟨vs,H1,I1,r1,q1⟩=>hc ab s1 σ H1 vs us Q I1 r1 q1) he hpl
end
end L2
namespace HT
open PySem PyProof.Rows
section
variable{prog:Program}{w:World}{A:Around}{E:Value->Shared->Prop}{s:Shared}
noncomputable def sIx(n d:Nat):Option Int->Nat
 |none=>d
 |some v=>if v<0 then(v+(n:Int)).toNat else min v.toNat n
theorem QC(n d:Nat)(hd:d<=n)(o:Option Int):sIx n d o<=n:=by
 cases o with
 |none=>exact hd
 | some v =>
  show(if v<0 then(v+(n:Int)).toNat else min v.toNat n)<=n
  by_cases hv:v<0
  . rw[if_pos hv];omega
  . rw[if_neg hv];exact Nat.min_le_right _ _
theorem G9(v:Int)(n d:Nat):(if v<0 then max (v+(n:Int)) 0 else min v (n:Int))=((sIx n d (some v):Nat):Int):=by
 show(if v<0 then max (v+(n:Int)) 0 else min v (n:Int))=(((if v<0 then(v+(n:Int)).toNat else min v.toNat n):Nat):Int)
 by_cases hv:v<0
 . simp only[if_pos hv];omega
 . simp only[if_neg hv];omega
theorem FN(lo hi:Option Int)(n:Nat):Builtin.Slice.sliceAdjust lo hi 1 (n:Int)=(((sIx n 0 lo:Nat):Int),((sIx n n hi:Nat):Int)):=by
 have h1:¬((1:Int)<0):=by omega
 unfold Builtin.Slice.sliceAdjust;simp only[h1,aa3];refine Prod.ext ?_ ?_
 .
  cases lo with
  |none=>rfl
  |some v=>exact G9 v n 0
 .
  cases hi with
  |none=>rfl
  |some v=>exact G9 v n n
theorem FO(i j:Nat):Builtin.Slice.slicePlaces (i:Int) (j:Int) 1=j-i:=by
 unfold Builtin.Slice.slicePlaces;have h1:(1:Int) > 0:=by omega
 simp only[h1,aaX,Int.ediv_one];split<;>omega
theorem yc{v:Value}{o:Option Int}{Q:Option Int->Shared->Prop}(p:IsPart v o)(h:Q o s):wpAny (model prog w) A (Builtin.Slice.slicePartIndex v) Q E s:=by
 cases p with
 |none=>exact slicePart_none h
 |int i t=>exact slicePart_int h
theorem tR{sl:Addr}{vl vu:Value}{lo hi:Option Int}{n:Nat}{Q:Int×Int×Nat->Shared->Prop}(hs:s.heap.IsSliceOf sl vl vu .none)(pl:IsPart vl lo)(pu:IsPart vu hi)
  (h:Q (((sIx n 0 lo:Nat):Int),1,sIx n n hi-sIx n 0 lo) s):wpAny (model prog w) A (Builtin.Slice.sliceApplied (.ref sl) (pure (n:Int))) Q E s:=by
 obtain⟨os,hos,hcs,hds⟩:=id hs;unfold Builtin.Slice.sliceApplied Builtin.Slice.sliceFields;refine ZQ (ZQ (wpAny_field hos hds (x:=vl) rfl (ZQ (wpAny_field hos hds (x:=vu) rfl (ZQ (wpAny_field hos hds (x:=.none) rfl (aai ?_)))))));refine ZQ (slicePart_none ?_)
 show wpAny _ _ (if((1:Int) == 0)=true then _ else _) _ _ s
 rw[if_neg (by decide)];refine ZQ (yc pl (ZQ (yc pu (ZQ (aai ?_)))))
 show wpAny _ _ (match Builtin.Slice.sliceAdjust lo hi 1 (n:Int)with|(lo,hi)=>pure (lo,(1:Int),Builtin.Slice.slicePlaces lo hi 1)) _ _ s
 rw[FN lo hi n];show wpAny _ _ (pure (((sIx n 0 lo:Nat):Int),(1:Int),Builtin.Slice.slicePlaces ((sIx n 0 lo:Nat):Int) ((sIx n n hi:Nat):Int) 1)) _ _ s;rw[FO];exact aai h
theorem KF(xs:Array Value)(i k:Nat):((List.range k).filterMap λ(m:Nat)=>xs[((i:Int)+(m:Int)*1).toNat]?).toArray=((xs.toList.drop i).take k).toArray:=by
 have e:(λ(m:Nat)=>xs[((i:Int)+(m:Int)*1).toNat]?)=λm=>xs[i+m]?:=by
  funext m
  have:((i:Int)+(m:Int)*1).toNat=i+m:=by omega
  rw[this]
 rw[e];have:=pick_run xs i k;rw[List.filterMap_map]at this;have e2:((λx=>xs[x]?) ∘ λx=>i+x)=λm=>xs[i+m]?:=rfl;rw[e2]at this;rw[this]
theorem getItem_tuple_cut{t sl:Addr}{items:Array Value}{vl vu:Value}{lo hi:Option Int}{Q:Value->Shared->Prop}(ht:IsTup s.heap t items)(hs:s.heap.IsSliceOf sl vl vu .none)(pl:IsPart vl lo)(pu:IsPart vu hi)
  (hw:¬(sIx items.size 0 lo=0/\sIx items.size items.size hi=items.size))
  (h:Q (.ref s.heap.objs.size) {s with heap:=s.heap.push {cls:=.type "tuple",data:=.seq ((items.toList.drop (sIx items.size 0 lo)).take (sIx items.size items.size hi-sIx items.size 0 lo)).toArray} })
  (hsz:items.size<=sizeLine):wpAny (model prog w) A (getItem (.ref t) (.ref sl)) Q E s:=by
 have htake:sizeOk (.seq ((items.toList.drop (sIx items.size 0 lo)).take (sIx items.size items.size hi-sIx items.size 0 lo)).toArray):=by show((items.toList.drop (sIx items.size 0 lo)).take (sIx items.size items.size hi-sIx items.size 0 lo)).toArray.size<=sizeLine;rw[aab,abS,abB,Array.length_toList];omega
 have hj:sIx items.size items.size hi<=items.size:=QC _ _ (ZY _) hi;obtain⟨os,hos,hcs,hds⟩:=id hs;have hTs:s.TypeIs (.ref sl) "slice":=⟨os,hos,hcs⟩;unfold getItem
 try with_reducible refine abr ?_
 first|refine ZQ (aai ?_)|skip
 refine ZQ (wpAny_sequenceKey ht.typeIs xp ?_)
 refine ZQ (wpAny_callSpecial?_slot (name:=Str.ofString "__getitem__") ht.typeIs PyProof.Rows.slot_tuple_getitem
  (wpAny_call_entry PyProof.Rows.slot_tuple_getitem ht.typeIs entry_tuple_getitem ?_ (args_tuple_getitem _ _)))
 show wpAny _ _ (Builtin.Tuple.tupleItemsOf (.ref t) >>= _) _ _ s;refine ZQ (tupleItemsOf_ ht ?_);refine ZQ (wpAny_typeOf hTs ?_);rw[if_pos (by decide)];refine ZQ (tR hs pl pu ?_);have hno:¬((((sIx items.size 0 lo:Nat):Int) == 0 && (1:Int) == 1 && (sIx items.size items.size hi-sIx items.size 0 lo) == items.size)=true):=by intro q;rw[Z5,Z5]at q;have q1:((sIx items.size 0 lo:Nat):Int)=0:=eq_of_beq q.1.1;have q2:sIx items.size items.size hi-sIx items.size 0 lo=items.size:=eq_of_beq q.2;exact hw ⟨xL,xL⟩
 show wpAny _ _ (if(((sIx items.size 0 lo:Nat):Int) == 0 && (1:Int) == 1 && (sIx items.size items.size hi-sIx items.size 0 lo) == items.size)=true then _ else _) _ _ s
 rw[if_neg hno,KF]
 first
  |exact ZQ (m:=Builtin.Tuple.tupleExact _) (abM (aai ⟨_,rfl,aai h⟩) htake)
  |exact ZQ (m:=Builtin.Tuple.tupleExact _) (abM (ZQ (aai (aai ⟨_,rfl,aai h⟩))) htake)
  |exact ZQ (ZQ (m:=Builtin.Tuple.tupleExact _) (abM (aai (aai ⟨_,rfl,aai h⟩)) htake))
  |exact ZQ (ZQ (m:=Builtin.Tuple.tupleExact _) (abM (aai ⟨_,rfl,aai h⟩) htake))
end
end HT
namespace L2
open PySem PySem.Spec PyProof.Rows
noncomputable abbrev TO:=St->Hp->(Option Int->Hp->Prop)->Prop
def PO(X:Cx)(e:Option Expr)(t:TO):Prop :=
 ∀(ab:List (Addr×Obj))(s:Shared)(σ:St)(H:Hp)(Q:Option Int->Hp->Prop),Vr X ab σ H s->t σ H Q ->
  wpAny (model X.prog X.w) X.A (evalPart e X.env) (λu s'=>∃o H',Vr X ab σ H' s'/\IsPart u o/\Q o H') X.xe s
noncomputable def NQ:TO:=λ_ H Q=>Q none H
noncomputable def SA(t:TE):TO:=λσ H Q=>t σ H λx H1=>∃i,x=.int i/\Q (some i) H1
section
variable{X:Cx}{e:Expr}{te:TE}{lo hi:Option Expr}{tl th:TO}{pos p2:Pos}
theorem NR:PO X none NQ:=by intro ab s σ H Q I h;rw[evalPart_none];exact aai ⟨none,H,I,.none,h⟩
theorem NS(h:PE X e te):PO X (some e) (SA te):=by intro ab s σ H Q I hw;rw[evalPart_some];refine Vv (h ab s σ H _ I hw) λu s1 ⟨x,H1,I1,r1,q1⟩=>?_;obtain⟨i,rfl,q⟩:=q1;obtain⟨t,rfl⟩:=r1;exact⟨some i,H1,I1,.int i t,q⟩
def VQ(X:Cx)(r:V->Option Int->Option Int->Hp->VK->Prop):Prop :=
 ∀(ab:List (Addr×Obj))(s:Shared)(σ:St)(H:Hp)(x:V)(v vl vu:Value)(lo hi:Option Int)(sl:Addr)(Q:VK),Vr X ab σ H s->cO x v->s.heap.IsSliceOf sl vl vu .none->IsPart vl lo->IsPart vu hi->r x lo hi H Q ->
  ∃ T id,typeLookup (.type T) "__getitem__"=pure (some (.builtin id))/\s.TypeIs v T/\wpAny (model X.prog X.w) X.A (getItem v (.ref sl)) (EP X ab σ Q) X.xe s
theorem VQ.or{r r':V->Option Int->Option Int->Hp->VK->Prop}(h:VQ X r)(h':VQ X r'):VQ X (λx lo hi H Q=>r x lo hi H Q∨r' x lo hi H Q):=by
 intro ab s σ H x v vl vu lo hi sl Q I rx hs pl pu q;rcases q with q|q
 . exact h ab s σ H x v vl vu lo hi sl Q I rx hs pl pu q
 . exact h' ab s σ H x v vl vu lo hi sl Q I rx hs pl pu q
def VR(r:V->Option Int->Option Int->Hp->VK->Prop)(te:TE)(tl th:TO):TE:=λσ H Q=>te σ H λx H1=>tl σ H1 λl H2=>th σ H2 λu H3=>r x l u H3 Q
theorem KG{r:V->Option Int->Option Int->Hp->VK->Prop}(hr:VQ X r)(he:PE X e te)(hl:PO X lo tl)(hu:PO X hi th):PE X (.Subscript e (.Slice lo hi none p2) pos) (VR r te tl th):=by intro ab s σ H Q I h;refine Subscript_ (Vv (he ab s σ H _ I h) λv s1 ⟨x,H1,I1,r1,q1⟩=>?_);refine wpAny_Slice (Vv (hl ab s1 σ H1 _ I1 q1) λvl s2 ⟨l,H2,I2,pl,q2⟩=>Vv (hu ab s2 σ H2 _ I2 q2) λvu s3 ⟨u,H3,I3,pu,q3⟩=>?_);rw[evalPart_none];refine aai ?_;have I4:Vr X ab σ H3 {s3 with heap:=s3.heap.push {cls:=.type "slice",data:=.fields #[vl,vu,.none] } }:=I3.kept (t':=s3.toks) λb ob q=>ZO _ q;obtain⟨T,id,hT,ht,hg⟩:=hr ab {s3 with heap:=s3.heap.push {cls:=.type "slice",data:=.fields #[vl,vu,.none] } } σ H3 x v vl vu l u s3.heap.objs.size Q I4 r1 (Heap.IsSliceOf.new ..) pl pu q3;show wpAny (model X.prog X.w) X.A (subscriptTail e (.Slice lo hi none p2) v (.ref s3.heap.objs.size)) (EP X ab σ Q) X.xe {s3 with heap:=s3.heap.push {cls:=.type "slice",data:=.fields #[vl,vu,.none] } };exact tail_any (ops:=[.ref s3.heap.objs.size,v]) ht hT hg (by with_unfolding_all rfl)
noncomputable def MY(xs:List V)(lo hi:Option Int):List V:=(xs.drop (HT.sIx xs.length 0 lo)).take (HT.sIx xs.length xs.length hi-HT.sIx xs.length 0 lo)
theorem uH(xs:List V)(lo hi:Option Int):(MY xs lo hi).length<=xs.length:=by unfold MY;rw[abS,abB];omega
def US(K:W.Frag):V->Option Int->Option Int->Hp->VK->Prop:=λx lo hi H Q=>∃a xs,x=.ref a/\Vz K H a xs /\
 ¬(HT.sIx xs.length 0 lo=0/\HT.sIx xs.length xs.length hi=xs.length)/\∀p,H p=none->Q (.ref p) (Vj H p (.tup (MY xs lo hi)))
theorem QD:VQ X (US X.K):=by
 intro ab s σ H x v vl vu lo hi sl Q I rx hs pl pu h;obtain⟨a,xs,rfl,hx,hw,q⟩:=h;cases rx;obtain⟨its,r,ht,hz⟩:=I.tuple hx;have b0:its.toArray.size=xs.length:=by rw[aab];exact r.length.symm
 refine⟨"tuple",_,PyProof.Rows.slot_tuple_getitem.lookup,ht.typeIs,?_⟩;refine HT.getItem_tuple_cut ht hs pl pu (by rw[b0];exact hw) ?_ (by rw[b0];exact hz);rw[b0];refine⟨.ref s.heap.objs.size,_,I.laid (t':=s.toks) (o:=.tup (MY xs lo hi)) (λb ob q=>ZO _ q) (ZY _) ?_,rfl,q _ (I.hok.fresh (ZY _))⟩;exact⟨ZR (uH xs lo hi) hz,_,(r.drop (HT.sIx xs.length 0 lo)).take (HT.sIx xs.length xs.length hi-HT.sIx xs.length 0 lo),IsTup.new _ _⟩
end
noncomputable def VS(n:Nat)(i:Int):Option Nat:=if 0<=i then(if i<n then some i.toNat else none)else if -(n:Int)<=i then some (i+n).toNat else none
noncomputable def VT{α:Type}(xs:List α)(i:Int):Option α:=(VS xs.length i).bind λj=>xs[j]?
theorem Ha{n:Nat}{i:Int}{j:Nat}(h:VS n i=some j):seqIndex? i n=some j/\j<n/\-(n:Int)<=i/\i<n:=by
 unfold VS at h;by_cases h0:0<=i
 .
  rw[if_pos h0]at h;by_cases h1:i<n
  . rw[if_pos h1]at h;have e:i.toNat=j:=aaf h;exact⟨by rw[seqIndex_of h0 h1,e],xL,xL,h1⟩
  . rw[if_neg h1]at h;cases h
 .
  rw[if_neg h0]at h;by_cases h1 : -(n:Int)<=i
  . rw[if_pos h1]at h;have e:(i+n).toNat=j:=aaf h;exact⟨by rw[seqIndex_neg xL h1,e],xL,h1,xL⟩
  . rw[if_neg h1]at h;cases h
theorem Cy{α:Type}{xs:List α}{i:Int}{v:α}(h:VT xs i=some v):∃j,seqIndex? i xs.length=some j/\xs[j]?=some v/\j<xs.length/\-(xs.length:Int)<=i/\i<xs.length:=by
 unfold VT at h
 cases e:VS xs.length i with
 |none=>rw[e]at h;cases h
 | some j =>
  rw[e]at h;obtain⟨h1,h2,h3,h4⟩:=Ha e;exact⟨j,h1,h,h2,h3,h4⟩
theorem j4{α:Type}{xs:List α}{j:Nat}{v:α}(h:xs[j]?=some v):VT xs (j:Int)=some v:=by
 have hj:j<xs.length:=(so.mp h).1;have e:VS xs.length (j:Int)=some j:=by unfold VS;rw[if_pos (by omega),if_pos (by omega)];simp
 unfold VT;rw[e];exact h
def Cz(b:Expr):Prop:=∀o i,subscripted b false o i=operate [o,i] (getItem o i)
def VU(X:Cx)(r:R2):Prop :=
 ∀(value slice:Expr)(ab:List (Addr×Obj))(s:Shared)(σ:St)(H:Hp)(x y:V)(v u:Value)(Q:VK),Vr X ab σ H s->cO x v->cO y u->r x y H Q ->
  subscripted slice false v u=operate [v,u] (getItem v u)->wpAny (model X.prog X.w) X.A (subscriptTail value slice v u) (EP X ab σ Q) X.xe s
def VV(X:Cx)(id:String)(r:V->List V->Hp->VK->Prop):Prop :=
 ∀(ab:List (Addr×Obj))(s:Shared)(σ:St)(H:Hp)(x:V)(xs:List V)(v:Value)(us:List Value)(Q:VK),Vr X ab σ H s->cO x v->dA xs us->r x xs H Q ->
  wpAny (model X.prog X.w) X.A (call (.builtin id) (v::us)) (EP X ab σ Q) X.xe s
section
variable{X:Cx}{a b:Expr}{ta tb:TE}{pos:Pos}
theorem SB{r:R2}(hr:VU X r)(ha:PE X a ta)(hb:PE X b tb)(hs:Cz b):PE X (.Subscript a b pos) (VI r ta tb):=by intro ab s σ H Q I h;exact Subscript_ (UP ha hb I h λv u s2 x y H2 I2 rx ry q=>hr a b ab s2 σ H2 x y v u Q I2 rx ry q (hs _ _))
def UT(K:W.Frag):R2:=λx y H Q=>∃p xs i v,x=.ref p/\y=.int i/\Vy K H p xs/\VT xs i=some v/\Q v H
def UU(K:W.Frag):R2:=λx y H Q=>∃p xs i v,x=.ref p/\y=.int i/\Vz K H p xs/\VT xs i=some v/\Q v H
def UV:R2:=λx y H Q=>∃z i c,x=.str z/\y=.int i/\z.length<=sizeLine/\VT z.cps.toList i=some c/\Q (.str ⟨#[c]⟩) H
theorem Hb:VU X (UT X.K):=by
 intro value slice ab s σ H x y v u Q I rx ry h hs;obtain⟨p,xs,i,z,rfl,rfl,hq,he,q⟩:=h;cases rx;obtain⟨t,rfl⟩:=ry;obtain⟨its,r,pl,hz⟩:=I.list hq;obtain⟨j,h1,h2,h3,h4,h5⟩:=Cy he;obtain⟨w,ew,rw'⟩:=r.get h2;have hl:=r.length;have hn:=yb;have Vx:EP X ab σ Q w s:=⟨z,H,I,rw',q⟩;by_cases h0:0<=i
 .
  have hj:i.toNat=j:=by rw[seqIndex_of h0 h5]at h1;exact aaf h1
  exact item_listR pl.isList h0 xL (by rw[hj];simpa using ew) Vx hs
 .
  have hj:(i+(its.toArray.size:Int)).toNat=j:=by rw[seqIndex_neg xL h4]at h1;rw[aab,<- hl];exact aaf h1
  exact subscriptTail_builtinR (x:=w) pl.isList.typeIs slot_list_getitem.lookup
   (wpAny_getItem_list_neg (Q:=λr s'=>r=w/\EP X ab σ Q r s') pl.isList xL (by rw[aab]<;>omega) xL (by rw[hj];simpa using ew) ⟨rfl,Vx⟩) hs
theorem QE:VU X (UU X.K):=by
 intro value slice ab s σ H x y v u Q I rx ry h hs;obtain⟨p,xs,i,z,rfl,rfl,hq,he,q⟩:=h;cases rx;obtain⟨t,rfl⟩:=ry;obtain⟨its,r,pl,hz⟩:=I.tuple hq;obtain⟨j,h1,h2,h3,h4,h5⟩:=Cy he;obtain⟨w,ew,rw'⟩:=r.get h2;have hl:=r.length;have hn:=yb;have Vx:EP X ab σ Q w s:=⟨z,H,I,rw',q⟩
 exact subscriptTail_builtinR (x:=w) pl.typeIs slot_tuple_getitem.lookup
  (getItem_tuple (j:=j) (Q:=λr s'=>r=w/\EP X ab σ Q r s') pl xL xL (by rw[aab,<- hl];exact h1) (by simpa using ew) ⟨rfl,Vx⟩) hs
theorem QF:VU X UV:=by
 intro value slice ab s σ H x y v u Q I rx ry h hs;obtain⟨z,i,c,rfl,rfl,hz,he,q⟩:=h;obtain⟨t,rfl⟩:=rx;obtain⟨t',rfl⟩:=ry;obtain⟨j,h1,h2,h3,h4,h5⟩:=Cy he;have hl:z.cps.toList.length=z.length:=by simp[Str.length]
 rw[hl]at h1 h4 h5;have hn:=yb
 exact tail_any (typeIs_str s z t) slot_str_getitem.lookup (getItem_str (c:=c) (by
  have e1:decide (i < -(2^63:Int))=false:=ZP xL;have e2:decide (i≥2^63)=false:=ZP xL
  rw[e1,e2,Bool.or_false]) (by rw[h1];simpa using h2) ⟨.str ⟨#[c]⟩,H,I.tok _,⟨_,rfl⟩,q⟩) hs
theorem FP(its:List Value)(n j:Nat)(u:Value):Obj.mapSeq (·.setIfInBounds j u) {cls:=.type "list",data:=.seq its.toArray n}={cls:=.type "list",data:=.seq (its.set j u).toArray n}:=by simp[Obj.mapSeq]
theorem Vr.lst{ab:List (Addr×Obj)}{σ:St}{H:Hp}{s:Shared}{p:Addr}{xs:List V}(I:Vr X ab σ H s)(h:H p=some (.lst xs)) :
  ∃(its:List Value)(n:Nat),dA xs its/\s.heap.get? p=some {cls:=.type "list",data:=.seq its.toArray n}/\xs.length<=sizeLine:=by
 obtain⟨z,its,n,r,e⟩:=I.hok p _ h;exact⟨its,n,r,e,z⟩
theorem Vr.lstUpd{ab:List (Addr×Obj)}{σ:St}{H:Hp}{s:Shared}{p:Addr}{xs ys:List V}{its its':List Value}{n n':Nat}{f:Obj->Obj}(I:Vr X ab σ H s)(h:H p=some (.lst xs))
  (ho:s.heap.get? p=some {cls:=.type "list",data:=.seq its.toArray n}) (hf:f {cls:=.type "list",data:=.seq its.toArray n}={cls:=.type "list",data:=.seq its'.toArray n' }) (r:dA ys its') (hz:ys.length<=sizeLine) (t:Nat) :
  Vr X ab σ (Vj H p (.lst ys)) {s with heap:=s.heap.update p f,toks:=t}:=by
 have e:(s.heap.update p f).get? p=some {cls:=.type "list",data:=.seq its'.toArray n' }:=by rw[Heap.get?_update_self f ho (by rw[hf]<;>rfl),hf]
 refine I.write (x:=p) (e:=p) (by rw[h];trivial) (.inl rfl) (λb u hb q=>(Heap.get?_update_other _ _ (abe hb)).trans q) ⟨_,e⟩ ?_;exact⟨hz,its',n',r,e⟩
def SC:V->V->V->Hp->(Hp->Prop)->Prop:=λo i v H Q=>∃p xs k j,o=.ref p/\i=.int k/\H p=some (.lst xs)/\VS xs.length k=some j/\Q (Vj H p (.lst (xs.set j v)))
theorem KH:Uh X SC:=by
 intro ab s σ H o i v ov iv u Q I ro ri rv h;obtain⟨p,xs,k,j,rfl,rfl,hp,hj,q⟩:=h;cases ro;obtain⟨t,rfl⟩:=ri;obtain⟨its,n,r,ho,hz⟩:=I.lst hp;obtain⟨h1,h2,h3,h4⟩:=Ha hj;have hl:=r.length;have hn:=yb
 have I':Vr X ab σ (Vj H p (.lst (xs.set j v))) {s with heap:=s.heap.update p (Obj.mapSeq (·.setIfInBounds j u)) } :=
  I.lstUpd hp ho (FP its n j u) (r.set rv j) (by rw[abg];exact hz) s.toks
 by_cases h0:0<=k
 .
  have hk:k.toNat=j:=by rw[seqIndex_of h0 h4]at h1;exact aaf h1
  exact W.ki_setAt ho h0 xL (by rw[aab,<- hl];exact h4) (by rw[hk];exact⟨_,I',q⟩)
 .
  have hk:(k+(its.toArray.size:Int)).toNat=j:=by rw[seqIndex_neg xL h3]at h1;rw[aab,<- hl];exact aaf h1
  exact W.ki_setBack ho xL (by rw[aab,<- hl];exact h3) xL (by rw[hk];exact⟨_,I',q⟩)
theorem AD(lo hi:Option Int)(n:Nat):(sliceBounds lo hi none n).1=((HT.sIx n 0 lo:Nat):Int)/\(sliceBounds lo hi none n).2.1=((HT.sIx n n hi:Nat):Int)/\(sliceBounds lo hi none n).2.2=1:=by
 refine⟨?_,?_,rfl⟩
 .
  cases lo with
  |none=>simp[sliceBounds,HT.sIx]
  | some i =>
   simp only[sliceBounds,HT.sIx,Option.getD_none,show(1:Int) > 0 by decide,aaX];by_cases h:i<0
   . simp only[h,aaX]<;>omega
   . simp only[h,aa3]<;>omega
 .
  cases hi with
  |none=>simp[sliceBounds,HT.sIx]
  | some i =>
   simp only[sliceBounds,HT.sIx,Option.getD_none,show(1:Int) > 0 by decide,aaX];by_cases h:i<0
   . simp only[h,aaX]<;>omega
   . simp only[h,aa3]<;>omega
theorem yI(its:List Value)(lo hi:Option Int):slicePick its.toArray lo hi none=((its.drop (HT.sIx its.length 0 lo)).take (HT.sIx its.length its.length hi-HT.sIx its.length 0 lo)).toArray:=by obtain⟨h1,h2,h3⟩:=AD lo hi its.toArray.size;unfold slicePick;rw[h1,h2,h3];simp only[sliceRange_one,pick_run,aab]<;>rfl
def UW(K:W.Frag):V->Option Int->Option Int->Hp->VK->Prop:=λx lo hi H Q=>∃a xs,x=.ref a/\Vy K H a xs/\∀p,H p=none->Q (.ref p) (Vj H p (.lst (MY xs lo hi)))
theorem NT:VQ X (UW X.K):=by intro ab s σ H x v vl vu lo hi sl Q I rx hs pl pu h;obtain⟨a,xs,rfl,hx,q⟩:=h;cases rx;obtain⟨its,r,ht,hz⟩:=I.list hx;have b0:=r.length;refine⟨"list",_,slot_list_getitem.lookup,ht.isList.typeIs,?_⟩;refine wpAny_getItem_list_slice ht.isList hs pl pu .none x_ ?_ (by rw[aab]<;>omega);rw[yI,<- b0];refine⟨.ref s.heap.objs.size,_,I.laid (t':=s.toks) (o:=.lst (MY xs lo hi)) (λb ob q=>ZO _ q) (ZY _) ?_,rfl,q _ (I.hok.fresh (ZY _))⟩;exact⟨ZR (uH xs lo hi) hz,_,0,(r.drop (HT.sIx xs.length 0 lo)).take (HT.sIx xs.length xs.length hi-HT.sIx xs.length 0 lo),aah _ rfl⟩
noncomputable def xm:V->Bool
 |.non=>true
 |.bl _=>true
 |.int _=>true
 |.str _=>true
 |_=>false
noncomputable def VW:V->V->Bool
 |.non,.non=>true
 |.bl a,.bl b=>a == b
 |.bl a,.int b=>(if a then 1 else 0) == b
 |.int a,.bl b=>a == (if b then 1 else 0)
 |.int a,.int b=>a == b
 |.str a,.str b=>a == b
 |_,_=>false
theorem QG{A:Around}{s:Shared}{y x:V}{u v:Value}(ry:cO y u)(rx:cO x v)(fy:xm y=true)(fx:xm x=true):SeqAt.EqAt A s u v (VW y x):=by
 cases y with
 | non =>
  cases ry
  cases x with
  |non=>cases rx;exact SeqAt.EqAt.same _
  |bl b=>cases rx;exact SeqAt.EqAt.none_bool b
  |int b=>obtain⟨t,rfl⟩:=rx;exact SeqAt.EqAt.none_int b t
  |str b=>obtain⟨t,rfl⟩:=rx;exact SeqAt.EqAt.none_str b t
  |_=>exact absurd (show false=true from fx) aaF
 | bl a =>
  cases ry
  cases x with
  |non=>cases rx;exact SeqAt.EqAt.bool_none a
  |bl b=>cases rx;exact SeqAt.EqAt.bool_bool a b
  |int b=>obtain⟨t,rfl⟩:=rx;exact SeqAt.EqAt.bool_int a b t
  |str b=>obtain⟨t,rfl⟩:=rx;exact SeqAt.EqAt.bool_str a b t
  |_=>exact absurd (show false=true from fx) aaF
 | int a =>
  obtain⟨t',rfl⟩:=ry
  cases x with
  |non=>cases rx;exact SeqAt.EqAt.int_none a t'
  |bl b=>cases rx;exact SeqAt.EqAt.int_bool a t' b
  |int b=>obtain⟨t,rfl⟩:=rx;exact SeqAt.EqAt.int_int a t' b t
  |str b=>obtain⟨t,rfl⟩:=rx;exact SeqAt.EqAt.int_str a t' b t
  |_=>exact absurd (show false=true from fx) aaF
 | str a =>
  obtain⟨t',rfl⟩:=ry
  cases x with
  |non=>cases rx;exact SeqAt.EqAt.str_none a t'
  |bl b=>cases rx;exact SeqAt.EqAt.str_bool a t' b
  |int b=>obtain⟨t,rfl⟩:=rx;exact SeqAt.EqAt.str_int a t' b t
  |str b=>obtain⟨t,rfl⟩:=rx;exact SeqAt.EqAt.str_str a t' b t
  |_=>exact absurd (show false=true from fx) aaF
 |_=>exact absurd (show false=true from fy) aaF
noncomputable def VX(x:V)(u:Value):Bool:=match u with
 |.none=>VW .non x
 |.bool b=>VW (.bl b) x
 |.int i _=>VW (.int i) x
 |.str z _=>VW (.str z) x
 |_=>false
theorem MZ{x y:V}{u:Value}(r:cO y u)(f:xm y=true):VX x u=VW y x:=by
 cases y with
 |non=>cases r;rfl
 |bl b=>cases r;rfl
 |int i=>obtain⟨t,rfl⟩:=r;rfl
 |str z=>obtain⟨t,rfl⟩:=r;rfl
 |_=>exact absurd (show false=true from f) aaF
theorem uI{x:V}:∀{xs:List V}{us:List Value},dA xs us->xs.all xm=true->us.any (VX x)=xs.any λy=>VW y x
 |_,_,.nil,_=>rfl
 | y::xs,u::us,.cons r t,f=>by rw[abP,Z5]at f;rw[List.any_cons,List.any_cons,MZ r f.1,uI t f.2]
theorem qa{A:Around}{s:Shared}{x:V}{v:Value}(rx:cO x v)(fx:xm x=true):∀{xs:List V}{us:List Value},dA xs us->xs.all xm=true->∀u∈us,SeqAt.EqAt A s u v (VX x u)
 |_,_,.nil,_=>λu hu=>by cases hu
 | y::xs,u::us,.cons r t,f=>λu' hu=>by
  rw[abP,Z5]at f;rcases ZU.mp hu with rfl|hu
  . rw[MZ r f.1];exact QG r rx f.1 fx
  . exact qa rx fx t f.2 u' hu
noncomputable def VY(x:V)(xs:List V):Bool:=xs.any λy=>VW y x
def VZ(K:W.Frag)(neg:Bool):R2:=λx y H Q=>∃p xs,y=.ref p/\(Vy K H p xs∨Vz K H p xs)/\xm x=true/\xs.all xm=true/\Q (.bl (if neg then !VY x xs else VY x xs)) H
theorem Hc:VG X (compareOp .In) (VZ X.K false):=by
 intro ab s σ H x y v u Q I rx ry h;obtain⟨p,xs,rfl,hq,fx,fs,q⟩:=h;cases ry;rcases hq with hq|hq
 . obtain⟨its,r,pl,hz⟩:=I.list hq;refine SeqAt.in_listAt (VX x) pl.isList (λw hw=>qa rx fx r fs w (by simpa using hw)) ⟨.bl _,H,I,rfl,?_⟩;rw[show its.toArray.any (VX x)=its.any (VX x) by simp,uI r fs];exact q
 . obtain⟨its,r,pl,hz⟩:=I.tuple hq;refine SeqAt.in_tupleAt (VX x) pl (λw hw=>qa rx fx r fs w (by simpa using hw)) ⟨.bl _,H,I,rfl,?_⟩;rw[show its.toArray.any (VX x)=its.any (VX x) by simp,uI r fs];exact q
theorem AE:VG X (compareOp .NotIn) (VZ X.K true):=by
 intro ab s σ H x y v u Q I rx ry h;obtain⟨p,xs,rfl,hq,fx,fs,q⟩:=h;cases ry;rcases hq with hq|hq
 . obtain⟨its,r,pl,hz⟩:=I.list hq;refine SeqAt.notIn_listAt (VX x) pl.isList (λw hw=>qa rx fx r fs w (by simpa using hw)) ⟨.bl _,H,I,rfl,?_⟩;rw[show its.toArray.any (VX x)=its.any (VX x) by simp,uI r fs];exact q
 . obtain⟨its,r,pl,hz⟩:=I.tuple hq;refine SeqAt.notIn_tupleAt (VX x) pl (λw hw=>qa rx fx r fs w (by simpa using hw)) ⟨.bl _,H,I,rfl,?_⟩;rw[show its.toArray.any (VX x)=its.any (VX x) by simp,uI r fs];exact q
theorem sN:lJ X (.builtin "len") (λxs H Q=>∃ p ys,xs=[.ref p]/\(Vy X.K H p ys∨Vz X.K H p ys)/\Q (.int ys.length) H):=by
 intro ab s σ H xs us Q I r h;obtain⟨p,ys,rfl,hq,q⟩:=h;obtain⟨u,rfl,rx⟩:=xj r;cases rx;have hn:=yb;rcases hq with hq|hq
 . obtain⟨its,r',pl,hz⟩:=I.list hq;have b0:=r'.length;exact Calls.call_len_list pl.isList (by simp only[aab]<;>omega) ⟨.int ys.length,H,I.tok _,⟨s.toks+1,by rw[aab,b0]⟩,q⟩
 . obtain⟨its,r',pl,hz⟩:=I.tuple hq;have b0:=r'.length;exact len_tuple pl (by simp only[aab]<;>omega) ⟨.int ys.length,H,I.tok _,⟨s.toks+1,by rw[aab,b0]⟩,q⟩
theorem AF:lJ X (.builtin "len") (λxs H Q=>∃ z,xs=[.str z]/\z.length<=sizeLine/\Q (.int z.length) H):=by intro ab s σ H xs us Q I r h;obtain⟨z,rfl,hz,q⟩:=h;obtain⟨u,rfl,t,rfl⟩:=xj r;have hn:=yb;exact len_str xL ⟨.int z.length,H,I.tok _,⟨_,rfl⟩,q⟩
theorem lJ.or{f:Value}{r r':List V->Hp->VK->Prop}(h:lJ X f r)(h':lJ X f r'):lJ X f (λxs H Q=>r xs H Q∨r' xs H Q):=by
 intro ab s σ H xs us Q I rs q;rcases q with q|q
 . exact h ab s σ H xs us Q I rs q
 . exact h' ab s σ H xs us Q I rs q
theorem AG:lJ X (.type "list") (λxs H Q=>∃ p ys,xs=[.ref p]/\(Vy X.K H p ys∨Vz X.K H p ys)/\∀ l,H l=none->Q (.ref l) (Vj H l (.lst ys))):=by
 intro ab s σ H xs us Q I r h;obtain⟨p,ys,rfl,hq,q⟩:=h;obtain⟨u,rfl,rx⟩:=xj r;cases rx
 have Vx:∀(its:List Value),dA ys its->ys.length<=sizeLine->∀(h':Heap)(c':Nat),(∀b o',s.heap.get? b=some o'->h'.get? b=some o') ->
   h'.get? s.heap.objs.size=some {cls:=.type "list",dict:=none,data:=.seq its.toArray c',slots:=#[] }->EP X ab σ Q (.ref s.heap.objs.size) {s with heap:=h' }:=λits r' hz h' c' kp e =>
  ⟨.ref s.heap.objs.size,_,I.laid (t':=s.toks) kp (ZY _) (show jd X.prog X.w _ h' _ (.lst ys)from⟨hz,its,c',r',e⟩),rfl,q _ (I.hok.fresh (ZY _))⟩
 rcases hq with hq|hq
 . obtain⟨its,r',pl,hz⟩:=I.list hq;have b0:=r'.length;obtain⟨o,ho,hc,n,hd⟩:=pl.isList;exact call_list_seq p (.inl rfl) ho hc hd (λh' c' kp e=>Vx its r' hz h' c' kp e) (by simp only[aab]<;>omega)
 . obtain⟨its,r',pl,hz⟩:=I.tuple hq;have b0:=r'.length;obtain⟨o,ho,hc,n,hd⟩:=pl;exact call_list_seq p (.inr rfl) ho hc hd (λh' c' kp e=>Vx its r' hz h' c' kp e) (by simp only[aab]<;>omega)
def V0(K:W.Frag)(T:String)(x:V)(H:Hp):Prop:=match x with
 |.str _=>T="str"
 |.int _=>T="int"
 | .ref p=>(T="list"/\∃ xs,Vy K H p xs)∨(T="tuple"/\∃ o,K.lookup p=some o/\o.cls=.type "tuple"/\o.dict=none) ∨
   (T="dict"/\((∃ kvs,H p=some (.dK kvs))∨∃ kvs,H p=some (.dT kvs)))∨(T="set"/\∃ S n,H p=some (.set S n))
 |_=>False
theorem QH{ab:List (Addr×Obj)}{σ:St}{H:Hp}{s:Shared}{T:String}{x:V}{v:Value}(I:Vr X ab σ H s)(r:cO x v)(ty:V0 X.K T x H) :
  s.TypeIs v T/\∀a,v=.ref a->∃ob,s.heap.get? a=some ob/\ob.dict=none:=by
 cases x with
 | str z =>
  obtain⟨t,rfl⟩:=r;cases(show T="str" from ty);exact⟨typeIs_str s z t,λ_ e=>nomatch e⟩
 | int i =>
  obtain⟨t,rfl⟩:=r;cases(show T="int" from ty);exact⟨typeIs_int s i t,λ_ e=>nomatch e⟩
 | ref p =>
  cases r;rcases ty with⟨rfl,xs,hq⟩|⟨rfl,o,hk,hc,hd⟩|⟨rfl,hk⟩|⟨rfl,S,n,hk⟩
  . obtain⟨its,_,pl,_⟩:=I.list hq;refine⟨pl.isList.typeIs,λa e=>?_⟩;cases e;obtain⟨o,n,e,c,hd,_⟩:=pl;exact⟨o,e,hd⟩
  . refine⟨⟨o,I.kIn p o hk,hc⟩,λa e=>?_⟩;cases e;exact⟨o,I.kIn _ o hk,hd⟩
  .
   have z:∃o,s.heap.get? p=some o/\o.ExactDict:=by
    rcases hk with⟨kvs,hk⟩|⟨kvs,hk⟩
    . obtain⟨_,_,_,_,o,_,_,e,ex,_⟩:=I.hok p _ hk;exact⟨o,e,ex⟩
    . obtain⟨_,_,_,_,o,_,_,e,ex,_⟩:=I.hok p _ hk;exact⟨o,e,ex⟩
   obtain⟨o,e,ex⟩:=z;refine⟨⟨o,e,ex.1⟩,λa e2=>?_⟩;cases e2;exact⟨o,e,ex.2.1⟩
  . obtain⟨o,_,_,_,e,ex,_⟩:=I.hok p _ hk;refine⟨⟨o,e,ex.1⟩,λa e2=>?_⟩;cases e2;exact⟨o,e,ex.2.1⟩
 |_=>exact False.elim ty
def V1(K:W.Frag)(T:String)(r:V->List V->Hp->VK->Prop)(to:TE)(t:TA):TE:=λσ H Q=>to σ H λx H1=>V0 K T x H1/\t σ H1 λxs H2=>r x xs H2 Q
variable{o e:Expr}{es:List Expr}{to:TE}{t:TA}{name:Str}{apos cpos:Pos}{T id:String}{r:V->List V->Hp->VK->Prop}
theorem QI(pa:PlainAttrs T)(slot:Slot T name id) (hty:typeOf (.builtin id)=pure (.type "method_descriptor")) (hm:VV X id r) (ho:PE X o to) (ha:PA X (e::es) t)
  (hbase:attributeBase o name X.env (eval o X.env)=eval o X.env:=by rfl)
  (hfew:((backTo cpos (starEach (e::es) X.env)).all (λx=>!x.1) && (backToKw cpos (keywordEach [] X.env)).all (λx=>x.1.isSome)
   && decide ((e::es).length+([]:List Keyword).length+(if([]:List Keyword).isEmpty then 0 else 1)<30))=true:=by rfl)
  (hline:(apos.endLine == cpos.line)=true:=by rfl) (hs:starEach (e::es) X.env=(false,eval e X.env)::starEach es X.env:=by rfl) (hplain:(backTo cpos (starEach es X.env)).any (·.1)=false:=by rfl) :
  PE X (.Call (.Attribute o name apos) (e::es) [] cpos) (V1 X.K T r to t):=by
 intro ab s σ H Q I h;refine wpAny_Call_method_late hbase hfew hline rfl (Vv (ho ab s σ H _ I h) λv s1 ⟨x,H1,I1,r1,ty,q1⟩=>?_);obtain⟨h1,h2⟩:=QH I1 r1 ty;refine⟨T,id,pa,slot,hty,h1,h2,?_⟩;have hA:=ha cpos ab s1 σ H1 _ I1 q1;rw[hs]at hA ⊢;refine Calls.callWith_builtin (by show(false ||(backTo cpos (starEach es X.env)).any (·.1))=false;rw[hplain]<;>rfl) (Calls.evalArgs_plain ?_);exact Vv hA λus s2 ⟨vs,H2,I2,r2,q2⟩=>hm ab s2 σ H2 x vs v us Q I2 r1 r2 q2
/- xs.append(e),list.index on a module's tuple .. are VV facts of 06m -/
end
def V2(X:Cx)(id:String)(r:V->List V->Hp->VK->Prop):Prop :=
 ∀(ab:List (Addr×Obj))(s:Shared)(σ:St)(H:Hp)(x:V)(xs:List V)(v:Value)(us:List Value)(Q:VK),Vr X ab σ H s->cO x v->dA xs us->r x xs H Q ->
  wpAny (model X.prog X.w) X.A (call (.builtin id) (v::us)) (EP X ab σ Q) X.xe s
theorem dA.one:∀{x:V}{us:List Value},dA [x] us->∃u,us=[u]/\cO x u
 |_,_,.cons r .nil=>⟨_,rfl,r⟩
theorem dA.two:∀{x y:V}{us:List Value},dA [x,y] us->∃u v,us=[u,v]/\cO x u/\cO y v:=by
 intro x y us h
 cases h with
 | cons r h =>
  cases h with
  | cons q h =>
   cases h;exact⟨_,_,rfl,r,q⟩
section
variable{X:Cx}{ab:List (Addr×Obj)}{σ:St}{H:Hp}{s:Shared}{l:Addr}{xs ys:List V}
theorem Vr.lset{its its':List Value}{n:Nat}{f:Array Value->Array Value}{t':Nat}(I:Vr X ab σ H s)(hH:H l=some (.lst xs))
  (e:s.heap.get? l=some {cls:=.type "list",data:=.seq its.toArray n}) (hf:f its.toArray=its'.toArray) (hv:dA ys its') (hz:ys.length<=sizeLine) :
  Vr X ab σ (Vj H l (.lst ys)) {s with heap:=s.heap.update l (Obj.mapSeq f),toks:=t' }:=by
 have q:=PySem.IsL.update e f;rw[hf]at q;refine I.write (x:=l) (e:=l) (by rw[hH];exact trivial) (.inl rfl) (λb' u hb hu=>(Heap.get?_update_other s.heap (Obj.mapSeq f) (abe hb)).trans hu) ⟨_,q⟩ ?_;exact⟨hz,its',_,hv,q⟩
theorem Vr.lnew{its:List Value}{t':Nat}(I:Vr X ab σ H s)(hv:dA ys its)(hz:ys.length<=sizeLine) :
  Vr X ab σ (Vj H s.heap.objs.size (.lst ys)) {s with heap:=s.heap.push {cls:=.type "list",data:=.seq its.toArray},toks:=t' } :=
 I.laid (λ_ _ q=>ZO _ q) (ZY _) ⟨hz,its,0,hv,aah _ rfl⟩
theorem Vr.fresh(I:Vr X ab σ H s):H s.heap.objs.size=none:=I.hok.fresh (ZY _)
theorem Vr.lstM(I:Vr X ab σ H s)(hH:H l=some (.lst xs)):xs.length<=sizeLine/\∃(its:List Value)(n:Nat),dA xs its/\xs.length=its.length/\s.heap.get? l=some {cls:=.type "list",data:=.seq its.toArray n}:=by obtain⟨z,its,n,r,e⟩:=I.hok l _ hH;exact⟨z,its,n,r,r.length,e⟩
theorem KI{n:Nat}(h:n<=sizeLine):Builtin.List.listTooLong n=false:=by unfold Builtin.List.listTooLong;exact ZP xL
end
section
variable{X:Cx}
def NU:V->List V->Hp->VK->Prop:=λx vs H Q=>∃l xs y,x=.ref l/\vs=[y]/\H l=some (.lst xs)/\xs.length<sizeLine/\Q .non (Vj H l (.lst (xs++[y])))
theorem AH:V2 X "list.append" NU:=by intro ab s σ H x vs v us Q I rx rv h;obtain⟨l,xs,y,rfl,rfl,hH,hz,q⟩:=h;cases rx;obtain⟨u,rfl,ru⟩:=rv.one;obtain⟨z,its,n,r,hl,e⟩:=I.lstM hH;refine call_meets F.slot_list_append ⟨_,e,rfl⟩ F.entry_list_append (F.args_list_append_2 _ _) (PySem.list_append l its.toArray n u (by rw[aab];omega)) ⟨e,?_⟩;refine⟨.non,_,I.lset (its':=its++[u]) hH e x_ (r.append (.cons ru .nil)) ?_,rfl,q⟩;rw[aaK,List.length_singleton];omega
def NV:V->List V->Hp->VK->Prop:=λx vs H Q=>∃l b xs zs,x=.ref l/\vs=[.ref b]/\H l=some (.lst xs)/\H b=some (.lst zs)/\xs.length+zs.length<=sizeLine/\Q .non (Vj H l (.lst (xs++zs)))
theorem He:V2 X "list.extend" NV:=by
 intro ab s σ H x vs v us Q I rx rv h;obtain⟨l,b,xs,zs,rfl,rfl,hH,hB,hz,q⟩:=h;cases rx;obtain⟨u,rfl,ru⟩:=rv.one;cases ru;obtain⟨z,its,n,r,hl,e⟩:=I.lstM hH;obtain⟨z2,its2,n2,r2,hl2,e2⟩:=I.lstM hB;have hsz:its.toArray.size+its2.toArray.size<=sizeLine:=by rw[aab,aab];omega
 have hlong:¬(!its.toArray.isEmpty && Builtin.List.listTooLong (its.toArray.size+its2.toArray.size))=true:=by rw[KI hsz,Bool.and_false];exact aaF
 refine call_meets F.slot_list_extend ⟨_,e,rfl⟩ F.entry_list_extend (F.args_list_extend_2 _ _)
  (AutoSeq1.list_extend_list_list_0 l its.toArray n b its2.toArray n2 hlong (by rw[aab];omega) xL) ⟨e,e2,?_⟩
 refine⟨.non,_,I.lset (its':=its++its2) hH e x_ (r.append r2) ?_,rfl,q⟩;rw[aaK];omega
end
end L2
namespace Att
open PySem PySem.W PySem.Calls PyProof.Rows
theorem uJ{P:Params}{h:Heap}:∀(ns:List Int)(vs:List Value),WellAll P h vs (ns.map WData.int)->IntsAre vs ns:=by
 intro ns
 induction ns with
 | nil =>
  intro vs w;rw[List.map_nil]at w;cases w;exact .nil
 | cons n ns ih =>
  intro vs w;rw[aae]at w
  cases w with
  | cons a b =>
   cases a;exact .cons _ _ (ih _ b)
theorem Hf{l:OpenLaw}{n:Nat}(hn:l.most=some n){P:Params}{h:Heap}{args:List WData}{vals:List Value}
  (hpre:l.row.toRowW.claim.pre args=true) (hwl:WellAll P h vals args) :
  ∃ a vs ns,vals=[Value.ref a]/\args=[WData.list (ns.map WData.int)]/\h.get? a=some {cls:=.type "list",data:=.seq vs.toArray}/\IntsAre vs ns/\ns.length<=n:=by
 have hsh:WShape.hasAll [] args [.list .int]=true:=(pre_splitW hpre).1;have hc:l.pre.holds [] {args:=args}=true:=(pre_splitW hpre).2;obtain⟨d,r,rfl,h1,h2⟩:=hasAllW_cons hsh;obtain rfl:=hasAllW_nil h2;obtain⟨xs,rfl,h3⟩:=hasW_list h1;obtain⟨ns,rfl⟩:=items_int h3
 have b0:ns.length<=n:=by
  unfold OpenLaw.pre at hc;have h4:(WTm.not (.lt (.lit (.int (n:Int))) (.len (.arg 0)))).holds [] {args:=[.list (ns.map .int)] }=true:=by have h4:=(holds_andW hc).1;rw[hn]at h4;exact h4
  have h5:=condW_of h4 (w_not (w_lt w_lit (w_len_list (w_arg rfl))));rw[ZL]at h5;refine Nat.le_of_not_lt λq=>?_;have q':(n:Int)<((ns.length:Nat):Int):=by omega
  first
   |(rw[aaa q']at h5;exact absurd h5 xp)
   |(simp at h5;omega)
 cases hwl with
 | cons w1 w2 =>
  cases w2
  cases w1 with
  |list ho hall=>exact⟨_,_,ns,rfl,rfl,ho,uJ ns _ hall,b0⟩
theorem Hg(l:OpenLaw)(args:List WData):l.row.toRowW.claim.post args (.bool true) args=true :=
 postW_of (r:=l.row.toRowW) (X:=(true == true))
  (show WShape.has [] (.bool true) .bool=true by first|rfl|decide|simp[WShape.has,WShape.arms,WShape.armsAll])
  (show(WTm.eq .res (.lit (.bool true))).value [] {args:=args,res:=some (.bool true),after:=args}=some (.bool (true == true))from w_eq_bool (w_res rfl) w_lit) rfl
theorem attach_call{l:OpenLaw}{n:Nat}{q:Program}{loose:List Str}{XP:(Str->Option Value)->Heap->Prop}{YP:World->Heap->Prop}{d:DefRec}
  (hn:l.most=some n) (hdf:d.params.defaults=[])
  (call:∀(w:World)(s₀ s₁:Shared)(mg mb:Str->Option Value)(fa:Addr)(o:Obj)(pm cd doc:Value)(a:Addr)(vs:List Value)(ns:List Int),
   Ground q loose [] XP w s₀ mg mb s₁.heap->YP w s₁.heap ->
   s₁.heap.get? fa=some o->o.data=.func (docDef d.name d.params d.body d.scope pm cd doc)->s₁.heap.CodeRec cd d.name->mg d.name=some (.ref fa) ->
   s₁.heap.get? a=some {cls:=.type "list",data:=.seq vs.toArray}->IntsAre vs ns->ns.length<=n->s₁.gens=#[] ->
   codeAny (model l.prog w) callerA (.call (.ref fa) ⟨[.ref a],[]⟩) (λr s'=>r=.ok (.ret (.bool true))/\OldK s₁.heap s'.heap/\s'.os=s₁.os/\AllBare s'.gens) s₁) :
  WalkO q loose XP YP l.row.toRowW d [] (λf vs=>PySem.call f vs):=by
 intro w s₀ s₁ mg mb G Y fa o pm cd doc dV kV ho hd hcd hD hmg hg args vals as hpre hlay hrd hwl hlo;obtain rfl:dV=.none:=Dflts.none hD hdf;obtain rfl:kV=.none:=Dflts.noKw hD;obtain⟨a,vs,ns,rfl,rfl,hobj,hints,b0⟩:=Hf hn hpre hwl;refine enter_call (codeAny_mono (call w s₀ s₁ mg mb fa o pm cd doc a vs ns G Y ho (fd_plain hd) hcd hmg hobj hints b0 hg) λr s' hq=>?_);obtain⟨rfl,h2,h3,h4⟩:=hq;exact⟨.inl ⟨.bool true,.bool true,[],rfl,λ_=>rfl,.bool true,Hg l _,λ_=>⟨List.Pairwise.nil,λ_ hm=>(nomatch hm)⟩⟩,h2,h3,h4⟩
section
noncomputable def noObjs(h:Heap):Heap:={h with objs:=#[] }
theorem noObjs_get(h:Heap)(b:Addr):(noObjs h).get? b=none:=by
 cases e:(noObjs h).get? b with
 |none=>rfl
 |some o=>exact absurd (ZV e) (Nat.not_lt_zero _)
noncomputable def Uk(h:Heap)(L d:Addr):List (Addr×Obj):=(List.range h.objs.size).filterMap λa=>if a=L∨a=d then none else(h.get? a).map λo=>(a,o)
end
end Att
namespace L2
open PySem PySem.Spec PyProof.Rows
theorem AI:∀{vs:List Value}{ns:List Int},IntsAre vs ns->dA (ns.map V.int) vs
 |_,_,.nil=>.nil
 |_,_,.cons n t h=>.cons ⟨t,rfl⟩ (AI h)
def Sh(H:Hp):Prop:=∀b,H b=none∨(∃o xs,H b=some (.frz o (.lst xs)))∨∃q,H b=some (.tbl q)
noncomputable def fT(K:W.Frag):List (Addr×Str):=lamNames.filterMap λx=>(W.tabIn K x).map λp=>(p.2,ya x)
noncomputable def tabsOk(K:W.Frag):Bool:=decide ((fT K).map (·.1)).Nodup && (fT K).all λp=>(K.lookup p.1).isNone
theorem Hh{K:W.Frag}{P:Addr}{q:Str}(h:(P,q)∈fT K):∃x∈lamNames,∃c,W.tabIn K x=some (c,P)/\q=ya x:=by
 obtain⟨x,hx,e⟩:=abE.mp h
 cases z:W.tabIn K x with
 |none=>rw[z]at e;cases e
 |some p=>rw[z]at e;cases e;exact⟨x,hx,p.1,z,rfl⟩
theorem nQ{α β:Type}[BEq α][LawfulBEq α]:∀{l:List (α×β)}{a:α}{b:β},l.lookup a=some b->(a,b)∈l
 |[],_,_,h=>nomatch h
 | (x,y)::r,a,b,h=>by
  rw[aaA]at h
  cases hb:a == x with
  |true=>rw[hb]at h;cases h;rw[eq_of_beq hb];exact .head _
  |false=>rw[hb]at h;exact .tail _ (nQ h)
theorem lQ{α β:Type}[BEq α][LawfulBEq α]:∀{l:List (α×β)}{a:α}{b:β},(l.map (·.1)).Nodup->(a,b)∈l->l.lookup a=some b
 |[],_,_,_,h=>nomatch h
 | (x,y)::r,a,b,nd,h=>by
  rw[aae,aav]at nd;rw[aaA];rcases ZU.mp h with e|h
  . cases e;simp
  . have:a≠x:=λz=>nd.1 (z ▸ List.mem_map_of_mem (f:=(·.1)) h);rw[show(a == x)=false from beq_false_of_ne this];exact lQ nd.2 h
theorem FQ{K:W.Frag}{x:Str}{c P:Addr}(h:W.tabIn K x=some (c,P)):K.lookup c≠none:=by
 unfold W.tabIn at h;split at h
 .
  split at h
  .
   split at h
   .
    split at h
    .
     rename_i hco;split at h
     . cases h;intro z;rw[hco]at z;cases z
     . cases h
    . cases h
   . cases h
  . cases h
 . cases h
theorem KJ{P:Program}{w:World}{K:W.Frag}{mg mb:Str->Option Value}{CX:VO}{k:Nat}{fa a:Addr}{fd:FuncData}{x:Str}{sp:Sp}{s₁:Shared}{vs:List Value}{ns:List Int}
  (KX:K.In s₁.heap) (hns:s₁.heap.Ns mainGlobals mg) (hb:s₁.heap.Ns builtinsNs mb) (hbb:∀ x:Str,x≠"__name__"->mb x=bootBuiltins x) (hlim:s₁.heap.NoLimit) (hsys:∃ mm,s₁.heap.Ns sysModules mm) (hbm:Qm mg s₁.heap) (hto:tabsOk K=true)
  (htb:∀x∈lamNames,∀c P,W.tabIn K x=some (c,P)->W.CodeHd s₁.heap c P/\s₁.heap.get? P=some (W.tabObj #[])) (hg:s₁.gens=#[])
  (ha:s₁.heap.get? a=some {cls:=.type "list",data:=.seq vs.toArray}) (hi:IntsAre vs ns) (hl:ns.length<=sizeLine) (hr:oI k callerA)
  (F:∀base:Heap,K.In base->base.Ns mainGlobals mg->FnOk P w K mg base CX k fa fd [x] sp) (hbind:∀(s:Shared)(u:Value),BindsTo s fd ⟨[u],[]⟩ [(x,u)])
  (hsp:∀H:Hp,Sh H->Vy K H a (ns.map V.int)->sp [.ref a] H (λv _=>v=.bl true) λ_ _ _=>False)
  (hCX:∀H e s',CX [] H s₁ (λ_ _ _=>False) e s'->False) :
  codeAny (model P w) callerA (.call (.ref fa) ⟨[.ref a],[]⟩) (λr s'=>r=.ok (.ret (.bool true))/\OldK s₁.heap s'.heap/\s'.os=s₁.os/\AllBare s'.gens) s₁:=by
 have rv:=AI hi;have lenV:=hi.length;obtain⟨nd,kn⟩:=abt.mp hto;have nd:=abl nd;have tabAt:∀{b:Addr}{q:Str},(fT K).lookup b=some q->PySem.isCodeTable s₁.heap b/\s₁.heap.get? b=some (W.tabObj #[])/\K.lookup b=none:=λ{b q} e=>by have hm:(b,q)∈fT K:=nQ e;obtain⟨x,hx,c,e1,_⟩:=Hh hm;obtain⟨h1,h2⟩:=htb x hx c b e1;refine⟨(h1.tab h2).isCodeTable,h2,?_⟩;have:=aaP.mp kn (b,q) hm;simpa using this
 have core:∀H:Hp,Sh H->Vy K H a (ns.map V.int)->Vk P w H s₁.heap->(∀b,H b≠none->b=a∨∃q,H b=some (.tbl q)/\(fT K).lookup b=some q)->(∀b,H b≠none->K.lookup b=none)->Vn K H ->
   codeAny (model P w) callerA (.call (.ref fa) ⟨[.ref a],[]⟩) (λr s'=>r=.ok (.ret (.bool true))/\OldK s₁.heap s'.heap/\s'.os=s₁.os/\AllBare s'.gens) s₁:=by
  intro H hO hS hok hA hK hT;have base_of:∀{b:Addr}{o:Obj},s₁.heap.get? b=some o->H b=none->(Kx s₁.heap H).get? b=some o:=λe n=>Ky e n
  have noB:∀{b:Addr}{o:Obj},s₁.heap.get? b=some o->(∀us n,o.data≠.seq us n)->(∀us,o.data≠.fields us)->H b=none:=λ{b o} e d1 d2=>by
   cases q:H b with
   |none=>rfl
   | some u =>
    rcases hA b (by rw[q];simp)with e' | ⟨z,_,e'⟩
    . subst e';rw[ha]at e;cases e;exact absurd rfl (d1 _ _)
    . rw[(tabAt e').2.1]at e;cases e;exact absurd rfl (d2 _)
  have noA:∀{b:Addr}{o:Obj}{es:Array DictEntry}{ep:Nat},s₁.heap.get? b=some o->o.data=.dict es ep->H b=none:=λ{b o es ep} e d =>
   noB e (λus n z=>by rw[d]at z;cases z) λus z=>by rw[d]at z;cases z
  have nsK:∀{b:Addr}{m:Str->Option Value},s₁.heap.Ns b m->(Kx s₁.heap H).Ns b m:=λ{b m} ⟨o,es,ep,e,d,r⟩=>⟨o,es,ep,base_of e (noA e d),d,r⟩
  have hKb:K.In (Kx s₁.heap H):=λb o e=>base_of (KX b o e) (by
   cases q:H b with
   |none=>rfl
   |some u=>rw[hK b (by rw[q];simp)]at e;cases e)
  have hM:Mod K mg (Kx s₁.heap H):=⟨hKb,nsK hns,⟨mb,nsK hb,hbb⟩,let ⟨mc,h1,h2⟩:=hlim;⟨mc,nsK h1,h2⟩,let ⟨mm,h1⟩:=hsys;⟨mm,nsK h1⟩,by
   obtain⟨bm,ob,b1,b2,b3,b4,b5,b6⟩:=hbm
   exact⟨bm,ob,b1,b2,base_of b3 (noB b3 (λus n z=>by rw[b6]at z;cases z) λus z=>by rw[b6]at z;cases z),b4,b5,b6⟩,λx hx c P e=>by
   obtain⟨⟨o,vs,file,tf,flags,tg,V3,text,tt,e1,r⟩,_⟩:=htb x hx c P e
   exact⟨o,vs,file,tf,flags,tg,V3,text,tt,base_of e1 (by
    cases q:H c with
    |none=>rfl
    |some u=>exact absurd (hK c (by rw[q];simp)) (FQ e)),r⟩⟩
  have e0:KD P w K mg (Kx s₁.heap H) callerA [] s₁ H:=⟨rfl,hM,λb o e=>NH e,Nat.le_of_eq (GY _ _),trivial,λb hb=>absurd (show b∈([]:List Addr)from hb) x_,hok,.of_eq hg,hT⟩;refine codeAny_mono ((F _ hKb (nsK hns)).run callerA [] s₁ H ⟨[.ref a],[]⟩ [.ref a] [.ref a] _ _ hr e0 (hbind s₁ (.ref a)) (.cons rfl .nil) (hsp H hO hS)) λr s' h=>?_
  cases r with
  |error e=>exact(hCX H e s' h).elim
  | ok fl =>
   cases fl with
   |next=>exact False.elim h
   |brk=>exact False.elim h
   |cont=>exact False.elim h
   | ret u =>
    obtain⟨v,H',os,bare,un,hok',r',q⟩:=h;have q':v=.bl true:=q;subst q';obtain rfl:u=Value.bool true:=r'
    have Vx:∀b o,s₁.heap.get? b=some o->s'.heap.get? b=some o∨(PySem.isCodeTable s₁.heap b/\o=W.tabObj #[]/\∃ps,s'.heap.get? b=some (W.tabObj ps)):=λb o e=>by
     cases q:H b with
     |none=>exact .inl (un.keep b o e q (by intro z;exact absurd (show b∈([]:List Addr)from z) x_) x_)
     | some u =>
      rcases hO b with z|⟨ob,xs,z⟩|⟨t,z⟩
      . rw[q]at z;cases z
      . have z2:=un.frzs b ob _ z;obtain⟨e1,_⟩:=hok b _ z;obtain⟨e2,_⟩:=hok' b _ z2;rw[e]at e1;cases e1;exact .inl e2
      .
       rcases hA b (by rw[q];simp)with e' | ⟨t2,_,e'⟩
       . subst e';obtain⟨ps,e1,_⟩:=hok b _ z;rw[ha]at e1;cases e1
       . obtain⟨ps,e2,_⟩:=hok' b _ (un.tbls b _ z);obtain⟨t1,t2,_⟩:=tabAt e';rw[e]at t2;cases t2;exact .inr ⟨t1,rfl,ps,e2⟩
    refine⟨rfl,⟨λb o e=>?_,λb o e=>?_⟩,os,bare⟩
    .
     rcases Vx b o e with z|⟨t,rfl,ps,z⟩
     . exact .inl z
     . exact .inr (.inl ⟨t,rfl,#[],ps,rfl,by rw[Array.empty_append];exact z⟩)
    .
     rcases Vx b o e with z|⟨t,_,ps,z⟩
     . exact⟨o,z⟩
     . exact⟨_,z⟩
 have tbsOf:∀{H:Hp},(∀b q,(fT K).lookup b=some q->H b=some (.tbl q))->Vn K H:=λ{H} h x hx c P e=>h P _ (lQ nd (abE.mpr ⟨x,hx,by rw[e];rfl⟩));have okT:∀{H:Hp}{b:Addr}{q:Str},(fT K).lookup b=some q->jd P w H s₁.heap b (.tbl q):=λ{H b q} e=>⟨#[],(tabAt e).2.1,trivial,λpos cv z=>by simp[codeAmong]at z⟩;have na:∀q,(fT K).lookup a≠some q:=λq z=>by have:=(tabAt z).2.1;rw[ha]at this;cases this
 cases hk:K.lookup a with
 | some o =>
  have e:=KX a o hk;rw[ha]at e;cases e;refine core (λb=>((fT K).lookup b).map .tbl) (λb=>?_) (.inr ⟨_,vs.toArray,_,hk,rfl,rfl,rfl,by rw[aab,lenV];exact hl,by simpa using rv⟩) (λb u z=>?_) (λb z=>?_) (λb z=>?_) (tbsOf λb q e=>by show Option.map _ _=_;rw[e];rfl)
  .
   show Option.map HO.tbl ((fT K).lookup b)=none∨_
   cases q:(fT K).lookup b with
   |none=>exact .inl rfl
   |some t=>exact .inr (.inr ⟨t,by show Option.map _ _=_;rw[q];rfl⟩)
  .
   have z':Option.map HO.tbl ((fT K).lookup b)=some u:=z
   cases q:(fT K).lookup b with
   |none=>rw[q]at z';cases z'
   |some t=>rw[q]at z';cases z';exact okT q
  .
   have z':Option.map HO.tbl ((fT K).lookup b)≠none:=z
   cases q:(fT K).lookup b with
   |none=>rw[q]at z';exact absurd rfl z'
   |some t=>exact .inr ⟨t,rfl,rfl⟩
  .
   have z':Option.map HO.tbl ((fT K).lookup b)≠none:=z
   cases q:(fT K).lookup b with
   |none=>rw[q]at z';exact absurd rfl z'
   |some t=>exact(tabAt q).2.2
 | none =>
  have at_a:∀ b,(if b=a then some (HO.frz {cls:=.type "list",data:=.seq vs.toArray} (.lst (ns.map V.int)))else((fT K).lookup b).map .tbl)≠none->b=a∨∃ q,(fT K).lookup b=some q:=λb z=>by
   by_cases hb:b=a
   . exact .inl hb
   .
    rw[if_neg hb]at z
    cases q:(fT K).lookup b with
    |none=>rw[q]at z;exact absurd rfl z
    |some t=>exact .inr ⟨t,rfl⟩
  have tabA:∀ b q,(fT K).lookup b=some q->(if b=a then some (HO.frz {cls:=.type "list",data:=.seq vs.toArray} (.lst (ns.map V.int)))else((fT K).lookup b).map .tbl)=some (.tbl q):=λb q e=>by rw[if_neg (λ(z:b=a)=>na q (by rw[<- z];exact e)),e];rfl
  refine core (λb=>if b=a then some (.frz {cls:=.type "list",data:=.seq vs.toArray} (.lst (ns.map V.int)))else((fT K).lookup b).map .tbl) (λb=>?_) (.inl (.inr ⟨{cls:=.type "list",data:=.seq vs.toArray},if_pos rfl⟩)) (λb u z=>?_) (λb z=>?_) (λb z=>?_) (tbsOf λb q e=>tabA b q e)
  .
   by_cases hb:b=a
   . exact .inr (.inl ⟨_,_,if_pos hb⟩)
   .
    cases q:(fT K).lookup b with
    |none=>exact .inl (by show ite _ _ _=_;rw[if_neg hb,q];rfl)
    |some t=>exact .inr (.inr ⟨t,tabA b t q⟩)
  .
   by_cases hb:b=a
   . have z':=(if_pos hb).symm.trans z;cases z';subst hb;exact⟨ha,by rw[ZL];exact hl,vs,_,rv,ha⟩
   .
    have z':=(if_neg hb).symm.trans z
    cases q:(fT K).lookup b with
    |none=>rw[q]at z';cases z'
    |some t=>rw[q]at z';cases z';exact okT q
  .
   rcases at_a b z with e|⟨q,e⟩
   . exact .inl e
   . exact .inr ⟨q,tabA b q e,e⟩
  .
   rcases at_a b z with e|⟨q,e⟩
   . rw[e];exact hk
   . exact(tabAt e).2.2
theorem walk_of{l:W.OpenLaw}{n k:Nat}{q:Program}{loose:List Str}{XP:(Str->Option Value)->Heap->Prop}{YP:World->Heap->Prop}{d:DefRec}{K:Params->W.Frag}{CX:World->VO}{sp:World->Sp}{x:Str}
  (hn:l.most=some n) (hq:importsNone q=true) (hn2:n<=sizeLine) (hdf:d.params.defaults=[]) (hr:oI k callerA)
  (hY:∀(w:World)(h:Heap),YP w h->(K w.params).In h) (hto:∀w:World,tabsOk (K w.params)=true) (hrc:∀(w:World),∀x∈lamNames,W.tabIn (K w.params) x=none∨((recsOf q).find? λe=>e.name == x).isSome=true)
  (F:∀(w:World)(mg:Str->Option Value)(fa:Addr)(h:Heap),(K w.params).In h->h.Ns mainGlobals mg->mg d.name=some (.ref fa) ->
   ∃fd:FuncData,(∀(s:Shared)(u:Value),BindsTo s fd ⟨[u],[]⟩ [(x,u)]) /\
    ∀base:Heap,(K w.params).In base->base.Ns mainGlobals mg->FnOk l.prog w (K w.params) mg base (CX w) k fa fd [x] (sp w))
  (hsp:∀(w:World)(H:Hp)(a:Addr)(ns:List Int),ns.length<=n->Sh H->Vy (K w.params) H a (ns.map V.int)->sp w [.ref a] H (λv _=>v=.bl true) λ_ _ _=>False)
  (hCX:∀(w:World)(H:Hp)(s:Shared)(e:Value)(s':Shared),CX w [] H s (λ_ _ _=>False) e s'->False) :
  W.WalkO q loose XP YP l.row.toRowW d [] (λf vs=>PySem.call f vs):=by
 refine Att.attach_call hn hdf λw s₀ s₁ mg mb fa o pm cd doc a vs ns G Y ho hd hcd hmg hobj hints b0 hg=>?_;have KX:=hY w _ Y;obtain⟨fd,hb,hF⟩:=F w mg fa _ KX G.T.g hmg
 exact KJ KX G.T.g G.T.b G.T.builtins G.T.nolimit (let ⟨mm,h1,_⟩:=(G.T.seer hq).mods;⟨mm,h1⟩) (let ⟨bm,ob,b1,b2,b3,b4,b5,b6⟩:=G.T.bmain;⟨bm,ob,b1,b2,b3,b4,b5,b6⟩) (hto w) (λy hy c P e=>by
  rcases hrc w y hy with z|z
  . rw[z]at e;cases e
  .
   obtain⟨d',hd'⟩:=Option.isSome_iff_exists.mp z
   exact W.tab_of G.T KX hd' e) hg hobj hints (ZR b0 hn2) hr hF hb (λH hO hS=>hsp w H a ns b0 hO hS) λH e s'=>hCX w H s₁ e s'
noncomputable def qW(s:Stmt):Arguments:=match s with
 |.FunctionDef _ a _ _ _ _ _ _ _ _=>a
 |_=>{posonlyargs:=[],args:=[],vararg:=none,kwonlyargs:=[],kw_defaults:=[],kwarg:=none,defaults:=[] }
noncomputable def gv(s:Stmt):List Stmt:=match s with
 |.FunctionDef _ _ b _ _ _ _ _ _ _=>b
 |_=>[]
noncomputable def ao(s:Stmt):Scope:=match s with
 |.FunctionDef _ _ _ _ _ _ sc _ _ _=>sc
 |_=>{kind:=.function,names:=[],isGenerator:=false,isCoroutine:=false}
noncomputable abbrev CX0:VO:=λ_ _ _ _ _ _=>False
noncomputable abbrev E0:XK:=λ_ _ _=>False
theorem QJ{X:Cx}:Ec CX0 X E0:=λ_ _ _ _ _ _ _ h=>h.elim
structure V4 (K:W.Frag) (x qual:Str) (st:Stmt) (f:Addr) (fd:FuncData):Prop where
 ex:∃(oc:Value)(od:Option Addr)(kV doc pm:Value)(an:Option Addr)(cdv ct:Value)(osl:Array (Option Value)),
  fd=W.fnOf x qual (qW st) (gv st) (ao st) .none kV doc pm an cdv ct/\K.lookup f=some ⟨oc,od,.func fd,osl⟩/\W.codeIn K cdv qual=true
 kp:W.keepIn K (.ref f)=true
section
variable{P:Program}{w:World}{K:W.Frag}{mg:Str->Option Value}{base:Heap}
theorem V4.ok{x qual:Str}{st:Stmt}{f:Addr}{fd:FuncData}{N ps:List Str}{k:Nat}{sp:Sp}(F:V4 K x qual st f fd)(S:ax N ps (ao st))(len:∀vs H Q E,sp vs H Q E->vs.length=ps.length)
  (hbody:∀(cdv:Value)(A:Around)(outer:List Env)(s:Shared)(H:Hp)(vs:List V)(Q:VK)(E:XK),oI k (A.deeper (envOfC qual (ao st) s.heap.objs.size f cdv))->sp vs H Q E ->
   ∃t,Vu (MX CX0 P w K mg base N qual (ao st) f cdv A outer s H E).nox (gv st) t/\t {nx:=λ_ H'=>Q .non H',rt:=Q} (xk N vs) H):FnOk P w K mg base CX0 (k+1) f fd ps sp:=by
 obtain⟨oc,od,kV,doc,pm,an,cdv,ct,osl,rfl,lk,hcd⟩:=F.ex;refine QB lk hcd S len λA outer s H vs Q E hr hsp=>?_;obtain⟨t,h,q⟩:=hbody cdv A outer s H vs Q E hr hsp;exact⟨t,h.nox,q⟩
theorem V4.binds{x qual:Str}{st:Stmt}{f:Addr}{fd:FuncData}{ps:List Str}(F:V4 K x qual st f fd)
  (h:∀(kV doc pm:Value)(an:Option Addr)(cdv ct:Value)(us:List Value),us.length=ps.length->bindArgs (W.fnOf x qual (qW st) (gv st) (ao st) .none kV doc pm an cdv ct) ⟨us,[]⟩=pure (ps.zip us)):Cw K fd ps []:=by
 obtain⟨oc,od,kV,doc,pm,an,cdv,ct,osl,rfl,lk,hcd⟩:=F.ex;exact .all (h kV doc pm an cdv ct)
theorem M0{x qual:Str}{st:Stmt}{f:Addr}{oc:Value}{od an:Option Addr}{osl:Array (Option Value)}{kV doc pm cdv ct:Value}(l:K.lookup f=some ⟨oc,od,.func (W.fnOf x qual (qW st) (gv st) (ao st) .none kV doc pm an cdv ct),osl⟩)
  (c:W.codeIn K cdv qual=true) (k:W.keepIn K (.ref f)=true):V4 K x qual st f (W.fnOf x qual (qW st) (gv st) (ao st) .none kV doc pm an cdv ct):=⟨⟨oc,od,kV,doc,pm,an,cdv,ct,osl,rfl,l,c⟩,k⟩
end
def Ul(H H':Hp):Prop:=∀b o,H b=some o->H' b=some o
theorem Ul.free{H H':Hp}(e:Ul H H'){l:Addr}(h:H' l=Option.none):H l=Option.none:=by
 cases q:H l with
 |none=>rfl
 | some o =>
  rw[e l o q]at h;cases h
end L2
set_option maxHeartbeats 0
namespace L2
open PySem PySem.Spec
open Sem (wp)
theorem m8:Slot "function" "__getattribute__" "object.__getattribute__" :=
 .of (owner:="object") (n:="__getattribute__") (by rw[typeLookup_type,builtinLookup_eq_fast]; kernel_rfl) y_ y_ y_
  (by first|exact .inl y_|exact .inr y_) (by rw[isSubtype_type];kernel_rfl)
theorem CA:entryFor table "object.__getattribute__"=some Builtin.«object.__getattribute__»:=by
 first | exact F.entry_object_getattribute | exact entryFor_alias (id':="object.__getattribute__") z_ (by first | rfl | decide +kernel) y_ z_ | kernel_rfl
theorem FR(a b:Value):argsOk "object.__getattribute__" ⟨[a,b],[]⟩:=by
 first|exact F.args_object_getattribute_2 a b|(unfold argsOk;kernel_rfl)
theorem CB:typeLookup (.type "function") "__class__"=pure (some (.builtin "object.__class__")):=by rw[typeLookup_type,builtinLookup_eq_fast]; kernel_rfl
theorem qb:isSubtype (.type "function") (.type (".".intercalate ("object.__class__".cutAt '.').dropLast))=pure true:=by rw[F.owner_object_class,isSubtype_type];kernel_rfl
section
variable{prog:Program}{w:World}{A:Around}{E:Value->Shared->Prop}{h:Heap}{g:Array GenState}{d:Drawn}{t:Nat}{os:OsState}{a:Addr}{o:Obj}
theorem AJ{R:Result->Shared->Prop}(hx:h.get? a=some o) (hc:o.cls=.type "function") (hq:R (.ok (.ret (.type "function"))) ⟨h,g,d,t,os⟩) :
  codeAny (model prog w) A (.call (.builtin "getset_descriptor.__get__") ⟨[.builtin "object.__class__",.ref a,.type "function"],[]⟩) R ⟨h,g,d,t,os⟩:=by
 have hT:(⟨h,g,d,t,os⟩:Shared).TypeIs (.ref a) "function":=⟨_,hx,hc⟩;have hT5:(⟨h,g,d,t,os⟩:Shared).TypeIs (.builtin "object.__class__") "getset_descriptor":=F.typeOf_object_class;have f8:=qb;refine codeAny_call_builtin F.slot_gs_get.plain F.entry_gs_get (F.slot_gs_get.check _ _ _ _ _ _ _ _ hT5 (F.args_gs_get _ _ _) ?_)
 repeat (any_goals (first|assumption|wp_step))
 refine⟨Code.quiet_builtin _ y_,codeAny_builtin F.entry_object_class ?_⟩
 repeat (any_goals (first|assumption|wp_step))
theorem xn{tk:Tok}{Q:PySem.Fin->Shared->Prop}(hx:h.get? a=some o) (hc:o.cls=.type "function") (hq:Q (.done (.ret (.type "function"))) ⟨h,g,d,t,os⟩) :
  wpAny (model prog w) A (Builtin.«object.__getattribute__» ⟨[.ref a,.str "__class__" tk],[]⟩) Q E ⟨h,g,d,t,os⟩:=by
 have hT:(⟨h,g,d,t,os⟩:Shared).TypeIs (.ref a) "function":=⟨_,hx,hc⟩;have hT5:(⟨h,g,d,t,os⟩:Shared).TypeIs (.builtin "object.__class__") "getset_descriptor":=F.typeOf_object_class;have f4:=CB;have f5:=F.typeOf_object_class;have f6:=F.slot_gs_get.lookup;have f7:=F.slot_gs_set.lookup
 repeat (any_goals (first|assumption|wp_step))
 refine AJ hx hc ?_
 repeat (any_goals (first|assumption|wp_step))
theorem yJ{tk:Tok}{R:Result->Shared->Prop}(hx:h.get? a=some o) (hc:o.cls=.type "function") (hq:R (.ok (.ret (.type "function"))) ⟨h,g,d,t,os⟩) :
  codeAny (model prog w) A (.call (.builtin "object.__getattribute__") ⟨[.ref a,.str "__class__" tk],[]⟩) R ⟨h,g,d,t,os⟩ :=
 codeAny_call_builtin m8.plain CA (m8.check _ _ _ _ _ _ _ _ (show(⟨h,g,d,t,os⟩:Shared).TypeIs (.ref a) "function" from⟨_,hx,hc⟩) (FR _ _) (xn hx hc hq))
theorem CC{tk:Tok}{Q:Value->Shared->Prop}(hx:h.get? a=some o) (hc:o.cls=.type "function") (hq:Q (.type "function") ⟨h,g,d,t,os⟩):wpAny (model prog w) A (getAttrBy (.ref a) (.str "__class__" tk) false) Q E ⟨h,g,d,t,os⟩:=by
 have hT:(⟨h,g,d,t,os⟩:Shared).TypeIs (.ref a) "function":=⟨_,hx,hc⟩;have f2:=m8.lookup;have f3:=m8.bind (.ref a)
 repeat (any_goals (first|assumption|wp_step))
 refine yJ hx hc ?_
 repeat (any_goals (first|assumption|wp_step))
theorem yK{Q:Option Value->Shared->Prop}(hx:h.get? a=some o) (hc:o.cls=.type "function") (hq:Q (some (.type "function")) ⟨h,g,d,t+1,os⟩):wpAny (model prog w) A (getAttr? (.ref a) "__class__") Q E ⟨h,g,d,t,os⟩:=by
 unfold getAttr? getAttrBy?
 repeat (any_goals (first|assumption|with_reducible apply CC hx hc|wp_step))
end
theorem Hi{K:W.Frag}{a:Addr}:W.KitX K (.ref a) (.type "function") (W.KitAt a "function"):=W.kitx_of W.kitAt_ty (λ{_ _ _ _ _ s} p k=>by obtain⟨h,g,d,t,os⟩:=s; obtain⟨o,h1,h2⟩:=p; exact yK h1 h2 k)
end L2
namespace L2
open PySem PySem.Spec PyProof.Rows
inductive D where
 |non|bl (b:Bool)|int (i:Int)|str (x:Str)|tup (xs:List D)|lst (xs:List D)|dct (n:Nat)|exc (c:Str) (ns:List Str) (xs:List D)|fn (x:Str) (d:D)|dk (ks:List Vi) (vs:List D)|gf (x:Str)
def V5(K:W.Frag)(H:Hp)(a:Addr)(xs:List V):Prop :=
 (∃o,H a=some (.frz o (.lst xs))) ∨
  ∃(o:Obj)(its:Array Value)(n:Nat),K.lookup a=some o/\o.cls=.type "list"/\o.dict=none/\o.data=.seq its n/\its.size<=sizeLine/\dA xs its.toList
theorem V5.l{K:W.Frag}{H:Hp}{a:Addr}{xs:List V}(h:V5 K H a xs):Vy K H a xs:=by
 rcases h with⟨o,h⟩|h
 . exact .inl (.inr ⟨o,h⟩)
 . exact .inr h
def NW:HO->Prop
 |.frz _ u=>NW u
 |.ins _ _ _=>False
 |_=>True
noncomputable def Ku(C L:Addr):List Value:=(if C=L then[]else[.ref C])++[.ref L,.type "ValueError",.type "Exception",.type "BaseException",.type "object"]
noncomputable def yd(K:W.Frag)(c:Str)(C:Addr):Bool:=match W.clsIn K C,W.nsIn K mainGlobals "LoadError" with
 | some cd,some (some (.ref L))=>cd.name == c && cd.hasDict && cd.mro == Ku C L && (W.clsIn K L).any (λk=>k.name == ("LoadError" : Str)) &&
  W.findIn K (.ref C) "__getattribute__" == some (some (.builtin "BaseException.__getattribute__")) && W.findIn K (.ref C) "__getattr__" == some none && W.findIn K (.ref C) "__class__" == some (some (.builtin "object.__class__")) &&
  W.findIn K (.ref C) "__setattr__" == some (some (.builtin "object.__setattr__")) && W.typeIn K (.ref C) == some (.type "type") && W.nsIn K mainGlobals c == some (some (.ref C))
 |_,_=>false
noncomputable def Hj:List Stmt->Option (Arguments×Expr×Scope×Pos)
 |[]=>none
 | st::r=>match Hj r with
  |some l=>some l
  | none=>match st with
   | .Expr (.Call _ args _ _) _=>(match args.getLast? with
    |some (.Lambda p b sc pos)=>some (p,b,sc,pos)
    |_=>none)
   | .Return (some (.Call _ _ kws _)) _=>(match kws.getLast? with
    |some ⟨_,.Lambda p b sc pos,_⟩=>some (p,b,sc,pos)
    |_=>none)
   |_=>none
noncomputable def FT(K:W.Frag)(x:Str):Option (Arguments×Expr×Scope×Pos):=match W.nsIn K mainGlobals x with
 | some (some (.ref f))=>(match K.lookup f with
  | some ⟨_,_,.func fd,_⟩=>(match fd.body with
   |.stmts b=>Hj b
   |_=>none)
  |_=>none)
 |_=>none
def XF(H:Hp)(dx:Option Addr)(ns:List Str)(vs:List V):Prop:=(ns=[]/\vs=[]/\dx=none)∨∃d od,dx=some d/\H d=some (.frz od (.xd (ns.zip vs)))/\ns.length=vs.length
mutual
inductive V6 (K:W.Frag) (H:Hp):V->D->Prop where
 |non:V6 K H .non .non
 |bl (b:Bool):V6 K H (.bl b) (.bl b)
 |int (i:Int):V6 K H (.int i) (.int i)
 |str (x:Str):V6 K H (.str x) (.str x)
 |tup {a:Addr} {vs:List V} {ds:List D} (h:Vz K H a vs) (r:bV K H vs ds):V6 K H (.ref a) (.tup ds)
 |lst {a:Addr} {vs:List V} {ds:List D} (h:V5 K H a vs) (r:bV K H vs ds):V6 K H (.ref a) (.lst ds)
 |dct {a:Addr} {o:Obj} {kvs:List (Vi×V)} (h:H a=some (.frz o (.dK kvs))):V6 K H (.ref a) (.dct kvs.length)
 |exc {a:Addr} {o:Obj} {u:HO} {c:Str} {C:Addr} {ns:List Str} {vs:List V} {ds:List D} (h:H a=some (.frz o u)) (hv:NW u) (hc:o.cls=.ref C) (hn:W.notCls o=true) (hs:yd K c C=true) (hq:∀f∈ns,W.findIn K (.ref C) f=some none) (hf:XF H o.dict ns vs) (r:bV K H vs ds):V6 K H (.ref a) (.exc c ns ds)
 | fn {f c c':Addr} {oc oq:Obj} {x y:Str} {pr:Arguments} {bd:Expr} {sc:Scope} {pos:Pos} {pm ctv u:Value} {v:V} {d:D} (hl:FT K x=some (pr,bd,sc,pos)) (hf:H f=some (.frz (W.kla_obj "<lambda>" (ya x) pr bd sc [(y,c)] pm c' ctv) (.own f)))
  (hq:H c'=some (.frz oq (.own c'))) (hc:uE oq (ya x)) (hz:H c=some (.frz oc (.own c))) (hd:oc.data=.cell (some u)) (hv:cO v u) (hm:(y,NameKind.free)∈sc.names) (r:V6 K H v d):V6 K H (.ref f) (.fn x d)
 |dk {a:Addr} {o:Obj} {kvs:List (Vi×V)} {ds:List D} (h:H a=some (.frz o (.dK kvs))) (r:bV K H (kvs.map (·.2)) ds):V6 K H (.ref a) (.dk (kvs.map (·.1)) ds)
 |gf {a:Addr} {x:Str} {fd:FuncData} (h:W.nsIn K mainGlobals x=some (some (.ref a))) (ho:K.lookup a=some ⟨.type "function",none,.func fd,#[]⟩) (hk:W.keepIn K (.ref a)=true):V6 K H (.ref a) (.gf x)
inductive bV (K:W.Frag) (H:Hp):List V->List D->Prop where
 |nil:bV K H [] []
 |cons {v:V} {d:D} {vs:List V} {ds:List D} (h:V6 K H v d) (t:bV K H vs ds):bV K H (v::vs) (d::ds)
end
theorem V6.inv_non{K:W.Frag}{H:Hp}{v:V}(h:V6 K H v .non):v=.non:=by cases h;rfl
theorem V6.inv_bl{K:W.Frag}{H:Hp}{v:V}{b:Bool}(h:V6 K H v (.bl b)):v=.bl b:=by cases h;rfl
theorem V6.inv_int{K:W.Frag}{H:Hp}{v:V}{i:Int}(h:V6 K H v (.int i)):v=.int i:=by cases h;rfl
theorem V6.inv_str{K:W.Frag}{H:Hp}{v:V}{x:Str}(h:V6 K H v (.str x)):v=.str x:=by cases h;rfl
theorem V6.inv_tup{K:W.Frag}{H:Hp}{v:V}{ds:List D}(h:V6 K H v (.tup ds)):∃a vs,v=.ref a/\Vz K H a vs/\bV K H vs ds:=by cases h;exact⟨_,_,rfl,‹_›,‹_›⟩
theorem V6.inv_lst{K:W.Frag}{H:Hp}{v:V}{ds:List D}(h:V6 K H v (.lst ds)):∃a vs,v=.ref a/\V5 K H a vs/\bV K H vs ds:=by cases h;exact⟨_,_,rfl,‹_›,‹_›⟩
def Si:HO->Prop
 |.tup _=>True
 |.frz _ _=>True
 |.tbl _=>True
 |_=>False
def ye(H H':Hp):Prop:=∀b o,Si o->H b=some o->H' b=some o
theorem Vz.pres{K:W.Frag}{H H':Hp}{a:Addr}{xs:List V}(p:ye H H')(h:Vz K H a xs):Vz K H' a xs:=by
 rcases h with(h|⟨o,h⟩)|h
 . exact .inl (.inl (p _ _ True.intro h))
 . exact .inl (.inr ⟨o,p _ _ True.intro h⟩)
 . exact .inr h
theorem V5.pres{K:W.Frag}{H H':Hp}{a:Addr}{xs:List V}(p:ye H H')(h:V5 K H a xs):V5 K H' a xs:=by
 rcases h with⟨o,h⟩|h
 . exact .inl ⟨o,p _ _ True.intro h⟩
 . exact .inr h
theorem XF.pres{H H':Hp}(p:ye H H'){dx:Option Addr}{ns:List Str}{vs:List V}(h:XF H dx ns vs):XF H' dx ns vs:=by
 rcases h with h|⟨d,od,e,h,l⟩
 . exact .inl h
 . exact .inr ⟨d,od,e,p _ _ True.intro h,l⟩
def V7(o:HO):Prop:=Si o/\NW o
theorem yL(o:Obj)(b:Addr):V7 (.frz o (.own b)):=⟨True.intro,True.intro⟩
theorem NX(xs:List V):V7 (.tup xs):=⟨True.intro,True.intro⟩
section
variable{K:W.Frag}{H H':Hp}
theorem Vz.mapv(p:∀b o,V7 o->H b=some o->H' b=some o){a:Addr}{xs:List V}(h:Vz K H a xs):Vz K H' a xs:=by
 rcases h with(h|⟨o,h⟩)|h
 . exact .inl (.inl (p _ _ (NX _) h))
 . exact .inl (.inr ⟨o,p _ _ ⟨True.intro,True.intro⟩ h⟩)
 . exact .inr h
theorem V5.mapv(p:∀b o,V7 o->H b=some o->H' b=some o){a:Addr}{xs:List V}(h:V5 K H a xs):V5 K H' a xs:=by
 rcases h with⟨o,h⟩|h
 . exact .inl ⟨o,p _ _ ⟨True.intro,True.intro⟩ h⟩
 . exact .inr h
mutual
theorem V6.mapv(p:∀b o,V7 o->H b=some o->H' b=some o):∀{v:V}{d:D},V6 K H v d->V6 K H' v d
 |_,_,.non=>.non
 |_,_,.bl b=>.bl b
 |_,_,.int i=>.int i
 |_,_,.str x=>.str x
 |_,_,.tup h r=>.tup (h.mapv p) (bV.mapv p r)
 |_,_,.lst h r=>.lst (h.mapv p) (bV.mapv p r)
 |_,_,.dct h=>.dct (p _ _ ⟨True.intro,True.intro⟩ h)
 | _,_,.exc h hv hc hn hs hq hf r=>.exc (p _ _ ⟨True.intro,hv⟩ h) hv hc hn hs hq (by
   rcases hf with hf|⟨d,od,e,h,l⟩
   .
    exact .inl hf
   .
    exact .inr ⟨d,od,e,p _ _ ⟨True.intro,True.intro⟩ h,l⟩) (bV.mapv p r)
 |_,_,.fn hl hf hq hc hz hd hv hm r=>.fn hl (p _ _ (yL _ _) hf) (p _ _ (yL _ _) hq) hc (p _ _ (yL _ _) hz) hd hv hm (V6.mapv p r)
 |_,_,.dk h r=>.dk (p _ _ ⟨True.intro,True.intro⟩ h) (bV.mapv p r)
 |_,_,.gf h ho hk=>.gf h ho hk
theorem bV.mapv(p:∀b o,V7 o->H b=some o->H' b=some o):∀{vs:List V}{ds:List D},bV K H vs ds->bV K H' vs ds
 |_,_,.nil=>.nil
 |_,_,.cons h t=>.cons (V6.mapv p h) (bV.mapv p t)
end
theorem V6.pres(p:ye H H'){v:V}{d:D}(r:V6 K H v d):V6 K H' v d:=r.mapv λb o z e=>p b o z.1 e
theorem bV.pres(p:ye H H'){vs:List V}{ds:List D}(r:bV K H vs ds):bV K H' vs ds:=r.mapv λb o z e=>p b o z.1 e
end
theorem bV.length{K:W.Frag}{H:Hp}:∀{vs:List V}{ds:List D},bV K H vs ds->vs.length=ds.length
 |_,_,.nil=>rfl
 |_,_,.cons _ t=>by simp[bV.length t]
theorem bV.get{K:W.Frag}{H:Hp}:∀{vs:List V}{ds:List D}{i:Nat}{d:D},bV K H vs ds->ds[i]?=some d->∃v,vs[i]?=some v/\V6 K H v d
 |_,_,_,_,.nil,e=>by simp at e
 |_,_,0,_,.cons h _,e=>by simp at e;subst e;exact⟨_,rfl,h⟩
 | _,_,i+1,d,.cons _ t,e=>by obtain⟨v,h1,h2⟩:=bV.get (i:=i) (d:=d) t (by simpa using e);exact⟨v,by simpa using h1,h2⟩
theorem bV.set{K:W.Frag}{H:Hp}{v:V}{d:D}(r:V6 K H v d):∀{vs:List V}{ds:List D}(i:Nat),bV K H vs ds->bV K H (vs.set i v) (ds.set i d)
 |_,_,_,.nil=>.nil
 |_,_,0,.cons _ t=>.cons r t
 |_,_,i+1,.cons h t=>.cons h (bV.set r i t)
theorem bV.append{K:W.Frag}{H:Hp}:∀{vs us:List V}{ds es:List D},bV K H vs ds->bV K H us es->bV K H (vs++us) (ds++es)
 |_,_,_,_,.nil,s=>s
 |_,_,_,_,.cons h t,s=>.cons h (bV.append t s)
theorem bV.take{K:W.Frag}{H:Hp}:∀{vs:List V}{ds:List D}(n:Nat),bV K H vs ds->bV K H (vs.take n) (ds.take n)
 |_,_,0,_=>.nil
 |_,_,_+1,.nil=>.nil
 |_,_,n+1,.cons h t=>.cons h (bV.take n t)
theorem bV.drop{K:W.Frag}{H:Hp}:∀{vs:List V}{ds:List D}(n:Nat),bV K H vs ds->bV K H (vs.drop n) (ds.drop n)
 |_,_,0,r=>r
 |_,_,_+1,.nil=>.nil
 |_,_,n+1,.cons _ t=>bV.drop n t
inductive L where
 |un|d (x:D)|own (a:Addr) (xs:List D)|bx (k:Option Addr) (ls:List L)|dic (a:Addr) (kvs:List (Vi×D))
noncomputable abbrev Ev:=List L
mutual
noncomputable def bj:L->List Addr
 |.un=>[]
 |.d _=>[]
 |.own a _=>[a]
 |.bx k ls=>k.toList++fU ls
 |.dic a _=>[a]
noncomputable def fU:List L->List Addr
 |[]=>[]
 |l::ls=>bj l++fU ls
end
noncomputable def owns(Z:Ev):List Addr:=Z.flatMap bj
theorem fV:∀ls:List L,fU ls=owns ls
 |[]=>rfl
 |l::ls=>by rw[fU,fV ls];rfl
mutual
def bf(K:W.Frag)(H:Hp)(s:Option V):L->Prop
 |.un=>True
 |.d x=>∃v,s=some v/\V6 K H v x
 |.own a xs=>s=some (.ref a)/\∃vs,H a=some (.lst vs)/\bV K H vs xs
 |.bx none ls=>∃a vs,s=some (.ref a)/\Vz K H a vs/\cz K H vs ls
 |.bx (some a) ls=>s=some (.ref a)/\∃vs,H a=some (.lst vs)/\cz K H vs ls
 |.dic a kvs=>s=some (.ref a)/\∃vs,H a=some (.dK vs)/\Paired (λ(p:Vi×V) (q:Vi×D)=>p.1=q.1/\V6 K H p.2 q.2) vs kvs
def cz(K:W.Frag)(H:Hp)(vs:List V):List L->Prop
 |[]=>vs=[]
 |l::ls=>∃v us,vs=v::us/\bf K H (some v) l/\cz K H us ls
end
mutual
theorem bf.pres{K:W.Frag}{H H':Hp}(p:ye H H'):∀{s:Option V}(l:L),(∀a∈bj l,H' a=H a)->bf K H s l->bf K H' s l
 |_,.un,_,_=>by simp only[bf]
 | _,.d x,_,h=>by
  simp only[bf]at h ⊢
  obtain⟨v,e,r⟩:=h
  exact⟨v,e,r.pres p⟩
 | _,.own a xs,q,h=>by
  simp only[bf]at h ⊢
  obtain⟨e,vs,ha,r⟩:=h
  exact⟨e,vs,(q a (by simp[bj])).trans ha,r.pres p⟩
 | _,.bx none ls,q,h=>by
  simp only[bf]at h ⊢
  obtain⟨a,vs,e,ha,r⟩:=h
  exact⟨a,vs,e,ha.pres p,cz.pres p ls (λb hb=>q b (by simp[bj,hb])) r⟩
 | _,.bx (some a) ls,q,h=>by
  simp only[bf]at h ⊢
  obtain⟨e,vs,ha,r⟩:=h
  exact⟨e,vs,(q a (by simp[bj])).trans ha,cz.pres p ls (λb hb=>q b (by simp[bj,hb])) r⟩
 | _,.dic a kvs,q,h=>by
  simp only[bf]at h ⊢
  obtain⟨e,vs,ha,r⟩:=h
  exact⟨e,vs,(q a (by simp[bj])).trans ha,Paired.mapP r λ_ _ z=>⟨z.1,z.2.pres p⟩⟩
theorem cz.pres{K:W.Frag}{H H':Hp}(p:ye H H'):∀{vs:List V}(ls:List L),(∀a∈fU ls,H' a=H a)->cz K H vs ls->cz K H' vs ls
 |_,[],_,h=>by simpa only[cz]using h
 | _,l::ls,q,h=>by
  simp only[cz]at h ⊢
  obtain⟨v,us,e,h1,h2⟩:=h
  exact⟨v,us,e,bf.pres p l (λb hb=>q b (by simp[fU,hb])) h1,cz.pres p ls (λb hb=>q b (by simp[fU,hb])) h2⟩
end
def Qb:HO->Prop
 |.lst _=>True
 |.dK _=>True
 |_=>False
theorem Qb.no{o:HO}(h:Qb o)(p:Si o):False:=by cases o<;>first|exact h|exact p
mutual
theorem bf.lstAt{K:W.Frag}{H:Hp}:∀{s:Option V}(l:L),bf K H s l->∀a∈bj l,∃o,H a=some o/\Qb o
 |_,.un,_,a,ha=>by simp[bj]at ha
 |_,.d x,_,a,ha=>by simp[bj]at ha
 | _,.own b xs,h,a,ha=>by
  simp only[bf]at h
  have e:a=b:=by simpa[bj]using ha
  subst e
  obtain⟨_,vs,q,_⟩:=h
  exact⟨_,q,True.intro⟩
 | _,.bx none ls,h,a,ha=>by
  simp only[bf]at h
  obtain⟨b,vs,e,_,r⟩:=h
  exact cz.lstAt ls r a (by simpa[bj]using ha)
 | _,.bx (some b) ls,h,a,ha=>by
  simp only[bf]at h
  obtain⟨e,vs,q,r⟩:=h
  rcases(by simpa[bj]using ha:a=b∨a∈fU ls)with z|z
  .
   subst z;exact⟨_,q,True.intro⟩
  .
   exact cz.lstAt ls r a z
 | _,.dic b xs,h,a,ha=>by
  simp only[bf]at h
  have e:a=b:=by simpa[bj]using ha
  subst e
  obtain⟨_,vs,q,_⟩:=h
  exact⟨_,q,True.intro⟩
theorem cz.lstAt{K:W.Frag}{H:Hp}:∀{vs:List V}(ls:List L),cz K H vs ls->∀a∈fU ls,∃o,H a=some o/\Qb o
 |_,[],_,a,ha=>by simp[fU]at ha
 | _,l::ls,h,a,ha=>by
  simp only[cz]at h
  obtain⟨v,us,e,h1,h2⟩:=h
  rcases(by simpa[fU]using ha:a∈bj l∨a∈fU ls)with z|z
  .
   exact bf.lstAt l h1 a z
  .
   exact cz.lstAt ls h2 a z
end
structure aJ (K:W.Frag) (Pr H:Hp) (σ:St) (Z:Ev):Prop where
 sub:∀b o,Pr b=some o->H b=some o
 nd:(owns Z).Nodup
 off:∀a∈owns Z,Pr a=none
 sl:Paired (bf K H) σ Z
theorem j5{Z:Ev}{a:Addr}:a∈owns Z↔∃l∈Z,a∈bj l:=by unfold owns;rw[List.mem_flatMap]
theorem NY{Z:Ev}{a:Addr}{xs:List D}(h:L.own a xs∈Z):a∈owns Z:=j5.mpr ⟨_,h,by simp[bj]⟩
theorem aK(a b:Ev):owns (a++b)=owns a++owns b:=List.flatMap_append
theorem Paired.mem2{α β:Type}{F:α->β->Prop}:∀{l1:List α}{l2:List β}{b:β},Paired F l1 l2->b∈l2->∃a,a∈l1/\F a b
 |_,_,_,.nil,h=>by simp at h
 | _,_,_,.cons r t,h=>by
  rcases ZU.mp h with rfl|h
  . exact⟨_,k4,r⟩
  . obtain⟨a,h1,h2⟩:=Paired.mem2 t h;exact⟨a,fI _ h1,h2⟩
theorem Paired.app{α β:Type}{F:α->β->Prop}:∀{a c:List α}{b d:List β},Paired F a b->Paired F c d->Paired F (a++c) (b++d)
 |_,_,_,_,.nil,s=>s
 |_,_,_,_,.cons r t,s=>.cons r (Paired.app t s)
theorem Paired.unapp{α β:Type}{F:α->β->Prop}:∀{a c:List α}{b d:List β},a.length=b.length->Paired F (a++c) (b++d)->Paired F a b/\Paired F c d
 |[],_,[],_,_,s=>⟨.nil,s⟩
 | x::a,_,y::b,_,hl,.cons r t=>by obtain⟨p,q⟩:=Paired.unapp (a:=a) (b:=b) (by simpa using hl) t;exact⟨.cons r p,q⟩
 |[],_,_::_,_,hl,_=>by simp at hl
 |_::_,_,[],_,hl,_=>by simp at hl
theorem Paired.get2{α β:Type}{F:α->β->Prop}:∀{l1:List α}{l2:List β}{i:Nat}{b:β},Paired F l1 l2->l2[i]?=some b->∃a,l1[i]?=some a/\F a b
 |_,_,_,_,.nil,e=>by simp at e
 |_,_,0,_,.cons h _,e=>by simp at e;subst e;exact⟨_,rfl,h⟩
 | _,_,i+1,d,.cons _ t,e=>by obtain⟨v,h1,h2⟩:=Paired.get2 (i:=i) (b:=d) t (by simpa using e);exact⟨v,by simpa using h1,h2⟩
theorem Paired.set2{α β:Type}{F:α->β->Prop}{a:α}{b:β}(r:F a b):∀{l1:List α}{l2:List β}(i:Nat),Paired F l1 l2->Paired F (l1.set i a) (l2.set i b)
 |_,_,_,.nil=>.nil
 |_,_,0,.cons _ t=>.cons r t
 |_,_,i+1,.cons h t=>.cons h (Paired.set2 r i t)
theorem Paired.impMem{α β:Type}{F G:α->β->Prop}:∀{l1:List α}{l2:List β},Paired F l1 l2->(∀b∈l2,∀a,F a b->G a b)->Paired G l1 l2
 |_,_,.nil,_=>.nil
 |_,_,.cons r t,h=>.cons (h _ k4 _ r) (Paired.impMem t λb hb=>h b (fI _ hb))
theorem Paired.set_r{α β:Type}{F:α->β->Prop}{b:β}:∀{l1:List α}{l2:List β}(i:Nat),Paired F l1 l2->(∀a,l1[i]?=some a->F a b)->Paired F l1 (l2.set i b)
 |_,_,_,.nil,_=>.nil
 |_,_,0,.cons _ t,h=>.cons (h _ rfl) t
 |_,_,i+1,.cons q t,h=>.cons q (Paired.set_r i t λa e=>h a (by simpa using e))
section
variable{K:W.Frag}{Pr H H':Hp}{σ τ w σ':St}{Z μ lam Z':Ev}
theorem aJ.len(E:aJ K Pr H σ Z):σ.length=Z.length:=Paired.length E.sl
noncomputable def bD(H:Hp)(Z:Ev):Hp:=λb=>if b∈owns Z then none else H b
theorem aJ.at_own(E:aJ K Pr H σ Z){a:Addr}(h:a∈owns Z):∃o,H a=some o/\Qb o:=by obtain⟨l,hx,ha⟩:=j5.mp h;obtain⟨s,_,q⟩:=Paired.mem2 E.sl hx;exact q.lstAt l a ha
theorem aJ.wide(E:aJ K Pr H σ Z):aJ K (bD H Z) H σ Z :=
 ⟨λb o e=>by unfold bD at e;split at e;cases e;exact e,E.nd,λa h=>by unfold bD;rw[if_pos h],E.sl⟩
theorem aJ.drop(E:aJ K Pr H (τ++σ) (lam++Z))(hl:τ.length=lam.length):aJ K Pr H σ Z :=
 ⟨E.sub,(aaz.mp (aK lam Z ▸ E.nd)).2.1,λa h=>E.off a (by rw[aK];exact aad _ h),(Paired.unapp hl E.sl).2⟩
theorem aJ.left(E:aJ K Pr H (τ++σ) (lam++Z))(hl:τ.length=lam.length):aJ K Pr H τ lam :=
 ⟨E.sub,(aaz.mp (aK lam Z ▸ E.nd)).1,λa h=>E.off a (by rw[aK];exact aaj _ h),(Paired.unapp hl E.sl).1⟩
theorem yM{H H':Hp}{Z:Ev}{σ:St}{Pr:Hp}(E:aJ K Pr H σ Z)(h:∀b o,bD H Z b=some o->H' b=some o):ye H H':=λb o p e=>by refine h b o ?_;unfold bD;rw[if_neg,e];intro hm;obtain⟨u,e',m⟩:=E.at_own hm;rw[e]at e';cases e';exact m.no p
theorem aJ.step(E:aJ K Pr H (τ++σ) (lam++Z))(hl:τ.length=lam.length)(E':aJ K (bD H Z) H' (w++σ') (μ++Z'))(hw:w.length=μ.length):aJ K Pr H' (w++(τ++σ')) (μ++(lam++Z')):=by
 have Eσ:=E.drop hl;have p:ye H H':=yM Eσ E'.sub;have dis:∀a∈owns lam,a∉owns Z:=λa h1 h2=>(aaz.mp (aK lam Z ▸ E.nd)).2.2 a h1 a h2 rfl;have at':∀a∈owns lam,bD H Z a=H a:=λa h=>by unfold bD;rw[if_neg (dis a h)]
 have some':∀a∈owns lam,∃o,H a=some o/\Qb o:=λa h=>E.at_own (by rw[aK];exact aaj _ h);have out:∀a∈owns lam,a∉owns (μ++Z'):=λa h h2=>by have z:=E'.off a h2;rw[at' a h]at z;obtain⟨vs,e,_⟩:=some' a h;rw[e]at z;cases z
 have s1:=(Paired.unapp hw E'.sl);have s2:=(Paired.unapp hl E.sl).1;refine⟨λb o e=>?_,?_,λa ha=>?_,Paired.app s1.1 (Paired.app ?_ s1.2)⟩
 . refine E'.sub b o ?_;unfold bD;rw[if_neg,E.sub b o e];intro hm;have z:=Eσ.off b hm;rw[e]at z;cases z
 .
  have n1:=E'.nd;rw[aK]at n1;rw[aK,aK];obtain⟨q1,q2,q3⟩:=aaz.mp n1;refine aaz.mpr ⟨q1,aaz.mpr ⟨(aaz.mp (aK lam Z ▸ E.nd)).1,q2,λa ha b hb=>?_⟩,λa ha b hb=>?_⟩
  . rintro rfl;exact out a ha (by rw[aK];exact aad _ hb)
  .
   rcases aap.mp hb with hb|hb
   . rintro rfl;exact out a hb (by rw[aK];exact aaj _ ha)
   . exact q3 a ha b hb
 .
  rw[aK,aK]at ha
  have key:a∈owns (μ++Z')->Pr a=none:=λh=>by
   have z:=E'.off a h;unfold bD at z;by_cases hm:a∈owns Z
   . exact Eσ.off a hm
   .
    rw[if_neg hm]at z
    cases q:Pr a with
    |none=>rfl
    |some o=>rw[E.sub a o q]at z;cases z
  rcases aap.mp ha with h|h
  . exact key (by rw[aK];exact aaj _ h)
  .
   rcases aap.mp h with h|h
   . exact E.off a (by rw[aK];exact aaj _ h)
   . exact key (by rw[aK];exact aad _ h)
 .
  have:∀l∈lam,∀s,bf K H s l->bf K H' s l:=λl hlm s h=>h.pres p l λa e=>by have ha:a∈owns lam:=j5.mpr ⟨l,hlm,e⟩;obtain⟨vs,e,_⟩:=some' a ha;rw[E'.sub a _ ((at' a ha).trans e),e]
  exact Paired.impMem s2 this
end
end L2
namespace L2
open PySem PySem.Spec PyProof.Rows PySem.W
structure FU (K:Frag) (c:Str) (C L:Addr) (cd:ClassData):Prop where
 cls:clsIn K C=some cd
 load:nsIn K mainGlobals "LoadError"=some (some (.ref L))
 name:cd.name=c
 dct:cd.hasDict=true
 mro:cd.mro=Ku C L
 lname:∃ k,clsIn K L=some k/\k.name=("LoadError" : Str)
 ga:findIn K (.ref C) "__getattribute__"=some (some (.builtin "BaseException.__getattribute__"))
 gx:findIn K (.ref C) "__getattr__"=some none
 gc:findIn K (.ref C) "__class__"=some (some (.builtin "object.__class__"))
 sa:findIn K (.ref C) "__setattr__"=some (some (.builtin "object.__setattr__"))
 ty:typeIn K (.ref C)=some (.type "type")
 own:nsIn K mainGlobals c=some (some (.ref C))
theorem AK{K:Frag}{c:Str}{C:Addr}(h:yd K c C=true):∃L cd,FU K c C L cd:=by
 unfold yd at h;split at h
 . rename_i cd L e1 e2;simp only[Z5,beq_iff_eq]at h;obtain⟨⟨⟨⟨⟨⟨⟨⟨⟨h1,h2⟩,h3⟩,h4⟩,h5⟩,h6⟩,h7⟩,h8⟩,h9⟩,h10⟩:=h;obtain⟨k,hk,hn⟩:=any_some h4;exact⟨L,cd,e1,e2,h1,h2,h3,⟨k,hk,beq_iff_eq.mp hn⟩,h5,h6,h7,h8,h9,h10⟩
 . cases h
section
variable{K:Frag}{c:Str}{C L:Addr}{cd:ClassData}
theorem Hl(C L:Addr):Ku C L=[.ref C,.ref L,.type "ValueError",.type "Exception",.type "BaseException",.type "object"]∨Ku C L=[.ref L,.type "ValueError",.type "Exception",.type "BaseException",.type "object"]/\C=L:=by
 by_cases h:C=L
 . exact .inr ⟨by unfold Ku;rw[if_pos h];rfl,h⟩
 . exact .inl (by unfold Ku;rw[if_neg h];rfl)
theorem KL(C L:Addr)(b:Value):(Ku C L).contains b=([.ref C,.ref L,.type "ValueError",.type "Exception",.type "BaseException",.type "object"]:List Value).contains b:=by
 rcases Hl C L with e|⟨e,h⟩
 . rw[e]
 . subst h;rw[e];simp only[List.contains_cons,<- Bool.or_assoc,Bool.or_self]
theorem FU.mroIn(S:FU K c C L cd)(b:Value):W.mroIn K C b=some (([.ref C,.ref L,.type "ValueError",.type "Exception",.type "BaseException",.type "object"]:List Value).contains b):=by
 unfold W.mroIn;rw[S.cls,Option.bind_some,S.mro];have ne:(Ku C L).isEmpty=false:=by rcases Hl C L with e|⟨e,_⟩<;>rw[e]<;>rfl
 show(if(Ku C L).isEmpty=true then none else some ((Ku C L).contains b))=_
 rw[ne,KL];rfl
theorem uK(C L:Addr)(T:String):(([.ref C,.ref L,.type "ValueError",.type "Exception",.type "BaseException",.type "object"]:List Value).contains (.type T))=(["ValueError","Exception","BaseException","object"]:List String).contains T:=by
 simp only[List.contains_cons,List.contains_nil,Bool.or_false];have e:∀a:Addr,(Value.type T == Value.ref a)=false:=λ_=>rfl
 have f:∀U:String,(Value.type T == Value.type U)=(T == U):=λU=>by
  by_cases q:T=U
  . subst q;simp
  . rw[beq_eq_false_iff_ne.mpr q,beq_eq_false_iff_ne];intro z;injection z with z;exact q z
 rw[e,e,f,f,f,f];rfl
theorem FU.has(S:FU K c C L cd){T:String} (h:(["ValueError","Exception","BaseException","object"]:List String).contains T=true):W.mroIn K C (.type T)=some true:=by rw[S.mroIn,uK,h]
theorem FU.isT(S:FU K c C L cd){M:Model}{h:Heap}(X:K.In h)(T:String):Looks M h (isSubtype (.ref C) (.type T)) ((["ValueError","Exception","BaseException","object"]:List String).contains T):=looks_mroIn X (by rw[S.mroIn,uK])
end
section
variable{prog:Program}{w:World}{A:Around}{E:Value->Shared->Prop}{s:Shared}{K:Frag}{c:Str}{x C L:Addr}{cd:ClassData}{ox:Obj}{od:Option Obj}{name:Str}
theorem AL{tk:Tok}{Q:Fin->Shared->Prop}(S:FU K c C L cd)(X:K.In s.heap)(I:InstAt s.heap x ox C od) (hf:findObj K C od "__class__"=some (.bind (.builtin "getset_descriptor.__get__") (.builtin "object.__class__"))) (hq:Q (.done (.ret (.ref C))) s) :
  wpAny (model prog w) A (Builtin.«object.__getattribute__» ⟨[.ref x,.str "__class__" tk],[]⟩) Q E s:=by
 obtain⟨hh,g,d,t,os⟩:=s;have L0:=I.type (M:=model prog w);have L1:=looks_find (M:=model prog w) X I hf;unfold Builtin.«object.__getattribute__»;refine ZQ (aai (ZQ (aai ?_)));refine ZQ (L0.at (ZQ (L1.at ?_)));show wpAny _ _ (holding [Value.builtin "object.__class__"] (call (.builtin "getset_descriptor.__get__") [.builtin "object.__class__",.ref x,.ref C]) >>= ret) _ _ _;refine ZQ (abr (wpAny_call ?_));exact class_get (s:=⟨hh,g,d,t,os⟩) (ox:=ox) (od:=od) X I (S.has xp) (aai hq)
theorem NZ{tk:Tok}{v:Value}{fill expr:Bool}{Q:Value->Shared->Prop}(S:FU K c C L cd)(X:K.In s.heap)(I:InstAt s.heap x ox C od)
  (he:∀(A':Around)(Q':Fin->Shared->Prop),Q' (.done (.ret v)) s->wpAny (model prog w) A' (Builtin.«object.__getattribute__» ⟨[.ref x,.str name tk],[]⟩) Q' (λ_ _=>False) s) (hh:handedIn v=true) (hq:Q v s) :
  wpAny (model prog w) A (getAttrBy (.ref x) (.str name tk) fill expr) Q E s:=by
 have FB:=F.excAttr_ValueError;have L0:=I.type (M:=model prog w);have L1:=looks_findIn (M:=model prog w) X S.ga;have L2:=looks_findIn (M:=model prog w) X S.gx;unfold getAttrBy;refine abr (ZQ (L0.here (ZQ (L1.here ?_))));have hx2:(Value.builtin "BaseException.__getattribute__" == Value.builtin "object.__getattribute__")=false:=by decide +kernel
 dsimp only;rw[hx2,Bool.and_false,if_neg (by decide)];unfold getAttrByItsOwn;refine ZQ ((looks_hook (mc:=.ref C) X (r:=none) S.gx).here ?_);refine ZQ (wpAny_attempt (abr ?_));have hx0:(expr && onTheHeap (Value.builtin "BaseException.__getattribute__"))=false:=by cases expr <;> rfl
 unfold callGetattribute boundAndCalled;rw[hx0,if_neg (by decide),FB.ga.bind];refine ZQ (aai (wpAny_call ?_));have hi:Looks (model prog w) s.heap (isInstance (.ref x) (.type "BaseException")) true:=L0.andThen (S.isT X _);have hkd:builtinKind "BaseException.__getattribute__"=some .slot:=by decide +kernel
 have hsp:splitId "BaseException.__getattribute__"=some ("BaseException","__getattribute__"):=by decide +kernel
 refine codeAny_call_builtin FB.ga.plain F.entry_bexc_ga (@check_slot (model prog w) _ _ s "BaseException.__getattribute__" "BaseException" "__getattribute__" (.ref x) [.str name tk] [] _ hkd hsp hi (F.args_bexc_ga (.ref x) (.str name tk)) ?_);refine abn (he _ _ ?_) (λ_ _ z=>z) λ_ _ z=>z.elim;show wpAny _ _ (handedOut v) _ _ _;rw[handedOut_of hh];exact aai hq
end
theorem N0(K:Frag):specialIn K (.builtin "object.__class__") "__get__"=some (some (.builtin "getset_descriptor.__get__")):=(by decide +kernel:specialIn [] (.builtin "object.__class__") "__get__"=some (some (.builtin "getset_descriptor.__get__")))
theorem Hm(K:Frag):takesIn K (.builtin "object.__class__")=some true:=(by decide +kernel:takesIn [] (.builtin "object.__class__")=some true)
section
variable{prog:Program}{w:World}{A:Around}{E:Value->Shared->Prop}{s:Shared}{K:Frag}{c:Str}{x C L:Addr}{cd:ClassData}{ox:Obj}{od:Option Obj}
theorem FU.fclass(S:FU K c C L cd)(od:Option Obj):findObj K C od "__class__"=some (.bind (.builtin "getset_descriptor.__get__") (.builtin "object.__class__")):=by unfold findObj;rw[S.cls,Option.bind_some,S.gc,Option.bind_some];simp[N0,Hm]
theorem CD{Q:Option Value->Shared->Prop}(S:FU K c C L cd)(X:K.In s.heap)(I:InstAt s.heap x ox C od)(hq:Q (some (.ref C)) {s with toks:=s.toks+1}) :
  wpAny (model prog w) A (getAttr? (.ref x) "__class__") Q E s:=by
 obtain⟨hh,g,d,t,os⟩:=s;unfold getAttr? getAttrBy?;refine ZQ (wpAny_mkText (ZQ (wpAny_attempt ?_)));exact NZ (s:=⟨hh,g,d,t+1,os⟩) (ox:=ox) (od:=od) S X I (λA' Q' q=>AL (s:=⟨hh,g,d,t+1,os⟩) S X I (S.fclass od) q) rfl (aai hq)
theorem KM(S:FU K c C L cd):KitX K (.ref x) (.ref C) (λh=>∃ox od,InstAt h x ox C od) where
 ty:=λ_ _ _ ⟨_,_,I⟩=>I.type
 it:=λ_ _ X _=>by
  have hc:=S.cls;unfold clsIn at hc;split at hc
  . rename_i ho;intro A' Q' E' s' k q;unfold isType loadHead;exact ZQ (wpAny_loadPart (k _ _ (X _ _ ho)) (aai q))
  . cases hc
 ne:=λh tp dd its n sl X htp=>by
  refine Bool.eq_false_iff.mpr λq=>?_;have e:C=tp:=Value.ref.inj (beq_iff_eq.mp q);subst e;have hc:=S.cls;unfold clsIn at hc;split at hc
  . rename_i ho;have z:=(X _ _ ho).symm.trans htp;cases z
  . cases hc
 ca:=λX ⟨_,_,I⟩ k=>CD S X I k
end
end L2
namespace L2
open PySem PySem.Spec PyProof.Rows
section
variable{X:Cx}{ab:List (Addr×Obj)}{σ:St}{H:Hp}{s:Shared}
theorem Vr.reword{a:Addr}{u w:HO}(I:Vr X ab σ H s)(h:H a=some u)(hu:¬Si u)(hw:∀y,u≠.own y)(nw:jd X.prog X.w H s.heap a w)(hw2:∀C dx fs,w≠.ins C dx fs):Vr X ab σ (Vj H a w) s:=by
 have ne:∀b,H b=none->b≠a:=λb n e=>by subst e;rw[h]at n;cases n
 have nt:∀b xs,H b=some (.tup xs)->b≠a:=λb xs n e=>by subst e;rw[h]at n;cases n;exact hu True.intro
 have nf:∀b o z,H b=some (.frz o z)->b≠a:=λb o z n e=>by subst e;rw[h]at n;cases n;exact hu True.intro
 have no:∀b z,H b=some (.own z)->b≠a:=λb z n e=>by subst e;rw[h]at n;cases n;exact hw _ rfl
 refine⟨I.ok,I.os,I.bare,⟨I.base.keep,I.base.slot,λb ob e n hx=>?_,I.base.there,λb xs e=>?_,λb ob z e=>?_,λb ps e=>?_⟩,I.loc,I.cell,?_,λx c e=>?_,λp hp=>?_,λb z e=>?_,I.len⟩
 . have q:=I.base.free b ob e n hx;rw[aH (ne b q)];exact q
 . have q:=I.base.tups b xs e;rw[aH (nt b xs q)];exact q
 . have q:=I.base.frzs b ob z e;rw[aH (nf b ob z q)];exact q
 . have q:=I.base.tbls b ps e;rw[aH (λz=>by subst z;rw[h]at q;cases q;exact hu True.intro)];exact q
 . rw[aH (ne _ I.free)];exact I.free
 .
  rcases I.freeC x c e with z|⟨hf,o,z⟩
  . exact .inl (by rw[aH (ne _ z)];exact z)
  . exact .inr ⟨hf,o,by rw[aH (nf _ _ _ z)];exact z⟩
 . obtain⟨e,n,r⟩:=I.pin p hp;exact⟨e,by rw[aH (ne _ n)];exact n,r⟩
 .
  by_cases hb:b=a
  . subst hb;rw[bu]at e;cases e;exact nw.stay (λc v _ q=>q) (λc q=>by rw[aH (no c _ q)];exact q) (λc xs q=>by rw[aH (nt c xs q)];exact q) λc ob _ _ q=>by rw[aH (nf c ob _ q)];exact q
  . rw[aH hb]at e;exact(I.hok b z e).stay (λc v _ q=>q) (λc q=>by rw[aH (no c _ q)];exact q) (λc xs q=>by rw[aH (nt c xs q)];exact q) λc ob _ _ q=>by rw[aH (nf c ob _ q)];exact q
theorem Vr.freezeL{a:Addr}{xs:List V}(I:Vr X ab σ H s)(h:H a=some (.lst xs)):∃o,Vr X ab σ (Vj H a (.frz o (.lst xs))) s:=by obtain⟨z,its,n,r,e⟩:=id (I.hok a _ h);exact⟨_,I.reword h (λq=>q) (λ_ q=>nomatch q) ⟨e,z,its,n,r,e⟩ (λ_ _ _ q=>nomatch q)⟩
end
section
variable{K:W.Frag}{Pr H:Hp}{σ:St}{Z:Ev}
theorem aJ.new(E:aJ K Pr H σ Z){p:Addr}{o:HO}(h:H p=none):aJ K Pr (Vj H p o) σ Z:=by
 have k:∀b u,H b=some u->Vj H p o b=some u:=λb u e=>by rw[aH (bC e h)];exact e
 exact⟨λb u e=>k b u (E.sub b u e),E.nd,E.off,Paired.impMem E.sl λl hl s q=>q.pres (λb u _ e=>k b u e) l λa e=>by
  obtain⟨vs,e,_⟩:=E.at_own (j5.mpr ⟨l,hl,e⟩)
  rw[k _ _ e,e]⟩
theorem bV.new{vs:List V}{ds:List D}(r:bV K H vs ds){p:Addr}{o:HO}(h:H p=none):bV K (Vj H p o) vs ds:=r.pres λb u _ e=>by rw[aH (bC e h)];exact e
theorem V6.new{v:V}{d:D}(r:V6 K H v d){p:Addr}{o:HO}(h:H p=none):V6 K (Vj H p o) v d:=r.pres λb u _ e=>by rw[aH (bC e h)];exact e
theorem sO:owns (.un::Z)=owns Z:=rfl
theorem bg{a:Addr}{xs:List D}:owns (.own a xs::Z)=a::owns Z:=rfl
theorem aJ.cons_d(E:aJ K Pr H σ Z){v:V}{x:D}(r:V6 K H v x):aJ K Pr H (some v::σ) (.d x::Z):=⟨E.sub,E.nd,E.off,.cons ⟨v,rfl,r⟩ E.sl⟩
theorem aJ.cons_un(E:aJ K Pr H σ Z){v:Option V}:aJ K Pr H (v::σ) (.un::Z):=⟨E.sub,E.nd,E.off,.cons True.intro E.sl⟩
theorem aJ.cons_own(E:aJ K Pr H σ Z){p:Addr}{vs:List V}{xs:List D}(h:H p=none)(r:bV K H vs xs):aJ K Pr (Vj H p (.lst vs)) (some (.ref p)::σ) (.own p xs::Z):=by
 have E':=E.new (o:=.lst vs) h;refine⟨E'.sub,?_,λa ha=>?_,.cons ⟨rfl,vs,bu,r.new h⟩ E'.sl⟩
 . rw[bg];refine aav.mpr ⟨λhm=>?_,E.nd⟩;obtain⟨us,e,_⟩:=E.at_own hm;rw[h]at e;cases e
 .
  rw[bg]at ha;rcases ZU.mp ha with rfl|ha
  .
   cases q:Pr a with
   |none=>rfl
   |some u=>rw[E.sub a u q]at h;cases h
  . exact E.off a ha
theorem aJ.cons_tup(E:aJ K Pr H σ Z){p:Addr}{vs:List V}{xs:List D}(h:H p=none)(r:bV K H vs xs):aJ K Pr (Vj H p (.tup vs)) (some (.ref p)::σ) (.d (.tup xs)::Z) :=
 (E.new h).cons_d (.tup (Vz.of bu) (r.new h))
theorem aJ.freeze(E:aJ K Pr H σ (.own a xs::Z)){vs:List V}(h:H a=some (.lst vs))(o:Obj):aJ K Pr (Vj H a (.frz o (.lst vs))) σ (.d (.lst xs)::Z):=by
 have pa:Pr a=none:=E.off a (by rw[bg];exact k4);have nd:=E.nd;rw[bg]at nd;obtain⟨hn,nd⟩:=aav.mp nd;have p:ye H (Vj H a (.frz o (.lst vs))):=λb u pu e=>by rw[aH];exact e;rintro rfl;rw[h]at e;cases e;exact pu
 refine⟨λb u e=>?_,nd,λb hb=>E.off b (by rw[bg];exact fI _ hb),?_⟩
 . rw[aH];exact E.sub b u e;rintro rfl;rw[pa]at e;cases e
 .
  have sl:=E.sl
  cases sl with
  | cons q t =>
   obtain⟨e,us,e2,r⟩:=q;rw[h]at e2;cases e2;refine .cons ⟨.ref a,e,.lst (.inl ⟨o,bu⟩) (r.pres p)⟩ (Paired.impMem t λl hl s z=>z.pres p l λb hbm=>?_);rw[aH];rintro rfl;exact hn (j5.mpr ⟨l,hl,hbm⟩)
theorem aT(l:L)(Z:Ev):owns (l::Z)=bj l++owns Z:=rfl
theorem jC{k:L}:∀{Z:Ev}{i:Nat}{l:L},Z[i]?=some k->bj l=[]->(owns Z).Perm (bj k++owns (Z.set i l))
 |[],_,_,h,_=>by simp at h
 | _::Z,0,l,h,hl=>by simp at h;subst h;show(owns (_::Z)).Perm (_++owns (l::Z));rw[aT,aT,hl];exact List.Perm.refl _
 | m::Z,i+1,l,h,hl=>by have ih:=jC (i:=i) (Z:=Z) (l:=l) (by simpa using h) hl;show(owns (m::Z)).Perm (bj k++owns (m::Z.set i l));rw[aT,aT];refine(List.Perm.append_left _ ih).trans ?_;rw[<- aaJ,<- aaJ];exact List.Perm.append_right _ aaO
theorem Hn{a:Addr}{xs:List D}{Z:Ev}{i:Nat}{l:L}(h:Z[i]?=some (.own a xs))(hl:bj l=[]):(owns Z).Perm (a::owns (Z.set i l)):=jC h hl
theorem Ef{Z:Ev}{i:Nat}(l:L)(h:Z[i]?=some .un):(owns (Z.set i l)).Perm (bj l++owns Z):=by
 have hi:i<Z.length:=(so.mp h).1;have pm:=jC (Z:=Z.set i l) (i:=i) (k:=l) (l:=.un) (by simp[hi]) rfl;rw[abz]at pm;have e2:Z.set i .un=Z:=by have:=List.set_getElem_self (as:=Z) (i:=i) hi;have e3:Z[i]=.un:=(so.mp h).2;rw[e3]at this;exact this
 rw[e2]at pm;exact pm
theorem aJ.outL(E:aJ K Pr H σ Z){i:Nat}{k:L}{s:Option V}(h:Z[i]?=some k)(hs:σ[i]?=some s):aJ K Pr H (s::σ) (k::Z.set i .un):=by have pm:=jC (l:=.un) h rfl;obtain⟨s',hs',q⟩:=Paired.get2 E.sl h;rw[hs]at hs';cases hs';refine⟨E.sub,?_,λb hb=>E.off b (pm.mem_iff.mpr (by rw[aT]at hb;exact hb)),.cons q (Paired.set_r i E.sl λ_ _=>by simp only[bf])⟩;rw[aT];exact pm.nodup_iff.mp E.nd
theorem aJ.out(E:aJ K Pr H σ Z){i:Nat}{a:Addr}{xs:List D}(h:Z[i]?=some (.own a xs)):aJ K Pr H (some (.ref a)::σ) (.own a xs::Z.set i .un):=by
 have pm:=Hn (l:=.un) h rfl;obtain⟨s,hs,q⟩:=Paired.get2 E.sl h;refine⟨E.sub,?_,λb hb=>E.off b (pm.mem_iff.mpr (by rw[bg]at hb;exact hb)),.cons ?_ (Paired.set_r i E.sl λ_ _=>by simp only[bf])⟩
 . rw[bg];exact pm.nodup_iff.mp E.nd
 . obtain⟨_,r⟩:=q;exact⟨rfl,r⟩
theorem aJ.back{v:Option V}{l:L}(E:aJ K Pr H (v::σ) (l::Z)){i:Nat}(h:Z[i]?=some .un)(hs:σ[i]?=some v):aJ K Pr H σ (Z.set i l):=by
 have sl:=E.sl
 cases sl with
 | cons q t =>
  have e1:Z.set i l=(Z.set i l):=rfl;refine⟨E.sub,?_,λb hb=>?_,Paired.set_r i t λa e=>by rw[hs]at e;cases e;exact q⟩
  . exact(Ef l h).nodup_iff.mpr E.nd
  . exact E.off b ((Ef l h).mem_iff.mp hb)
theorem aJ.write(E:aJ K Pr H σ (.own a xs::Z)){vs:List V}{ys:List D}(r:bV K H vs ys):aJ K Pr (Vj H a (.lst vs)) σ (.own a ys::Z):=by
 have pa:Pr a=none:=E.off a (by rw[bg];exact k4);have nd:=E.nd;rw[bg]at nd;obtain⟨hn,nd'⟩:=aav.mp nd;obtain⟨us,ha,mu⟩:=E.at_own (a:=a) (by rw[bg];exact k4);have p:ye H (Vj H a (.lst vs)):=λb u pu e=>by rw[aH];exact e;rintro rfl;rw[ha]at e;cases e;exact mu.no pu
 refine⟨λb u e=>?_,nd,λb hb=>E.off b hb,?_⟩
 . rw[aH];exact E.sub b u e;rintro rfl;rw[pa]at e;cases e
 .
  have sl:=E.sl
  cases sl with
  | cons q t =>
   obtain⟨e,_⟩:=q;refine .cons ⟨e,vs,bu,r.pres p⟩ (Paired.impMem t λl hl s z=>z.pres p l λb hbm=>?_);rw[aH];rintro rfl;exact hn (j5.mpr ⟨l,hl,hbm⟩)
end
noncomputable abbrev W(α:Type):=Ev->(α->Ev->Prop)->Prop
inductive Fl where
 |nx|bk|ct|rt (r:L)
inductive EL (X:Cx) (ab:List (Addr×Obj)) (σ:St) (Pr:Hp) (js:L->Ev->Prop) (u:Value) (s':Shared):Prop
 |mk (v:V) (H':Hp) (r:L) (Z':Ev) (i:Vr X ab σ H' s') (q:cO v u) (e:aJ X.K Pr H' (some v::σ) (r::Z')) (p:js r Z')
theorem EL.on{G:Prop}{X:Cx}{ab:List (Addr×Obj)}{σ:St}{Pr:Hp}{js:L->Ev->Prop}{u:Value}{s':Shared}(h:EL X ab σ Pr js u s')(k:∀v H' r Z',Vr X ab σ H' s'->cO v u->aJ X.K Pr H' (some v::σ) (r::Z')->js r Z'->G):G:=by cases h with|mk a b c d e f g h=>exact k a b c d e f g h
def PL(X:Cx)(e:Expr)(t:W L):Prop :=
 ∀(ab:List (Addr×Obj))(s:Shared)(σ:St)(H Pr:Hp)(Z:Ev)(js:L->Ev->Prop),Vr X ab σ H s->aJ X.K Pr H σ Z->t Z js->wpAny (model X.prog X.w) X.A (eval e X.env) (EL X ab σ Pr js) X.xe s
inductive EB (X:Cx) (ab:List (Addr×Obj)) (σ:St) (Pr:Hp) (js:Bool->Ev->Prop) (b:Bool) (s':Shared):Prop
 |mk (H':Hp) (Z':Ev) (i:Vr X ab σ H' s') (e:aJ X.K Pr H' σ Z') (p:js b Z')
theorem EB.on{G:Prop}{X:Cx}{ab:List (Addr×Obj)}{σ:St}{Pr:Hp}{js:Bool->Ev->Prop}{b:Bool}{s':Shared}(h:EB X ab σ Pr js b s')(k:∀H' Z',Vr X ab σ H' s'->aJ X.K Pr H' σ Z'->js b Z'->G):G:=by cases h with|mk a c d e f=>exact k a c d e f
def PB(X:Cx)(e:Expr)(t:W Bool):Prop :=
 ∀(ab:List (Addr×Obj))(s:Shared)(σ:St)(H Pr:Hp)(Z:Ev)(js:Bool->Ev->Prop),Vr X ab σ H s->aJ X.K Pr H σ Z->t Z js->wpAny (model X.prog X.w) X.A (isTrue e X.env (eval e X.env)) (EB X ab σ Pr js) X.xe s
inductive EA (X:Cx) (ab:List (Addr×Obj)) (σ:St) (Pr:Hp) (bs:List (Option Nat)) (js:List L->Ev->Prop) (us:List Value) (s':Shared):Prop
 |mk (vs:List V) (H':Hp) (ls:List L) (Z':Ev) (i:Vr X ab σ H' s') (q:dA vs us) (hl:vs.length=ls.length) (hb:vs.length=bs.length) (e:aJ X.K Pr H' (vs.map some++σ) (ls++Z')) (o:∀(k i:Nat),bs[k]?=some (some i)->ls[k]?=some L.un/\∃v,vs[k]?=some v/\σ[i]?=some (some v)) (p:js ls Z')
theorem EA.on{G:Prop}{X:Cx}{ab:List (Addr×Obj)}{σ:St}{Pr:Hp}{bs:List (Option Nat)}{js:List L->Ev->Prop}{us:List Value}{s':Shared}(h:EA X ab σ Pr bs js us s')(k:∀vs H' ls Z',Vr X ab σ H' s'->dA vs us->vs.length=ls.length->vs.length=bs.length->aJ X.K Pr H' (vs.map some++σ) (ls++Z')->(∀(k i:Nat),bs[k]?=some (some i)->ls[k]?=some L.un/\∃v,vs[k]?=some v/\σ[i]?=some (some v))->js ls Z'->G):G:=by cases h with|mk a b c d e f g i j l m=>exact k a b c d e f g i j l m
def V8(X:Cx)(es:List Expr)(bs:List (Option Nat))(t:W (List L)):Prop :=
 ∀(pos:Pos)(ab:List (Addr×Obj))(s:Shared)(σ:St)(H Pr:Hp)(Z:Ev)(js:List L->Ev->Prop),Vr X ab σ H s->aJ X.K Pr H σ Z->t Z js ->
  wpAny (model X.prog X.w) X.A (spliced (backTo pos (starEach es X.env))) (EA X ab σ Pr bs js) X.xe s
inductive V9 (X:Cx) (ab:List (Addr×Obj)) (Pr:Hp) (js:Ev->Prop) (s':Shared):Prop
 |mk (σ':St) (H':Hp) (Z':Ev) (i:Vr X ab σ' H' s') (e:aJ X.K Pr H' σ' Z') (p:js Z')
inductive Wa (X:Cx) (ab:List (Addr×Obj)) (Pr:Hp) (js:L->Ev->Prop) (u:Value) (s':Shared):Prop
 |mk (v:V) (σ':St) (H':Hp) (r:L) (Z':Ev) (τ:St) (i:Vr X ab σ' H' s') (q:cO v u) (e:aJ X.K Pr H' (some v::τ) (r::Z')) (p:js r Z')
def SM(X:Cx)(ab:List (Addr×Obj))(Pr:Hp)(js:Fl->Ev->Prop)(f:Flow)(s':Shared):Prop :=
 match f with
 |.next=>V9 X ab Pr (js .nx) s'
 |.brk=>V9 X ab Pr (js .bk) s'
 |.cont=>V9 X ab Pr (js .ct) s'
 |.ret u=>Wa X ab Pr (λr=>js (.rt r)) u s'
def PM(X:Cx)(st:Stmt)(t:W Fl):Prop :=
 ∀(ab:List (Addr×Obj))(s:Shared)(σ:St)(H Pr:Hp)(Z:Ev)(js:Fl->Ev->Prop),Vr X ab σ H s->aJ X.K Pr H σ Z->t Z js->wpAny (model X.prog X.w) X.A (exec st X.env) (SM X ab Pr js) X.xe s
def Wb(X:Cx)(st:List Stmt)(t:W Fl):Prop :=
 ∀(ab:List (Addr×Obj))(s:Shared)(σ:St)(H Pr:Hp)(Z:Ev)(js:Fl->Ev->Prop),Vr X ab σ H s->aJ X.K Pr H σ Z->t Z js->wpAny (model X.prog X.w) X.A (execs st X.env) (SM X ab Pr js) X.xe s
section
variable{X:Cx}{e a b:Expr}{pos:Pos}{ta tb:W L}
theorem PL.of{t:TE}{u:W L}(h:PE X e t)(q:∀σ H Pr Z js,aJ X.K Pr H σ Z->u Z js->t σ H λv H'=>∃r Z',aJ X.K Pr H' (some v::σ) (r::Z')/\js r Z'):PL X e u :=
 λab s σ H Pr Z js I E hu=>Vv (h ab s σ H _ I (q σ H Pr Z js E hu)) λu s1 ⟨v,H1,I1,r1,r,Z',E1,p⟩=>⟨v,H1,r,Z',I1,r1,E1,p⟩
mutual
noncomputable def bJ:L->Option D
 |.un=>none
 |.d x=>some x
 |.own _ xs=>some (.lst xs)
 |.bx none ls=>(cP ls).map .tup
 |.bx (some _) ls=>(cP ls).map .lst
 |.dic _ _=>none
noncomputable def cP:List L->Option (List D)
 |[]=>some []
 | l::ls=>match bJ l,cP ls with
  |some x,some xs=>some (x::xs)
  |_,_=>none
end
def ft:Option D->(D->Prop)->Prop
 |some x,k=>k x
 |none,_=>False
theorem FV{o:Option D}{k:D->Prop}(h:ft o k):∃x,o=some x/\k x:=by
 cases o with
 |some x=>exact⟨x,rfl,h⟩
 |none=>exact h.elim
def GT(a:Option Addr)(ls:List L)(k:D->Prop):Prop:=ft (bJ (.bx a ls)) k
def Wc:L->(D->Prop)->Prop
 |.un,_=>False
 |.d x,k=>k x
 |.own _ xs,k=>k (.lst xs)
 |.bx a ls,k=>GT a ls k
 |.dic _ _,_=>False
theorem yN{a:Option Addr}{ls:List L}{k:D->Prop}(h:GT a ls k):∃x,bJ (.bx a ls)=some x/\k x:=FV h
def KN(ls:List L)(k:List D->Prop):Prop:=∃xs,cP ls=some xs/\k xs
theorem QK(ls:List L)(k:D->Prop):GT none ls k=KN ls λxs=>k (.tup xs):=by
 unfold GT KN;simp only[bJ]
 cases cP ls with
 |none=>simp[ft]
 |some xs=>simp[ft]
theorem QL(a:Addr)(ls:List L)(k:D->Prop):GT (some a) ls k=KN ls λxs=>k (.lst xs):=by
 unfold GT KN;simp only[bJ]
 cases cP ls with
 |none=>simp[ft]
 |some xs=>simp[ft]
theorem KO(k:List D->Prop):KN [] k=k []:=by unfold KN;simp[cP]
theorem N1(l:L)(k:D->Prop):Wc l k=∃x,bJ l=some x/\k x:=by
 cases l with
 |un=>simp[Wc,bJ]
 |d x=>simp[Wc,bJ]
 |own a xs=>simp[Wc,bJ]
 | bx a ls =>
  show ft _ k=_
  cases bJ (.bx a ls)with
  |none=>simp[ft]
  |some x=>simp[ft]
 |dic a kvs=>simp[Wc,bJ]
theorem Ho(l:L)(ls:List L)(k:List D->Prop):KN (l::ls) k=Wc l λx=>KN ls λxs=>k (x::xs):=by
 rw[N1];unfold KN;simp only[cP]
 cases bJ l with
 |none=>simp
 | some x =>
  cases cP ls with
  |none=>simp
  |some xs=>simp
theorem eB{K:W.Frag}{H:Hp}:∀{vs:List V}{ls:List L},cz K H vs ls↔Paired (bf K H) (vs.map some) ls
 |[],[]=>⟨λ_=>.nil,λ_=>by simp only[cz]⟩
 | v::vs,l::ls=>by
  simp only[cz,aae];constructor
  . rintro⟨w,us,e,h1,h2⟩;cases e;exact .cons h1 (eB.mp h2)
  .
   intro h
   cases h with
   |cons q t=>exact⟨v,vs,rfl,q,eB.mpr t⟩
 | [],l::ls=>by
  simp only[cz,List.map_nil];constructor
  . rintro⟨w,us,e,_⟩;cases e
  . intro h;cases h
 | v::vs,[]=>by
  simp only[cz,aae];constructor
  . intro h;cases h
  . intro h;cases h
theorem CF{K:W.Frag}{H:Hp}:∀{vs:List V}{xs:List D},Paired (bf K H) (vs.map some) (xs.map .d)->bV K H vs xs
 |[],[],_=>.nil
 | v::vs,x::xs,h=>by
  simp only[aae]at h
  cases h with
  | cons q t =>
   simp only[bf]at q;obtain⟨w,e,r⟩:=q;cases e;exact .cons r (CF t)
 |[],_::_,h=>by simp only[aae,List.map_nil]at h;cases h
 |_::_,[],h=>by simp only[aae,List.map_nil]at h;cases h
theorem cz.len{K:W.Frag}{H:Hp}{vs:List V}{ls:List L}(h:cz K H vs ls):vs.length=ls.length:=by have:=Paired.length (eB.mp h);simpa using this
theorem j6:∀{ls:List L}{xs:List D},cP ls=some xs->xs.length=ls.length
 |[],_,h=>by simp[cP]at h;subst h;rfl
 | l::ls,xs,h=>by
  simp only[cP]at h;split at h
  . rename_i x ys h1 h2;cases h;simp[j6 h2]
  . cases h
theorem aJ.openT{K:W.Frag}{Pr H:Hp}{σ:St}{Z:Ev}{v:Option V}{ls:List L}(E:aJ K Pr H (v::σ) (.bx none ls::Z)):∃a vs,v=some (.ref a)/\Vz K H a vs/\vs.length=ls.length/\aJ K Pr H (vs.map some++σ) (ls++Z):=by
 have sl:=E.sl
 cases sl with
 | cons q t =>
  simp only[bf]at q;obtain⟨a,vs,e,h,r⟩:=q;have ow:owns (.bx none ls::Z)=owns (ls++Z):=by rw[aT,aK];simp only[bj,Option.toList,aa5,fV]
  exact⟨a,vs,e,h,r.len,E.sub,by rw[<- ow];exact E.nd,λb hb=>E.off b (by rw[ow];exact hb),Paired.app (eB.mp r) t⟩
theorem aJ.openO{K:W.Frag}{Pr H:Hp}{σ:St}{Z:Ev}{v:Option V}{a:Addr}{ls:List L}(E:aJ K Pr H (v::σ) (.bx (some a) ls::Z)):∃vs,v=some (.ref a)/\H a=some (.lst vs)/\vs.length=ls.length/\a∉owns (ls++Z)/\Pr a=none/\aJ K Pr H (vs.map some++σ) (ls++Z):=by
 have sl:=E.sl
 cases sl with
 | cons q t =>
  simp only[bf]at q;obtain⟨e,vs,h,r⟩:=q;have ow:owns (.bx (some a) ls::Z)=a::owns (ls++Z):=by rw[aT,aK];simp only[bj,Option.toList,abV,aa5,fV]
  have nd:=E.nd;rw[ow]at nd;obtain⟨n1,n2⟩:=aav.mp nd;exact⟨vs,e,h,r.len,n1,E.off a (by rw[ow];exact k4),E.sub,n2,λb hb=>E.off b (by rw[ow];exact fI _ hb),Paired.app (eB.mp r) t⟩
def sP(H H':Hp)(S:List Addr):Prop:=ye H H'/\(∀b,b∉S->H' b=H b)/\∀a∈S,∀vs,H a=some (.lst vs)->∃o,H' a=some (.frz o (.lst vs))
theorem sP.refl(H:Hp):sP H H []:=⟨λ_ _ _ e=>e,λ_ _=>rfl,λ_ h=>by simp at h⟩
mutual
theorem QM:∀(l:L){ab:List (Addr×Obj)}{σ0:St}{s:Shared}{Pr H:Hp}{σ:St}{Z:Ev}{v:Option V}{x:D},Vr X ab σ0 H s->aJ X.K Pr H (v::σ) (l::Z)->bJ l=some x->∃H',Vr X ab σ0 H' s/\aJ X.K Pr H' (v::σ) (.d x::Z)/\sP H H' (bj l)
 |.un,_,_,_,_,_,_,_,_,_,_,_,h=>by simp[bJ]at h
 |.dic _ _,_,_,_,_,_,_,_,_,_,_,_,h=>by simp[bJ]at h
 | .d y,_,_,_,_,_,_,_,_,_,I,E,h=>by
  simp only[bJ,aat]at h
  subst h
  exact⟨_,I,E,sP.refl _⟩
 | .own a xs,_,_,_,_,H,σ,Z,v,_,I,E,h=>by
  simp only[bJ,aat]at h
  subst h
  have sl:=E.sl
  cases sl with
  | cons q t =>
   simp only[bf]at q
   obtain⟨e0,vs,ha,r⟩:=q
   obtain⟨o,I'⟩:=I.freezeL ha
   refine⟨_,I',E.freeze ha o,λb u pu eb=>?_,λb hb=>?_,λb hb vs' eb=>?_⟩
   .
    rw[aH];exact eb
    rintro rfl
    rw[ha]at eb;cases eb;exact pu
   .
    rw[aH]
    rintro rfl
    exact hb (by simp[bj])
   .
    have e:b=a:=by simpa[bj]using hb
    subst e
    rw[ha]at eb;cases eb
    exact⟨o,bu⟩
 | .bx none ls,_,_,_,Pr,H,σ,Z,v,x,I,E,h=>by
  simp only[bJ,Option.map_eq_some_iff]at h
  obtain⟨xs,h,rfl⟩:=h
  obtain⟨a,vs,rfl,ha,hl,E1⟩:=E.openT
  obtain⟨H',I',E',F⟩:=N2 ls hl I E1 h
  have hxl:=j6 h
  obtain⟨s1,s2⟩:=Paired.unapp (by simp[hl,hxl]) E'.sl
  refine⟨H',I',(E'.drop (by simp[hl,hxl])).cons_d (.tup (ha.pres F.1) (CF s1)),F.1,λb hb=>F.2.1 b ?_,λb hb=>F.2.2 b ?_⟩
  .
   simpa[bj,fV]using hb
  .
   simpa[bj,fV]using hb
 | .bx (some a) ls,_,_,_,Pr,H,σ,Z,v,x,I,E,h=>by
  simp only[bJ,Option.map_eq_some_iff]at h
  obtain⟨xs,h,rfl⟩:=h
  obtain⟨vs,rfl,ha,hl,hn,hp,E1⟩:=E.openO
  obtain⟨H',I',E',F⟩:=N2 ls hl I E1 h
  have hxl:=j6 h
  have hal:a∉owns ls:=λz=>hn (by rw[aK];exact aaj _ z)
  have haρ:a∉owns Z:=λz=>hn (by rw[aK];exact aad _ z)
  have ha':H' a=some (.lst vs):=(F.2.1 a hal).trans ha
  obtain⟨s1,s2⟩:=Paired.unapp (by simp[hl,hxl]) E'.sl
  have E2:=E'.drop (by simp[hl,hxl])
  have E3:aJ X.K Pr H' (some (.ref a)::σ) (.own a xs::Z):=by
   refine⟨E2.sub,?_,λb hb=>?_,.cons ?_ E2.sl⟩
   .
    rw[bg];exact aav.mpr ⟨haρ,E2.nd⟩
   .
    rw[bg]at hb
    rcases ZU.mp hb with z|z
    .
     rw[z];exact hp
    .
     exact E2.off b z
   .
    unfold bf
    exact⟨rfl,vs,ha',CF s1⟩
  obtain⟨o,I2⟩:=I'.freezeL ha'
  refine⟨_,I2,E3.freeze ha' o,λb u pu e=>?_,λb hb=>?_,λb hb vs' eb=>?_⟩
  .
   rw[aH];exact F.1 b u pu e
   rintro rfl
   rw[ha]at e;cases e;exact pu
  .
   have hb':b≠a/\b∉owns ls:=by simpa[bj,fV,not_or]using hb
   rw[aH hb'.1]
   exact F.2.1 b hb'.2
  .
   by_cases hba:b=a
   .
    subst hba
    rw[ha]at eb;cases eb
    exact⟨o,bu⟩
   .
    have hb':b∈owns ls:=by
     rcases(by simpa[bj,fV]using hb:b=a∨b∈owns ls)with z|z
     .
      exact absurd z hba
     .
      exact z
    rw[aH hba]
    exact F.2.2 b hb' vs' eb
theorem N2:∀(ls:List L){ab:List (Addr×Obj)}{σ0:St}{s:Shared}{Pr H:Hp}{σ:St}{Z:Ev}{vs:List V}{xs:List D},vs.length=ls.length->Vr X ab σ0 H s->aJ X.K Pr H (vs.map some++σ) (ls++Z)->cP ls=some xs->∃H',Vr X ab σ0 H' s/\aJ X.K Pr H' (vs.map some++σ) (xs.map .d++Z)/\sP H H' (owns ls)
 | [],_,_,_,_,_,_,_,vs,xs,hl,I,E,h=>by
  simp only[cP,aat]at h
  subst h
  cases vs with
  |nil=>exact⟨_,I,E,sP.refl _⟩
  |cons _ _=>simp at hl
 | l::ls,_,_,_,Pr,H,σ,Z,vs,xs,hl,I,E,h=>by
  simp only[cP]at h
  split at h
  rotate_left
  .
   cases h
  rename_i x ys h1 h2
  cases h
  cases vs with
  |nil=>simp at hl
  | cons v vs =>
   have hl':vs.length=ls.length:=by simpa using hl
   obtain⟨H1,I1,E1,F1⟩:=QM l I E h1
   have E2:aJ X.K (bD H1 (ls++Z)) H1 (vs.map some++σ) (ls++Z):=(E1.drop (τ:=[some v]) (lam:=[.d x]) rfl).wide
   obtain⟨H2,I2,E3,F2⟩:=N2 ls hl' I1 E2 h2
   have hyl:=j6 h2
   have E4:aJ X.K Pr H2 (some v::(vs.map some++σ)) (.d x::(ys.map .d++Z)):=by
    have z:=aJ.step (τ:=[some v]) (lam:=[.d x]) (w:=[]) (μ:=[]) (σ':=vs.map some++σ) (Z':=ys.map .d++Z) E1 rfl E3 rfl
    exact z
   refine⟨H2,I2,E4,λb u pu e=>F2.1 b u pu (F1.1 b u pu e),λb hb=>?_,λb hb vs' eb=>?_⟩
   .
    rw[aT]at hb
    rw[F2.2.1 b (λz=>hb (aad _ z)),F1.2.1 b (λz=>hb (aaj _ z))]
   .
    rw[aT]at hb
    rcases aap.mp hb with z|z
    .
     obtain⟨o,eo⟩:=F1.2.2 b z vs' eb
     exact⟨o,F2.1 b _ True.intro eo⟩
    .
     have hn:b∉bj l:=λz'=>by
      have nd:=E.nd
      rw[abV,aT,aK]at nd
      exact(aaz.mp nd).2.2 b z' b (aaj _ z) rfl
     exact F2.2.2 b z vs' ((F1.2.1 b hn).trans eb)
end
theorem EL.frz{ab:List (Addr×Obj)}{σ:St}{Pr:Hp}{js:D->Ev->Prop}{u:Value}{s':Shared}(h:EL X ab σ Pr (λr Z=>Wc r λx=>js x Z) u s') :
  ∃v H' x Z',Vr X ab σ H' s'/\cO v u/\aJ X.K Pr H' (some v::σ) (.d x::Z')/\js x Z':=by
 obtain⟨v,H',r,Z',I,rv,E,p⟩:=h
 cases r with
 |un=>exact p.elim
 |d x=>exact⟨v,H',x,Z',I,rv,E,p⟩
 | own a xs =>
  obtain⟨H2,I2,E2,_⟩:=QM (.own a xs) I E rfl;exact⟨v,H2,.lst xs,Z',I2,rv,E2,p⟩
 | bx a ls =>
  obtain⟨x,ex,p⟩:=yN p;obtain⟨H2,I2,E2,_⟩:=QM (.bx a ls) I E ex;exact⟨v,H2,x,Z',I2,rv,E2,p⟩
 |dic a kvs=>exact p.elim
def bz(t:W L):W L:=λZ js=>t Z λr Z1=>Wc r λx=>js (.d x) Z1
theorem aA{t:W L}(h:PL X e t):PL X e (bz t):=λab s σ H Pr Z js I E ht =>
 Vv (h ab s σ H Pr Z _ I E ht) λu s1 q=>by obtain⟨v,H',x,Z',I',rv,E',p⟩:=EL.frz (js:=λx Z=>js (.d x) Z) q;exact⟨v,H',.d x,Z',I',rv,E',p⟩
theorem aJ.head_d{K:W.Frag}{Pr H:Hp}{v:Option V}{σ:St}{x:D}{Z:Ev}(E:aJ K Pr H (v::σ) (.d x::Z)):∃w,v=some w/\V6 K H w x:=by
 have sl:=E.sl
 cases sl with
 |cons q t=>exact q
theorem aJ.tail{K:W.Frag}{Pr H:Hp}{v:Option V}{σ:St}{l:L}{Z:Ev}(E:aJ K Pr H (v::σ) (l::Z)):aJ K Pr H σ Z:=aJ.drop (τ:=[v]) (lam:=[l]) E rfl
theorem two{ab:List (Addr×Obj)}{s:Shared}{σ:St}{H Pr:Hp}{Z:Ev}{R:D->D->Ev->Prop}(ha:PL X a ta)(hb:PL X b tb)(I:Vr X ab σ H s)(E:aJ X.K Pr H σ Z)
  (h:ta Z λx Z1=>Wc x λdx=>tb Z1 λy Z2=>Wc y λdy=>R dx dy Z2) {α:Type} {Q:α->Shared->Prop} {f:Value->Value->Sem α}
  (hf:∀v u s2 x y H2 dx dy Z2,Vr X ab σ H2 s2->cO x v->cO y u->aJ X.K Pr H2 (some y::some x::σ) (.d dy::.d dx::Z2)->V6 X.K H2 x dx->V6 X.K H2 y dy->R dx dy Z2->wpAny (model X.prog X.w) X.A (f v u) Q X.xe s2) :
  wpAny (model X.prog X.w) X.A (eval a X.env) (λv s₁=>wpAny (model X.prog X.w) X.A (eval b X.env) (λu s₂=>wpAny (model X.prog X.w) X.A (f v u) Q X.xe s₂) X.xe s₁) X.xe s:=by
 refine Vv (ha ab s σ H Pr Z _ I E h) λv s1 q=>?_;obtain⟨x,H1,dx,Z1,I1,r1,E1,q1⟩:=EL.frz (js:=λdx Z1=>tb Z1 λy Z2=>Wc y λdy=>R dx dy Z2) q;refine Vv (hb ab s1 σ H1 _ Z1 _ I1 E1.tail.wide q1) λu s2 q=>?_;obtain⟨y,H2,dy,Z2,I2,r2,E2,q2⟩:=EL.frz (js:=λdy Z2=>R dx dy Z2) q;have E3:aJ X.K Pr H2 (some y::some x::σ) (.d dy::.d dx::Z2):=aJ.step (τ:=[some x]) (lam:=[.d dx]) (w:=[some y]) (μ:=[.d dy]) E1 rfl E2 rfl;obtain⟨_,e1,p1⟩:=E3.head_d;obtain⟨_,e2,p2⟩:=E3.tail.head_d;cases e1;cases e2;exact hf v u s2 x y H2 dx dy Z2 I2 r1 r2 E3 p2 p1 q2
abbrev Wd:=D->D->(L->Prop)->Prop
def We(X:Cx)(f:Value->Value->Sem Value)(op:Wd):Prop :=
 ∀(ab:List (Addr×Obj))(s:Shared)(σ:St)(H Pr:Hp)(Z:Ev)(x y:V)(v u:Value)(dx dy:D)(js:L->Prop),Vr X ab σ H s->cO x v->cO y u->aJ X.K Pr H σ Z->V6 X.K H x dx->V6 X.K H y dy->op dx dy js ->
  wpAny (model X.prog X.w) X.A (f v u) (λw s'=>∃z H' r,Vr X ab σ H' s'/\cO z w/\aJ X.K Pr H' (some z::σ) (r::Z)/\js r) X.xe s
theorem We.of{f:Value->Value->Sem Value}{r:R2}{op:Wd}(h:VG X f r)(q:∀σ H Pr Z x y dx dy js,aJ X.K Pr H σ Z->V6 X.K H x dx->V6 X.K H y dy->op dx dy js->r x y H λz H'=>∃r,aJ X.K Pr H' (some z::σ) (r::Z)/\js r):We X f op :=
 λab s σ H Pr Z x y v u dx dy js I rx ry E px py ho=>Vv (h ab s σ H x y v u _ I rx ry (q σ H Pr Z x y dx dy js E px py ho)) λw s' ⟨z,H',I',rz,r,E',p⟩=>⟨z,H',r,I',rz,E',p⟩
theorem We.imp{f:Value->Value->Sem Value}{o1 o2:Wd}(h1:We X f o1)(h:∀x y p,o2 x y p->o1 x y p):We X f o2 :=
 λab s σ H Pr Z x y v u dx dy js I rx ry E px py ho=>h1 ab s σ H Pr Z x y v u dx dy js I rx ry E px py (h _ _ _ ho)
def au(op:Wd)(ta tb:W L):W L:=λZ js=>ta Z λx Z1=>Wc x λdx=>tb Z1 λy Z2=>Wc y λdy=>op dx dy λr=>js r Z2
theorem aG{op:Operator}{o:Wd}(ho:We X (binaryOp op) o)(ha:PL X a ta)(hb:PL X b tb):PL X (.BinOp a op b pos) (au o ta tb):=λab s σ H Pr Z js I E h =>
 wpAny_BinOp (two (R:=λdx dy Z2=>o dx dy λr=>js r Z2) ha hb I E h λv u s2 x y H2 dx dy Z2 I2 r1 r2 E2 p1 p2 q =>
  Vv (ho ab s2 σ H2 Pr Z2 x y v u dx dy _ I2 r1 r2 E2.tail.tail p1 p2 q) λw s3 ⟨z,H3,r,I3,rz,E3,p⟩=>⟨z,H3,r,Z2,I3,rz,E3,p⟩)
theorem bW{op:CmpOp}{o:Wd}(ho:We X (compareOp op) o)(ha:PL X a ta)(hb:PL X b tb)(hm:behindInMarks op b=false):PL X (.Compare a [op] [b] pos) (au o ta tb):=λab s σ H Pr Z js I E h =>
 wpAny_Compare1 (two (R:=λdx dy Z2=>o dx dy λr=>js r Z2) ha hb I E h λv u s2 x y H2 dx dy Z2 I2 r1 r2 E2 p1 p2 q =>
  Vv (ho ab s2 σ H2 Pr Z2 x y v u dx dy _ I2 r1 r2 E2.tail.tail p1 p2 q) λw s3 ⟨z,H3,r,I3,rz,E3,p⟩=>⟨z,H3,r,Z2,I3,rz,E3,p⟩) hm
def wC(x:D):W L:=λZ js=>js (.d x) Z
theorem ah {i j pos}:PL X (.Constant (.int i) j pos) (wC (.int i)):=PL.of Qn λσ H Pr Z js E h=>⟨_,_,E.cons_d (.int i),h⟩
theorem fu {b j pos}:PL X (.Constant (.bool b) j pos) (wC (.bl b)):=PL.of Sq λσ H Pr Z js E h=>⟨_,_,E.cons_d (.bl b),h⟩
theorem nR {j pos}:PL X (.Constant .none j pos) (wC .non):=PL.of Qo λσ H Pr Z js E h=>⟨_,_,E.cons_d .non,h⟩
theorem uL {x j pos}:PL X (.Constant (.str x) j pos) (wC (.str x)):=PL.of Qp λσ H Pr Z js E h=>⟨_,_,E.cons_d (.str x),h⟩
def QN(o:Option L)(i:Nat)(Z:Ev)(js:L->Ev->Prop):Prop:=match o with
 |some (.d x)=>js (.d x) Z
 |some (.own _ xs)=>js (.d (.lst xs)) (Z.set i (.d (.lst xs)))
 |some (.bx a ls)=>GT a ls λx=>js (.d x) (Z.set i (.d x))
 |_=>False
def ai(i:Nat):W L:=λZ js=>QN Z[i]? i Z js
theorem QO(x:D)(i:Nat)(Z:Ev)(js:L->Ev->Prop):QN (some (.d x)) i Z js=js (.d x) Z:=rfl
theorem KP(a:Addr)(xs:List D)(i:Nat)(Z:Ev)(js:L->Ev->Prop):QN (some (.own a xs)) i Z js=js (.d (.lst xs)) (Z.set i (.d (.lst xs))):=rfl
theorem N4(a:Option Addr)(ls:List L)(i:Nat)(Z:Ev)(js:L->Ev->Prop):QN (some (.bx a ls)) i Z js=GT a ls λx=>js (.d x) (Z.set i (.d x)):=rfl
theorem aJ.slot{K:W.Frag}{Pr H:Hp}{σ:St}{Z:Ev}{i:Nat}{l:L}(E:aJ K Pr H σ Z)(h:Z[i]?=some l):∃s,σ[i]?=some s/\bf K H s l:=Paired.get2 E.sl h
theorem ae(i:Nat){x:Str}{pos:Pos}(hN:X.N[i]?=some x:=by rfl)(hv:Vp X.env.scope x:=by first | exact Or.inl rfl | exact Or.inr (Or.inl rfl) | exact Or.inr (Or.inr rfl)) (hd:aet x:=by decide)
  (hcd:aeu x:=by decide):PL X (.Name x pos) (ai i):=by
 intro ab s σ H Pr Z js I E h;unfold ai QN at h
 cases q:Z[i]? with
 |none=>rw[q]at h;exact h.elim
 | some l =>
  rw[q]at h;obtain⟨sv,hs,sl⟩:=E.slot q
  cases l with
  |un=>exact h.elim
  |dic a kvs=>exact h.elim
  | d y =>
   obtain⟨v,rfl,r⟩:=sl;exact Vv (ly hN hv hd hcd ab s σ H (λw H'=>w=v/\H'=H) I ⟨v,hs,rfl,rfl⟩) λu s1 ⟨w,H1,I1,r1,e1,e2⟩=>by subst e1 e2;exact⟨w,H1,_,Z,I1,r1,E.cons_d r,h⟩
  | own a xs =>
   obtain⟨rfl,vs,ha,r⟩:=sl;refine Vv (ly hN hv hd hcd ab s σ H (λw H'=>w=.ref a/\H'=H) I ⟨.ref a,hs,rfl,rfl⟩) λu s1 ⟨w,H1,I1,r1,e1,e2⟩=>?_;subst e1 e2;obtain⟨o,I2⟩:=I1.freezeL ha;have E2:=(E.out q).freeze ha o;have hi:i<Z.length:=(so.mp q).1;have E3:=E2.back (i:=i) (by simp[hi]) hs;rw[abz]at E3;obtain⟨_,e,p⟩:=E2.head_d;cases e;exact⟨_,_,_,_,I2,r1,E3.cons_d p,h⟩
  | bx a ls =>
   obtain⟨y,ey,h⟩:=yN h
   have hv':∃b,sv=some (.ref b):=by
    cases a with
    |none=>simp only[bf]at sl;obtain⟨b,_,e,_⟩:=sl;exact⟨b,e⟩
    |some b=>simp only[bf]at sl;exact⟨b,sl.1⟩
   obtain⟨b,rfl⟩:=hv';refine Vv (ly hN hv hd hcd ab s σ H (λw H'=>w=.ref b/\H'=H) I ⟨.ref b,hs,rfl,rfl⟩) λu s1 ⟨w,H1,I1,r1,e1,e2⟩=>?_;subst e1 e2;obtain⟨H2,I2,E2,_⟩:=QM (.bx a ls) I1 (E.outL q hs) ey;have hi:i<Z.length:=(so.mp q).1;have E3:=E2.back (i:=i) (by simp[hi]) hs;rw[abz]at E3;obtain⟨_,e,p⟩:=E2.head_d;cases e;exact⟨_,_,_,_,I2,r1,E3.cons_d p,h⟩
def Qc(o:Option L)(i:Nat)(Z:Ev)(js:L->Ev->Prop):Prop:=match o with
 |some (.d x)=>js (.d x) Z
 |some (.own a xs)=>js (.own a xs) (Z.set i .un)
 |some (.bx a ls)=>js (.bx a ls) (Z.set i .un)
 |_=>False
def jD(i:Nat):W L:=λZ js=>Qc Z[i]? i Z js
theorem QP(x:D)(i:Nat)(Z:Ev)(js:L->Ev->Prop):Qc (some (.d x)) i Z js=js (.d x) Z:=rfl
theorem KQ(a:Addr)(xs:List D)(i:Nat)(Z:Ev)(js:L->Ev->Prop):Qc (some (.own a xs)) i Z js=js (.own a xs) (Z.set i .un):=rfl
theorem N5(a:Option Addr)(ls:List L)(i:Nat)(Z:Ev)(js:L->Ev->Prop):Qc (some (.bx a ls)) i Z js=js (.bx a ls) (Z.set i .un):=rfl
theorem cQ(i:Nat){x:Str}{pos:Pos}(hN:X.N[i]?=some x:=by rfl)(hv:Vp X.env.scope x:=by first | exact Or.inl rfl | exact Or.inr (Or.inl rfl) | exact Or.inr (Or.inr rfl)) (hd:aet x:=by decide)
  (hcd:aeu x:=by decide):PL X (.Name x pos) (jD i):=by
 intro ab s σ H Pr Z js I E h;unfold jD Qc at h
 cases q:Z[i]? with
 |none=>rw[q]at h;exact h.elim
 | some l =>
  rw[q]at h;obtain⟨sv,hs,sl⟩:=E.slot q
  cases l with
  |un=>exact h.elim
  |dic a kvs=>exact h.elim
  | d y =>
   obtain⟨v,rfl,r⟩:=sl;exact Vv (ly hN hv hd hcd ab s σ H (λw H'=>w=v/\H'=H) I ⟨v,hs,rfl,rfl⟩) λu s1 ⟨w,H1,I1,r1,e1,e2⟩=>by subst e1 e2;exact⟨w,H1,_,Z,I1,r1,E.cons_d r,h⟩
  | own a xs =>
   obtain⟨rfl,vs,ha,r⟩:=sl;refine Vv (ly hN hv hd hcd ab s σ H (λw H'=>w=.ref a/\H'=H) I ⟨.ref a,hs,rfl,rfl⟩) λu s1 ⟨w,H1,I1,r1,e1,e2⟩=>?_;subst e1 e2;exact⟨_,_,_,_,I1,r1,E.out q,h⟩
  | bx a ls =>
   have hv':∃b,sv=some (.ref b):=by
    cases a with
    |none=>simp only[bf]at sl;obtain⟨b,_,e,_⟩:=sl;exact⟨b,e⟩
    |some b=>simp only[bf]at sl;exact⟨b,sl.1⟩
   obtain⟨b,rfl⟩:=hv';refine Vv (ly hN hv hd hcd ab s σ H (λw H'=>w=.ref b/\H'=H) I ⟨.ref b,hs,rfl,rfl⟩) λu s1 ⟨w,H1,I1,r1,e1,e2⟩=>?_;subst e1 e2;exact⟨_,_,_,_,I1,r1,E.outL q hs,h⟩
theorem N6{x:Str}{v:V}{u:Value}{y:D}{pos:Pos}(hg:Gl X x)(hm:X.mg x=some u)(r:cO v u)(hy:∀ H,V6 X.K H v y) (hd:aet x:=by decide):PL X (.Name x pos) (wC y) :=
 PL.of (NJ hg hm r hd) λσ H Pr Z js E h=>⟨_,_,E.cons_d (hy H),h⟩
def FW:L->(Bool->Prop)->Prop
 |.d (.bl b),k=>k b
 |_,_=>False
def aM(t:W L):W Bool:=λZ js=>t Z λr Z1=>FW r λb=>js b Z1
theorem yO{r:L}{k:Bool->Prop}(h:FW r k):∃b,r=.d (.bl b)/\k b:=by
 cases r with
 | d x=>cases x with
  |bl b=>exact⟨b,rfl,h⟩
  |_=>exact h.elim
 |_=>exact h.elim
theorem aX{t:W L}(h:PL X e t)(he:∀whole,isTrue e X.env whole=(do let v <- whole;standAt e.pos;holding [v] (truthy v)):=by intro _;rfl):PB X e (aM t):=by intro ab s σ H Pr Z js I E ht;rw[he];refine ZQ (Vv (h ab s σ H Pr Z _ I E ht) λu s1 ⟨v,H1,r,Z1,I1,rv,E1,p⟩=>ZQ (wpAny_standAt (abr ?_)));obtain⟨b,rfl,p⟩:=yO p;obtain⟨_,e1,p1⟩:=E1.head_d;cases e1;obtain rfl:=V6.inv_bl p1;cases rv;exact aa0 ⟨H1,Z1,I1,E1.tail,p⟩
end
section
variable{X:Cx}{e a b c:Expr}{rest:List Expr}{pos:Pos}{ta tb:W L}{tA tB:W Bool}
def Wf(X:Cx)(e:Expr)(t:W Bool):Prop :=
 ∀(whole:Sem Value)(ab:List (Addr×Obj))(s:Shared)(σ:St)(H Pr:Hp)(Z:Ev)(js:Bool->Ev->Prop),Vr X ab σ H s->aJ X.K Pr H σ Z->t Z js->wpAny (model X.prog X.w) X.A (isTrue e X.env whole) (EB X ab σ Pr js) X.xe s
theorem Wf.pb{t:W Bool}(h:Wf X e t):PB X e t:=h _
def QQ(t u:W Bool):W Bool:=λZ js=>t Z λc Z1=>if c=true then u Z1 js else js false Z1
def Wg(t u:W Bool):W Bool:=λZ js=>t Z λc Z1=>if c=true then js true Z1 else u Z1 js
def oJ(t:W Bool):W Bool:=λZ js=>t Z λc Z1=>js (!c) Z1
theorem Eg(ha:PB X a tA):Wf X (.BoolOp .And [a] pos) tA:=by
 intro wh ab s σ H Pr Z js I E h;refine isTrue_and (Vv (ha ab s σ H Pr Z js I E h) λc s1 e=>?_)
 cases c with
 |true=>exact isTrue_and_nil e
 |false=>exact e
theorem cj(ha:PB X a tA):Wf X (.BoolOp .Or [a] pos) tA:=by
 intro wh ab s σ H Pr Z js I E h;refine isTrue_or (Vv (ha ab s σ H Pr Z js I E h) λc s1 e=>?_)
 cases c with
 |false=>exact isTrue_or_nil e
 |true=>exact e
theorem CG(ha:PB X a tA)(hb:Wf X (.BoolOp .And (b::rest) pos) tB):Wf X (.BoolOp .And (a::b::rest) pos) (QQ tA tB):=by
 intro wh ab s σ H Pr Z js I E h;refine isTrue_and (Vv (ha ab s σ H Pr Z _ I E h) λc s1 h_=>h_.on λH1 Z1 I1 E1 q1=>?_)
 cases c with
 |true=>exact hb wh ab s1 σ H1 Pr Z1 js I1 E1 q1
 |false=>exact⟨H1,Z1,I1,E1,q1⟩
theorem cb(ha:PB X a tA)(hb:Wf X (.BoolOp .Or (b::rest) pos) tB):Wf X (.BoolOp .Or (a::b::rest) pos) (Wg tA tB):=by
 intro wh ab s σ H Pr Z js I E h;refine isTrue_or (Vv (ha ab s σ H Pr Z _ I E h) λc s1 h_=>h_.on λH1 Z1 I1 E1 q1=>?_)
 cases c with
 |true=>exact⟨H1,Z1,I1,E1,q1⟩
 |false=>exact hb wh ab s1 σ H1 Pr Z1 js I1 E1 q1
theorem cA(ha:PB X a tA):PB X (.UnaryOp .Not a pos) (oJ tA):=by intro ab s σ H Pr Z js I E h;exact isTrue_not (Vv (ha ab s σ H Pr Z (λc Z1=>js (!c) Z1) I E h) λ_ _ h_=>h_.on λH1 Z1 I1 E1 q=>⟨H1,Z1,I1,E1,q⟩)
theorem Wh{op:CmpOp}{o:Wd}(ho:We X (compareOp op) o)(ha:PL X a ta)(hb:PL X b tb)(hm:behindInMarks op b=false):PB X (.Compare a [op] [b] pos) (aM (au o ta tb)):=by intro ab s σ H Pr Z js I E h;refine wpAny_isTrue_Compare1 (two (R:=λdx dy Z2=>o dx dy λr=>FW r λb=>js b Z2) ha hb I E h λv u s2 x y H2 dx dy Z2 I2 r1 r2 E2 p1 p2 q=>?_) hm;refine Vv (ho ab s2 σ H2 Pr Z2 x y v u dx dy _ I2 r1 r2 E2.tail.tail p1 p2 q) λw s3 ⟨z,H3,r,I3,rz,E3,p⟩=>?_;obtain⟨b,rfl,p⟩:=yO p;obtain⟨_,e1,p1⟩:=E3.head_d;cases e1;obtain rfl:=V6.inv_bl p1;cases rz;exact aa0 ⟨H3,Z2,I3,E3.tail,p⟩
def iG(ta tb:W L):W L:=λZ js=>ta Z λr Z1=>FW r λc=>if c=true then tb Z1 js else js (.d (.bl false)) Z1
def Sj(ta tb:W L):W L:=λZ js=>ta Z λr Z1=>FW r λc=>if c=true then js (.d (.bl true)) Z1 else tb Z1 js
def FY(t:W Bool):W L:=λZ js=>t Z λc Z1=>js (.d (.bl (!c))) Z1
theorem fk {op} {t:W L} (h:PL X a t):PL X (.BoolOp op [a] pos) t:=λab s σ H Pr Z js I E hw=>BoolOp_one (h ab s σ H Pr Z js I E hw)
theorem EL.bl{ab:List (Addr×Obj)}{σ:St}{Pr:Hp}{js:Bool->Ev->Prop}{u:Value}{s':Shared}(h:EL X ab σ Pr (λr Z=>FW r λb=>js b Z) u s') :
  ∃H' b Z',u=.bool b/\Vr X ab σ H' s'/\aJ X.K Pr H' σ Z'/\js b Z':=by
 obtain⟨v,H',r,Z',I,rv,E,p⟩:=h;obtain⟨b,rfl,p⟩:=yO p;obtain⟨_,e1,p1⟩:=E.head_d;cases e1;obtain rfl:=V6.inv_bl p1;cases rv;exact⟨H',b,Z',rfl,I,E.tail,p⟩
theorem eD(ha:PL X a ta)(hb:PL X (.BoolOp .And (b::rest) pos) tb):PL X (.BoolOp .And (a::b::rest) pos) (iG ta tb):=by
 intro ab s σ H Pr Z js I E h;refine BoolOp_and (Vv (ha ab s σ H Pr Z _ I E h) λv s1 q=>?_)
 obtain⟨H1,c,Z1,rfl,I1,E1,q1⟩:=EL.bl (js:=λc Z1=>if c=true then tb Z1 js else js (.d (.bl false)) Z1) q
 refine aa0 ?_
 cases c with
 |true=>exact hb ab s1 σ H1 Pr Z1 js I1 E1 q1
 |false=>exact⟨.bl false,H1,_,Z1,I1,rfl,E1.cons_d (.bl false),q1⟩
theorem QR(ha:PL X a ta)(hb:PL X (.BoolOp .Or (b::rest) pos) tb):PL X (.BoolOp .Or (a::b::rest) pos) (Sj ta tb):=by
 intro ab s σ H Pr Z js I E h;refine BoolOp_or (Vv (ha ab s σ H Pr Z _ I E h) λv s1 q=>?_)
 obtain⟨H1,c,Z1,rfl,I1,E1,q1⟩:=EL.bl (js:=λc Z1=>if c=true then js (.d (.bl true)) Z1 else tb Z1 js) q
 refine aa0 ?_
 cases c with
 |false=>exact hb ab s1 σ H1 Pr Z1 js I1 E1 q1
 |true=>exact⟨.bl true,H1,_,Z1,I1,rfl,E1.cons_d (.bl true),q1⟩
theorem Eh(ha:PL X a ta):PL X (.UnaryOp .Not a pos) (FY (aM ta)):=by intro ab s σ H Pr Z js I E h;refine UnaryOp_ (Vv (ha ab s σ H Pr Z _ I E h) λv s1 q=>?_);obtain⟨H1,c,Z1,rfl,I1,E1,q1⟩:=EL.bl (js:=λc Z1=>js (.d (.bl (!c))) Z1) q;exact not_of (aa0 ⟨.bl (!c),H1,_,Z1,I1,rfl,E1.cons_d (.bl _),q1⟩)
def GU(t:W Bool)(ta tb:W L):W L:=λZ js=>t Z λc Z1=>if c=true then ta Z1 js else tb Z1 js
theorem nS(hc:PB X c tA)(ha:PL X a ta)(hb:PL X b tb):PL X (.IfExp c a b pos) (GU tA ta tb):=by
 intro ab s σ H Pr Z js I E h;refine wpAny_IfExp (Vv (hc ab s σ H Pr Z _ I E h) λd s1 h_=>h_.on λH1 Z1 I1 E1 q1=>?_)
 cases d with
 |true=>exact ha ab s1 σ H1 Pr Z1 js I1 E1 q1
 |false=>exact hb ab s1 σ H1 Pr Z1 js I1 E1 q1
def Wi(op:D->(L->Prop)->Prop)(t:W L):W L:=λZ js=>t Z λx Z1=>Wc x λdx=>op dx λr=>js r Z1
def KR:D->(L->Prop)->Prop
 |.int i,k=>k (.d (.int (-i)))
 |_,_=>False
theorem QS(ha:PL X a ta):PL X (.UnaryOp .USub a pos) (Wi KR ta):=by
 intro ab s σ H Pr Z js I E h;refine UnaryOp_ (Vv (ha ab s σ H Pr Z _ I E h) λv s1 q=>?_);obtain⟨x,H1,dx,Z1,I1,r1,E1,q1⟩:=EL.frz (js:=λdx Z1=>KR dx λr=>js r Z1) q;obtain⟨_,e1,p1⟩:=E1.head_d;cases e1
 cases p1 with
 | int i =>
  exact Vv (Qx ab s1 σ H1 _ v (λw H'=>w=.int (-i)/\H'=H1) I1 r1 ⟨i,rfl,rfl,rfl⟩) λu s2 ⟨w,H2,I2,r2,e1,e2⟩=>by subst e1 e2;exact⟨_,_,_,Z1,I2,r2,E1.tail.cons_d (.int _),q1⟩
 |_=>exact q1.elim
variable{st:Stmt}{sts:List Stmt}{t u:W Fl}
def bF:W Fl:=λZ js=>js .nx Z
def aV(t u:W Fl):W Fl:=λZ js=>t Z λf Z1=>match f with
 |.nx=>u Z1 js
 |f=>js f Z1
theorem aR:Wb X [] bF:=λ_ _ σ H Pr Z js I E h=>wpAny_execs_nil ⟨σ,H,Z,I,E,h⟩
theorem aj(h1:PM X st t)(h2:Wb X sts u):Wb X (st::sts) (aV t u):=by
 intro ab s σ H Pr Z js I E h;refine wpAny_execs_cons (Vv (h1 ab s σ H Pr Z _ I E h) λf s1 q=>?_)
 cases f with
 | next =>
  obtain⟨σ',H',Z',I',E',q⟩:=q;exact h2 ab s1 σ' H' Pr Z' js I' E' q
 |ret v=>exact q
 |brk=>exact q
 |cont=>exact q
theorem ak(h1:PM X st t):Wb X [st] t:=by
 intro ab s σ H Pr Z js I E h;refine wpAny_execs_cons (Vv (h1 ab s σ H Pr Z _ I E h) λf s1 q=>?_)
 cases f with
 |next=>exact wpAny_execs_nil q
 |ret v=>exact q
 |brk=>exact q
 |cont=>exact q
def AM(t:W L):W Fl:=λZ js=>t Z λ_ Z1=>js .nx Z1
theorem qX{te:W L}(he:PL X e te)(hs:swapsWith e none pos.line X.env=pure false:=by rfl):PM X (.Expr e pos) (AM te):=by intro ab s σ H Pr Z js I E h;exact wpAny_Expr_any (Vv (he ab s σ H Pr Z _ I E h) λv s1 h_=>h_.on λx H1 r Z1 I1 r1 E1 q1=>⟨σ,H1,Z1,I1,E1.tail,q1⟩) I.quiet hs
def a9(t:W L):W Fl:=λZ js=>t Z λr Z1=>js (.rt r) Z1
theorem az{te:W L}(he:PL X e te):PM X (.Return (some e) pos) (a9 te):=by intro ab s σ H Pr Z js I E h;exact wpAny_Return_some (Vv (he ab s σ H Pr Z _ I E h) λv s1 h_=>h_.on λx H1 r Z1 I1 r1 E1 q1=>⟨x,σ,H1,r,Z1,σ,I1,r1,E1,q1⟩)
def Wj(c:W Bool)(t u:W Fl):W Fl:=λZ js=>c Z λb Z1=>if b=true then t Z1 js else u Z1 js
theorem bK{sa sb:List Stmt}(hc:PB X c tA)(ha:Wb X sa t)(hb:Wb X sb u):PM X (.If c sa sb pos) (Wj tA t u):=by
 intro ab s σ H Pr Z js I E h;refine wpAny_If (Vv (hc ab s σ H Pr Z _ I E h) λd s1 h_=>h_.on λH1 Z1 I1 E1 q1=>?_)
 cases d with
 |true=>exact ha ab s1 σ H1 Pr Z1 js I1 E1 q1
 |false=>exact hb ab s1 σ H1 Pr Z1 js I1 E1 q1
def AN:W Fl:=λ_ _=>False
theorem uh:PM X st AN:=λ_ _ _ _ _ _ _ _ _ h=>h.elim
theorem aJ.forget{K:W.Frag}{Pr H:Hp}{σ:St}{Z:Ev}(E:aJ K Pr H σ Z)(i:Nat)(v:Option V):aJ K Pr H (σ.set i v) (Z.set i .un):=by
 have hsub:(owns (Z.set i .un)).Sublist (owns Z):=by
  have:∀(Z:Ev)(i:Nat),(owns (Z.set i .un)).Sublist (owns Z):=by
   intro Z
   induction Z with
   |nil=>intro i;exact abL _
   | cons l Z ih =>
    intro i
    cases i with
    | zero =>
     show(owns Z).Sublist (owns (l::Z));rw[aT];exact abc _ _
    | succ i =>
     show(owns (l::Z.set i .un)).Sublist (owns (l::Z));rw[aT,aT];exact(abL _).append (ih i)
  exact this Z i
 exact⟨E.sub,E.nd.sublist hsub,λa h=>E.off a (hsub.subset h),Paired.set2 True.intro i E.sl⟩
theorem aJ.store{K:W.Frag}{Pr H:Hp}{σ:St}{Z:Ev}{v:Option V}{l:L}(E:aJ K Pr H (v::σ) (l::Z)){i:Nat}(hi:i<σ.length):aJ K Pr H (σ.set i v) (Z.set i l):=by have E1:=E.forget (i+1) v;have E2:aJ K Pr H (v::σ.set i v) (l::Z.set i .un):=E1;have hl:=E.tail.len;have E3:=E2.back (i:=i) (by rw[aax xL]) (by rw[aax hi]);rw[abz]at E3;exact E3
def br(i:Nat)(t:W L):W Fl:=λZ js=>t Z λr Z1=>js .nx (Z1.set i r)
theorem aF{i:Nat}{x:Str}{te:W L}{pos':Pos}(hN:X.N.Nodup)(hi:X.N[i]?=some x)(hx:Vq X.env.scope x)(he:PL X e te)(hs:swapsWith e (some (.Name x pos')) pos.line X.env=pure false:=by rfl)(hf:X.fn x=true∨X.env.scope.names.lookup x=some .local:=by first|exact .inl rfl|exact .inr rfl|assumption) :
  PM X (.Assign [.Name x pos'] e pos) (br i te):=by
 intro ab s σ H Pr Z js I E h;refine wpAny_Assign_Name (Vv (he ab s σ H Pr Z _ I E h) λv s1 h_=>h_.on λy H1 r Z1 I1 r1 E1 q1=>?_) hs;exact ug I1 hN hi hx r1 (λs2 I2=>⟨_,H1,_,I2,E1.store (by rw[I1.len];exact(so.mp hi).1),q1⟩) hf
end
theorem qc{a b:Ev}(h:a.Perm b):(owns a).Perm (owns b):=by
 induction h with
 |nil=>exact .refl _
 |cons x _ ih=>rw[aT,aT];exact ih.append_left _
 | swap x y l =>
  rw[aT,aT,aT,aT,<- aaJ,<- aaJ];exact List.Perm.append_right _ aaO
 |trans _ _ h1 h2=>exact h1.trans h2
theorem KS{a b:Ev}(h:a.Sublist b):(owns a).Sublist (owns b):=by
 induction h with
 |slnil=>exact .refl _
 |cons x _ ih=>rw[aT];exact ih.trans (abc _ _)
 |cons_cons x _ ih=>rw[aT,aT];exact(abL _).append ih
def tL(K:W.Frag)(t:W L):TE:=λσ H Q=>∃Pr Z js,aJ K Pr H σ Z/\t Z js/\∀v H' r Z',aJ K Pr H' (some v::σ) (r::Z')->js r Z'->Q v H'
def tW(K:W.Frag)(t:W Fl):TS:=λD σ H=>∃Pr Z js,aJ K Pr H σ Z/\t Z js/\(∀σ' H' Z',aJ K Pr H' σ' Z'->js .nx Z'->D.nx σ' H')/\(∀σ' H' Z',aJ K Pr H' σ' Z'->js .bk Z'->D.bk σ' H')/\(∀σ' H' Z',aJ K Pr H' σ' Z'->js .ct Z'->D.ct σ' H') /\
 ∀v τ H' r Z',aJ K Pr H' (some v::τ) (r::Z')->js (.rt r) Z'->D.rt v H'
noncomputable def Wk(K:W.Frag)(t:W Bool):TT:=λσ H Q=>∃Pr Z js,aJ K Pr H σ Z/\t Z js/\∀b H' Z',aJ K Pr H' σ Z'->js b Z'->Q b H'
section
variable{X:Cx}{e a b:Expr}{es:List Expr}{pos:Pos}{st:Stmt}{sts:List Stmt}{t u:W Fl}
theorem PL.pe{t:W L}(h:PL X e t):PE X e (tL X.K t):=λab s σ H Q I ⟨Pr,Z,js,E,ht,q⟩ =>
 Vv (h ab s σ H Pr Z js I E ht) λu s1 h_=>h_.on λv H1 r Z1 I1 rv E1 p=>⟨v,H1,I1,rv,q v H1 r Z1 E1 p⟩
theorem PB.pt{t:W Bool}(h:PB X e t):PT X e (Wk X.K t):=λab s σ H Q I ⟨Pr,Z,js,E,ht,q⟩ =>
 Vv (h ab s σ H Pr Z js I E ht) λb s1 h_=>h_.on λH1 Z1 I1 E1 p=>⟨H1,I1,q b H1 Z1 E1 p⟩
theorem Wb.pss(h:Wb X sts t):Vu X sts (tW X.K t):=λab s σ H D I ⟨Pr,Z,js,E,ht,q1,q2,q3,q4⟩ =>
 Vv (h ab s σ H Pr Z js I E ht) λf s1 q=>by
  cases f with
  |next=>obtain⟨σ',H',Z',I',E',p⟩:=q;exact⟨σ',H',I',q1 σ' H' Z' E' p⟩
  |brk=>obtain⟨σ',H',Z',I',E',p⟩:=q;exact⟨σ',H',I',q2 σ' H' Z' E' p⟩
  |cont=>obtain⟨σ',H',Z',I',E',p⟩:=q;exact⟨σ',H',I',q3 σ' H' Z' E' p⟩
  |ret u=>obtain⟨v,σ',H',r,Z',τ,I',rv,E',p⟩:=q;exact⟨v,σ',H',I',rv,q4 v τ H' r Z' E' p⟩
noncomputable def QT(K:W.Frag)(Pr:Hp)(js:Fl->Ev->Prop):Qa where
 nx:=λσ' H'=>∃Z',aJ K Pr H' σ' Z'/\js .nx Z'
 rt:=λv H'=>∃τ r Z',aJ K Pr H' (some v::τ) (r::Z')/\js (.rt r) Z'
 bk:=λσ' H'=>∃Z',aJ K Pr H' σ' Z'/\js .bk Z'
 ct:=λσ' H'=>∃Z',aJ K Pr H' σ' Z'/\js .ct Z'
theorem PM.of{ts:TS}(h:PS X st ts)(q:∀σ H Pr Z js,σ.length=X.N.length->aJ X.K Pr H σ Z->t Z js->ts (QT X.K Pr js) σ H):PM X st t:=λab s σ H Pr Z js I E ht =>
 Vv (h ab s σ H _ I (q σ H Pr Z js I.len E ht)) λf s1 q=>by
  cases f with
  |next=>obtain⟨σ',H',I',Z',E',p⟩:=q;exact⟨σ',H',Z',I',E',p⟩
  |brk=>obtain⟨σ',H',I',Z',E',p⟩:=q;exact⟨σ',H',Z',I',E',p⟩
  |cont=>obtain⟨σ',H',I',Z',E',p⟩:=q;exact⟨σ',H',Z',I',E',p⟩
  |ret u=>obtain⟨v,σ',H',I',rv,τ,r,Z',E',p⟩:=q;exact⟨v,σ',H',r,Z',τ,I',rv,E',p⟩
theorem aJ.narrow{K:W.Frag}{Pr H1 H:Hp}{σ1 σ:St}{Z1 Z:Ev}(E1:aJ K Pr H1 σ1 Z1)(E:aJ K (bD H1 Z1) H σ Z):aJ K Pr H σ Z:=by
 refine⟨λb o e=>E.sub b o ?_,E.nd,λa ha=>?_,E.sl⟩
 . unfold bD;rw[if_neg,E1.sub b o e];intro hm;have z:=E1.off b hm;rw[e]at z;cases z
 .
  have z:=E.off a ha;unfold bD at z;by_cases hm:a∈owns Z1
  . exact E1.off a hm
  .
   rw[if_neg hm]at z
   cases q:Pr a with
   |none=>rfl
   |some o=>rw[E1.sub a o q]at z;cases z
def aC:W (List L):=λZ js=>js [] Z
def aq(t:W L)(r:W (List L)):W (List L):=λZ js=>t Z λx Z1=>r Z1 λxs Z2=>js (x::xs) Z2
def M1(i:Nat)(r:W (List L)):W (List L):=λZ js=>match Z[i]? with
 |some (.own _ _)=>r Z λxs Z2=>js (.un::xs) Z2
 |_=>False
theorem af:V8 X [] [] aC:=λ_ ab s σ H Pr Z js I E h=>Calls.spliced_nil ⟨[],H,[],Z,I,.nil,rfl,rfl,E,λk i e=>by simp at e,h⟩
theorem aa{bs:List (Option Nat)}{r:W (List L)}{t:W L}(ha:PL X e t)(hr:V8 X es bs r)(hs:starEach (e::es) X.env=(false,eval e X.env)::starEach es X.env:=by rfl):V8 X (e::es) (none::bs) (aq t r):=by
 intro pos ab s σ H Pr Z js I E h;rw[hs];show wpAny _ _ (spliced ((false,eval e X.env)::backTo pos (starEach es X.env))) _ _ s;refine Calls.spliced_cons (Vv (ha ab s σ H Pr Z _ I E h) λu s1 h_=>h_.on λx H1 l Z1 I1 r1 E1 q1=>?_);refine Vv (hr pos ab s1 σ H1 _ Z1 _ I1 E1.tail.wide q1) λus s2 h_=>h_.on λvs H2 ls Z2 I2 r2 hl hb E2 hv q2=>?_;have E3:aJ X.K Pr H2 (vs.map some++(some x::σ)) (ls++(l::Z2)):=aJ.step (τ:=[some x]) (lam:=[l]) E1 rfl E2 (by simp[hl])
 have E4:aJ X.K Pr H2 (some x::(vs.map some++σ)) (l::(ls++Z2)):=by
  have pm:(owns (ls++(l::Z2))).Perm (owns (l::(ls++Z2))):=qc List.perm_middle;have s1:=Paired.unapp (by simp[hl]) E3.sl;obtain⟨s1,s2⟩:=s1
  cases s2 with
  |cons q t=>exact⟨E3.sub,pm.nodup_iff.mp E3.nd,λa h=>E3.off a (pm.mem_iff.mpr h),.cons q (Paired.app s1 t)⟩
 refine⟨x::vs,H2,l::ls,Z2,I2,.cons r1 r2,by simp[hl],by simp[hb],E4,λk i e=>?_,q2⟩
 cases k with
 |zero=>simp at e
 |succ k=>simpa using hv k i (by simpa using e)
theorem uM(i:Nat){x:Str}{p:Pos}{bs:List (Option Nat)}{r:W (List L)}(hr:V8 X es bs r)(hN:X.N[i]?=some x:=by rfl)(hv:Vp X.env.scope x:=by first | exact Or.inl rfl | exact Or.inr (Or.inl rfl) | exact Or.inr (Or.inr rfl)) (hd:aet x:=by decide)
  (hcd:aeu x:=by decide) (hs:starEach (.Name x p::es) X.env=(false,eval (.Name x p) X.env)::starEach es X.env:=by rfl):V8 X (.Name x p::es) (some i::bs) (M1 i r):=by
 intro pos ab s σ H Pr Z js I E h;unfold M1 at h
 cases q:Z[i]? with
 |none=>rw[q]at h;exact h.elim
 | some l =>
  rw[q]at h
  cases l with
  |un=>exact h.elim
  |d y=>exact h.elim
  |bx _ _=>exact h.elim
  |dic _ _=>exact h.elim
  | own a xs =>
   obtain⟨sv,hsl,sl⟩:=E.slot q;obtain⟨rfl,_⟩:=sl;rw[hs];show wpAny _ _ (spliced ((false,eval (.Name x p) X.env)::backTo pos (starEach es X.env))) _ _ s;refine Calls.spliced_cons (Vv (ly hN hv hd hcd ab s σ H (λw H'=>w=.ref a/\H'=H) I ⟨.ref a,hsl,rfl,rfl⟩) λu s1 ⟨w,H1,I1,r1,e1,e2⟩=>?_);subst e1 e2;refine Vv (hr pos ab s1 σ H1 Pr Z _ I1 E h) λus s2 ⟨vs,H2,ls,Z2,I2,r2,hl,hb,E2,hv,q2⟩=>?_;refine⟨.ref a::vs,H2,.un::ls,Z2,I2,.cons r1 r2,by simp[hl],by simp[hb],E2.cons_un,λk j e=>?_,q2⟩
   cases k with
   |zero=>simp at e;subst e;exact⟨rfl,.ref a,rfl,hsl⟩
   |succ k=>simpa using hv k j (by simpa using e)
def Qd:List L->(List D->Prop)->Prop
 |[],k=>k []
 |.d x::r,k=>Qd r λxs=>k (x::xs)
 |_::_,_=>False
theorem uN:∀{ls:List L}{k:List D->Prop},Qd ls k->∃xs,ls=xs.map .d/\k xs
 |[],_,h=>⟨[],rfl,h⟩
 | .d x::r,k,h=>by obtain⟨xs,e,q⟩:=uN (ls:=r) h;exact⟨x::xs,by rw[e];rfl,q⟩
 |.un::_,_,h=>h.elim
 |.own _ _::_,_,h=>h.elim
theorem uO{K:W.Frag}{Pr H:Hp}{σ:St}{Z:Ev}:∀{vs:List V}{xs:List D},vs.length=xs.length->aJ K Pr H (vs.map some++σ) (xs.map .d++Z)->bV K H vs xs
 |[],[],_,_=>.nil
 | v::vs,x::xs,hl,E=>by obtain⟨w,e,r⟩:=aJ.head_d (v:=some v) (x:=x) E;cases e;exact .cons r (uO (by simpa using hl) (aJ.tail (v:=some v) (l:=.d x) E))
 |[],_::_,hl,_=>by simp at hl
 |_::_,[],hl,_=>by simp at hl
def lz(t:W (List L)):W L:=λZ js=>t Z λls Z1=>Qd ls λxs=>xs.length<=sizeLine/\js (.d (.tup xs)) Z1
def AO(t:W (List L)):W L:=λZ js=>t Z λls Z1=>Qd ls λxs=>xs.length<=sizeLine/\∀a,js (.own a xs) Z1
theorem bt {x1} {bs:List (Option Nat)} {t:W (List L)} (h:V8 X es bs t):PL X (.Tuple es x1 pos) (lz t):=by
 intro ab s σ H Pr Z js I E hq;refine wpAny_Tuple_spliced (Vv (h pos ab s σ H Pr Z _ I E hq) λus s1 h_=>h_.on λvs H1 ls Z1 I1 r hl hb E1 hv q=>?_);obtain⟨xs,rfl,z,q⟩:=uN q;have b0:vs.length=xs.length:=by simpa using hl
 refine⟨by rw[<- r.length,b0];exact z,?_⟩;have hf:H1 s1.heap.objs.size=none:=I1.hok.fresh (ZY _);refine⟨.ref s1.heap.objs.size,Vj H1 s1.heap.objs.size (.tup vs),_,Z1,I1.laid (t':=s1.toks) (λb u e=>ZO _ e) (ZY _) ?_,rfl,(E1.drop (by simp[b0])).cons_tup hf (uO b0 E1),q⟩;exact⟨by rw[b0];exact z,us,r,⟨_,aah _ rfl,rfl,_,rfl⟩⟩
theorem gS{bs:List (Option Nat)}{t:W (List L)}(h:V8 X es bs t):PL X (.List es pos) (AO t):=by
 intro ab s σ H Pr Z js I E hq;refine wpAny_List_spliced (Vv (h pos ab s σ H Pr Z _ I E hq) λus s1 h_=>h_.on λvs H1 ls Z1 I1 r hl hb E1 hv q=>?_);obtain⟨xs,rfl,z,q⟩:=uN q;have b0:vs.length=xs.length:=by simpa using hl
 refine⟨by rw[<- r.length,b0];exact z,?_⟩;have hf:H1 s1.heap.objs.size=none:=I1.hok.fresh (ZY _);refine⟨.ref s1.heap.objs.size,Vj H1 s1.heap.objs.size (.lst vs),_,Z1,I1.laid (t':=s1.toks) (λb u e=>ZO _ e) (ZY _) ?_,rfl,(E1.drop (by simp[b0])).cons_own hf (uO b0 E1),q _⟩;exact⟨by rw[b0];exact z,us,0,r,aah _ rfl⟩
abbrev FS:=List L->(L->List L->Prop)->Prop
noncomputable def spF(K:W.Frag)(n:Nat)(fs:FS):Sp:=λvs H Q _=>vs.length=n/\∃Pr ls js,aJ K Pr H (vs.map some) ls/\fs ls js/\∀v H' r ls',aJ K Pr H' (some v::vs.map some) (r::ls')->js r ls'->Q v H'
theorem aJ.swap{K:W.Frag}{Pr H:Hp}{σ τ:St}{Z lam:Ev}(hl:τ.length=lam.length)(E:aJ K Pr H (τ++σ) (lam++Z)):aJ K Pr H (σ++τ) (Z++lam):=by have pm:(owns (lam++Z)).Perm (owns (Z++lam)):=qc aaO;obtain⟨s1,s2⟩:=Paired.unapp hl E.sl;exact⟨E.sub,pm.nodup_iff.mp E.nd,λa h=>E.off a (pm.mem_iff.mpr h),Paired.app s2 s1⟩
theorem M3{K:W.Frag}{Pr H H':Hp}{σ τ:St}{Z ls ls':Ev}{v:Option V}{r:L}(hl:τ.length=ls.length)(E:aJ K Pr H (τ++σ) (ls++Z))(E':aJ K (bD H ls) H' (v::τ) (r::ls')):aJ K Pr H' (v::(τ++σ)) (r::(ls'++Z)):=by
 have hρ:σ.length=Z.length:=(E.drop hl).len;have z:=aJ.step (τ:=σ) (σ:=τ) (lam:=Z) (Z:=ls) (w:=[v]) (μ:=[r]) (E.swap hl) hρ E' rfl;have hl':τ.length=ls'.length:=by have:=E'.len;simpa using this
 obtain⟨s1,s2⟩:=Paired.unapp (a:=[v]) (b:=[r]) rfl z.sl;obtain⟨s2,s3⟩:=Paired.unapp hρ s2;have pm:(owns ([r]++(Z++ls'))).Perm (owns (r::(ls'++Z))):=qc (List.Perm.cons r (aaO (l₁:=Z) (l₂:=ls')));exact⟨z.sub,pm.nodup_iff.mp z.nd,λa h=>z.off a (pm.mem_iff.mpr h),Paired.app s1 (Paired.app s3 s2)⟩
def av(fs:FS)(t:W (List L)):W L:=λZ js=>t Z λls Z1=>fs ls λr _=>js r Z1
def uP(fs:FS)(k i:Nat)(t:W (List L)):W L:=λZ js=>t Z λls Z1=>match Z1[i]? with
 |some (.own a xs)=>fs (ls.set k (.own a xs)) λr ls'=>∃ys,ls'[k]?=some (.own a ys)/\js r (Z1.set i (.own a ys))
 |_=>False
section
variable{CX:VO}{k n:Nat}{f:Addr}{fd:FuncData}{ps:List Str}{fs:FS}{E:XK}{x:Str}{p:Pos}{bs:List (Option Nat)}{t:W (List L)}
theorem aJ.drop1{K:W.Frag}{Pr H:Hp}{σ τ:St}{Z lam:Ev}{v:Option V}{r:L}(hl:τ.length=lam.length)(E:aJ K Pr H (v::(τ++σ)) (r::(lam++Z))):aJ K Pr H (v::σ) (r::Z):=by obtain⟨s1,s2⟩:=Paired.unapp (a:=[v]) (b:=[r]) rfl E.sl;obtain⟨s2,s3⟩:=Paired.unapp hl s2;have sb:(owns (r::Z)).Sublist (owns (r::(lam++Z))):=KS (List.Sublist.cons_cons r (abc _ _));exact⟨E.sub,E.nd.sublist sb,λa h=>E.off a (sb.subset h),Paired.app s1 s3⟩
theorem N7(F:FnOk X.prog X.w X.K X.mg X.base CX k f fd ps (spF X.K n fs))(hr:oI k X.A)(hg:Gl X x)(hm:X.mg x=some (.ref f))(hk:W.keepIn X.K (.ref f)=true)(hb:Cw X.K fd ps [])(hx:Ec CX X E)
  (ha:V8 X (e::es) bs t) (hn:bs.length=n) (hdb:aet x:=by decide) (he:starEach (e::es) X.env=(false,eval e X.env)::starEach es X.env:=by rfl) (hpl:(backTo pos (starEach es X.env)).any (·.1)=false:=by rfl) :
  PL X (.Call (.Name x p) (e::es) [] pos) (av fs t):=by
 intro ab s σ H Pr Z js I E0 h;refine abF (Cv I hg hm ?_ hdb);refine W.callWith_K (h₀:=X.base) I.ok.mod.kin hk (Vv (ha pos ab s σ H Pr Z _ I E0 h) λus s1 h_=>h_.on λvs H1 ls Z1 I1 r hl hbl E1 hv q=>⟨I1.kIn,?_⟩) he hpl;have hl':(vs.map some).length=ls.length:=by simp[hl]
 refine Vv (MW (Q:=λv H'=>∃r Z',aJ X.K Pr H' (some v::σ) (r::Z')/\js r Z') F hr hb .nil hx I1 r ?_) λu s2 ⟨v,H2,I2,rv,r,Z',E2,p⟩=>⟨v,H2,r,Z',I2,rv,E2,p⟩;rw[abh];refine⟨hbl.trans hn,bD H1 ls,ls,_,(E1.left hl').wide,q,λv H' r ls' E2 p=>⟨r,Z1,?_,p⟩⟩;have z:=M3 hl' E1 E2;have hl2:(vs.map some).length=ls'.length:=by have:=E2.len;simpa using this
 exact z.drop1 hl2
theorem KU(F:FnOk X.prog X.w X.K X.mg X.base CX k f fd ps (spF X.K n fs))(hr:oI k X.A)(hg:Gl X x)(hm:X.mg x=some (.ref f))(hk:W.keepIn X.K (.ref f)=true)(hb:Cw X.K fd ps [])(hx:Ec CX X E)
  (j i:Nat) (ha:V8 X (e::es) bs t) (hj:bs[j]?=some (some i)) (hn:bs.length=n) (hdb:aet x:=by decide) (he:starEach (e::es) X.env=(false,eval e X.env)::starEach es X.env:=by rfl) (hpl:(backTo pos (starEach es X.env)).any (·.1)=false:=by rfl) :
  PL X (.Call (.Name x p) (e::es) [] pos) (uP fs j i t):=by
 intro ab s σ H Pr Z js I E0 h;refine abF (Cv I hg hm ?_ hdb);refine W.callWith_K (h₀:=X.base) I.ok.mod.kin hk (Vv (ha pos ab s σ H Pr Z _ I E0 h) λus s1 h_=>h_.on λvs H1 ls Z1 I1 r hl hbl E1 hv q=>⟨I1.kIn,?_⟩) he hpl;have hl':(vs.map some).length=ls.length:=by simp[hl]
 refine Vv (MW (Q:=λv H'=>∃r Z',aJ X.K Pr H' (some v::σ) (r::Z')/\js r Z') F hr hb .nil hx I1 r ?_) λu s2 ⟨v,H2,I2,rv,r,Z',E2,p⟩=>⟨v,H2,r,Z',I2,rv,E2,p⟩;rw[abh]
 try dsimp only at q
 cases qi:Z1[i]? with
 |none=>rw[qi]at q;exact q.elim
 | some l =>
  rw[qi]at q
  cases l with
  |un=>exact q.elim
  |d y=>exact q.elim
  |bx _ _=>exact q.elim
  |dic _ _=>exact q.elim
  | own a xs =>
   obtain⟨hun,w,hw,hσ⟩:=hv j i hj;obtain⟨sv,hs2,rfl,_⟩:=(E1.drop hl').slot qi;rw[hσ]at hs2;cases hs2;have hjl:j<ls.length:=(so.mp hun).1;have hjv:j<vs.length:=by omega
   have hil:i<Z1.length:=(so.mp qi).1;have E2:=E1.out (i:=ls.length+i) (a:=a) (xs:=xs) (by rw[aal xL];simpa using qi);rw[abG _ _ xL,aaq]at E2;have E3:=E2.back (i:=j) (by rw[aaG hjl];exact hun) (by rw[aaG (by simp;omega)];simp[hw]);rw[List.set_append_left _ _ hjl]at E3;have hl3:(vs.map some).length=(ls.set j (.own a xs)).length:=by simp[hl]
   refine⟨hbl.trans hn,bD H1 (ls.set j (.own a xs)),_,_,(E3.left hl3).wide,q,λv H' r ls' E4 p=>?_⟩;obtain⟨ys,hys,p⟩:=p;refine⟨r,Z1.set i (.own a ys),?_,p⟩;have z:=M3 hl3 E3 E4;have hl4:(vs.map some).length=ls'.length:=by have:=E4.len;simpa using this
   have hjl':j<ls'.length:=by simp at hl4;omega
   have z1:=z.out (i:=1+j) (a:=a) (xs:=ys) (by rw[Nat.add_comm];simp only[List.getElem?_cons_succ];rw[aaG hjl'];exact hys);rw[Nat.add_comm 1 j,List.set_cons_succ,List.set_append_left _ _ hjl']at z1
   have z2:=z1.back (i:=(1+ls'.length)+i) (by
    rw[Nat.add_comm 1,Nat.add_right_comm,List.getElem?_cons_succ,aal x_]
    simp[hil]) (by
    rw[Nat.add_comm 1,Nat.add_right_comm,List.getElem?_cons_succ,aal (by simp at hl4 ⊢;omega)];simp at hl4 ⊢;rw[<- hl4,aaq]
    exact hσ)
   rw[Nat.add_comm 1,Nat.add_right_comm,List.set_cons_succ,abG _ _ x_]at z2;simp only[abg,aaq,abz]at z2;exact z2.drop1 (by simp at hl4 ⊢;exact hl4)
end
end
def Cp(Z:Ev):List L->List L->Prop:=Paired λl l'=>match l with
 |.own a _=>(∃ys,l'=.own a ys/\L.own a ys∈Z)∨l'=.un
 |.bx _ _=>l'=.un
 |.dic _ _=>l'=.un
 |l=>l'=l
def aL(ls:List L)(js:L->List L->Prop):Fl->Ev->Prop:=λf Z=>match f with
 |.rt r=>∃ls',Cp Z ls ls'/\js r ls'
 |.nx=>∃ls',Cp Z ls ls'/\js (.d .non) ls'
 |_=>False
theorem Cp.owns{Z:Ev}:∀{ls ls':List L},Cp Z ls ls'->(owns ls').Sublist (owns ls)
 |_,_,.nil=>.refl _
 | l::ls,l'::ls',.cons h t=>by
  have ih:=Cp.owns t;rw[aT,aT]
  cases l with
  | own a xs =>
   rcases h with⟨ys,rfl,_⟩|rfl
   . exact(abL _).append ih
   . exact ih.trans (abc _ _)
  |un=>have e:l'=.un:=h;subst e;exact(abL _).append ih
  |d x=>have e:l'=.d x:=h;subst e;exact(abL _).append ih
  |bx k ms=>have e:l'=.un:=h;subst e;exact ih.trans (abc _ _)
  |dic k ms=>have e:l'=.un:=h;subst e;exact ih.trans (abc _ _)
theorem Cp.sub{Z:Ev}:∀{ls ls':List L},Cp Z ls ls'->∀a∈L2.owns ls',a∈L2.owns Z
 |_,_,.nil=>λa ha=>by simp[L2.owns]at ha
 | l::ls,l'::ls',.cons h t=>λa ha=>by
  have ih:=Cp.sub t;rw[aT]at ha;rcases aap.mp ha with z|z
  .
   cases l with
   | own b xs =>
    rcases h with⟨ys,rfl,hm⟩|rfl
    .
     have e:a=b:=by simpa[bj]using z
     subst e;exact NY hm
    . simp[bj]at z
   |un=>have e:l'=.un:=h;subst e;simp[bj]at z
   |d x=>have e:l'=.d x:=h;subst e;simp[bj]at z
   |bx k ms=>have e:l'=.un:=h;subst e;simp[bj]at z
   |dic k ms=>have e:l'=.un:=h;subst e;simp[bj]at z
  . exact ih a z
theorem ui{K:W.Frag}{Pr H H':Hp}{σ τ:St}{ls ls' Z:Ev}{v:Option V}{r:L}(E:aJ K Pr H σ ls)(E':aJ K (bD H ls) H' (v::τ) (r::Z))(B:Cp Z ls ls'):aJ K Pr H' (v::σ) (r::ls'):=by
 have E1:=E.narrow E';have p:ye H H':=yM E E'.sub;have sub:=B.sub;have nd1:(owns ls').Nodup:=E.nd.sublist B.owns;refine⟨E1.sub,?_,λa ha=>?_,?_⟩
 . have nd:=E'.nd;rw[aT]at nd ⊢;obtain⟨n1,n2,n3⟩:=aaz.mp nd;exact aaz.mpr ⟨n1,nd1,λa ha b hb=>n3 a ha b (sub b hb)⟩
 .
  rw[aT]at ha;refine E1.off a ?_;rw[aT];rcases aap.mp ha with z|z
  . exact aaj _ z
  . exact aad _ (sub a z)
 .
  have s1:=E'.sl
  cases s1 with
  | cons q t =>
   refine .cons q ?_;have sl:=E.sl;clear E E' E1 nd1 sub
   induction B generalizing σ with
   |nil=>cases sl;exact .nil
   | cons h u ih =>
    rename_i l l' _ _
    cases sl with
    | cons s0 s2 =>
     refine .cons ?_ (ih s2)
     cases l with
     | own a xs =>
      rcases h with⟨ys,rfl,hm⟩|rfl
      . obtain⟨e,_⟩:=s0;obtain⟨_,_,_,z⟩:=Paired.mem2 t hm;exact⟨e,z⟩
      . unfold bf;exact True.intro
     |un=>have e:l'=.un:=h;subst e;unfold bf;exact True.intro
     |bx k ms=>have e:l'=.un:=h;subst e;unfold bf;exact True.intro
     |dic k ms=>have e:l'=.un:=h;subst e;unfold bf;exact True.intro
     | d x =>
      have e:l'=.d x:=h;subst e;obtain⟨w,e,r⟩:=s0;exact⟨w,e,r.pres p⟩
section
variable{P:Program}{w:World}{K:W.Frag}{mg:Str->Option Value}{base:Heap}
theorem aJ.uns{K:W.Frag}{Pr H:Hp}{σ:St}{Z:Ev}(E:aJ K Pr H σ Z):∀n,aJ K Pr H (σ++List.replicate n none) (Z++List.replicate n .un):=λn=>by
 have e:owns (Z++List.replicate n .un)=owns Z:=by
  rw[aK]
  have:owns (List.replicate n L.un)=[]:=by
   induction n with
   |zero=>rfl
   |succ n ih=>rw[List.replicate_succ,sO];exact ih
  rw[this,abh]
 refine⟨E.sub,by rw[e];exact E.nd,λa h=>E.off a (by rw[e]at h;exact h),Paired.app E.sl ?_⟩
 induction n with
 |zero=>exact .nil
 | succ n ih =>
  rw[List.replicate_succ,List.replicate_succ];refine .cons True.intro (ih ?_)
  have:owns (List.replicate n L.un)=[]:=by
   clear ih e
   induction n with
   |zero=>rfl
   |succ n ih=>rw[List.replicate_succ,sO];exact ih
  rw[aK,this,abh]
theorem aQ{x qual:Str}{st:Stmt}{f:Addr}{fd:FuncData}{N ps:List Str}{k:Nat}{fs:FS}(F:V4 K x qual st f fd)(S:ax N ps (ao st))(t:W Fl)
  (hbody:∀(cdv:Value)(A:Around)(outer:List Env)(s:Shared)(H:Hp)(E:XK),oI k (A.deeper (envOfC qual (ao st) s.heap.objs.size f cdv))->Wb (MX CX0 P w K mg base N qual (ao st) f cdv A outer s H E).nox (gv st) t)
  (h:∀ls js,ls.length=ps.length->fs ls js->t (ls++List.replicate (N.length-ps.length) .un) (aL ls js)):FnOk P w K mg base CX0 (k+1) f fd ps (spF K ps.length fs):=by
 refine F.ok S (λvs H Q E q=>q.1) (λcdv A outer s H vs Q E hr q=>?_);obtain⟨hl,Pr,ls,js,E0,hf,q⟩:=q;refine⟨_,(hbody cdv A outer s H E hr).pss,bD H ls,ls++List.replicate (N.length-ps.length) .un,aL ls js,?_,h ls js (by rw[<- hl];have:=E0.len;simpa using this.symm) hf,λσ' H' Z' E' p=>?_,λ_ _ _ _ p=>p.elim,λ_ _ _ _ p=>p.elim,λv τ H' r Z' E' p=>?_⟩
 . unfold xk;rw[hl];exact E0.wide.uns _
 . obtain⟨ls',B,p⟩:=p;exact q .non H' (.d .non) ls' (ui E0 (E'.cons_d .non) B) p
 . obtain⟨ls',B,p⟩:=p;exact q v H' r ls' (ui E0 E' B) p
end
theorem aD{Z:Ev}:Cp Z [] []:=.nil
theorem ag{Z:Ev}{x:D}{a b:List L}(t:Cp Z a b):Cp Z (.d x::a) (.d x::b):=.cons rfl t
theorem Ei{Z:Ev}{p:Addr}{xs ys:List D}{a b:List L}(h:L.own p ys∈Z)(t:Cp Z a b):Cp Z (.own p xs::a) (.own p ys::b):=.cons (.inl ⟨ys,rfl,h⟩) t
section
variable{X:Cx}{e a b c tg:Expr}{es:List Expr}{pos:Pos}{tA:W Bool}{t u:W Fl}
def AQ(c:W Bool)(b:W Fl):W Fl:=λZ js=>∃J:Nat->Ev->Prop,(∃n,J n Z)/\∀n Z,J n Z->c Z λt Z1=>if t=true then b Z1 λf Z2=>(match f with
 |.nx=>∃m,m<n/\J m Z2
 |.ct=>∃m,m<n/\J m Z2
 |.bk=>js .nx Z2
 |.rt r=>js (.rt r) Z2)else js .nx Z1
theorem uj{body:List Stmt}(hp:PassesOwn (model X.prog X.w) X.A X.env X.xe)(hc:PB X c tA)(hb:Wb X body t):PM X (.While c body [] pos) (AQ tA t):=by
 refine PM.of (KA hp hc.pt hb.pss) λσ H Pr Z js b0 E h=>?_;obtain⟨J,⟨n0,j0⟩,turn⟩:=h;refine⟨λn σ H=>∃Z,aJ X.K Pr H σ Z/\J n Z,⟨n0,Z,E,j0⟩,λn σ1 H1 ⟨Z1,E1,j1⟩=>⟨Pr,Z1,_,E1,turn n Z1 j1,λb H2 Z2 E2 q=>?_⟩⟩
 cases b with
 |false=>exact⟨Z2,E2,q⟩
 | true =>
  refine⟨λσ' H'=>∃Z' m,aJ X.K Pr H' σ' Z'/\m<n/\J m Z',λσ' H' ⟨Z',m,E',hm,j⟩=>⟨m,hm,Z',E',j⟩,Pr,Z2,_,E2,q,λσ' H' Z' E' ⟨m,hm,j⟩=>⟨Z',m,E',hm,j⟩,λσ' H' Z' E' p=>⟨Z',E',p⟩,λσ' H' Z' E' ⟨m,hm,j⟩=>⟨Z',m,E',hm,j⟩,λv τ H' r Z' E' p=>⟨τ,r,Z',E',p⟩⟩
abbrev Tg:=D->Ev->(Ev->Prop)->Prop
def Wl(X:Cx)(tg:Expr)(g:Tg):Prop:=∃gg:TG,PG X tg gg/\∀v σ H Pr Z x k,σ.length=X.N.length->aJ X.K Pr H σ Z->V6 X.K H v x->g x Z k->gg v σ H λσ' H'=>H'=H/\σ'.length=X.N.length/\∃Z',aJ X.K Pr H σ' Z'/\k Z'
def aU(i:Nat):Tg:=λx Z k=>k (Z.set i (.d x))
theorem bT{i:Nat}{x:Str}(hN:X.N.Nodup)(hi:X.N[i]?=some x)(hx:Vq X.env.scope x)(hf:X.fn x=true∨X.env.scope.names.lookup x=some .local:=by first|exact .inl rfl|exact .inr rfl|assumption):Wl X (.Name x pos) (aU i) :=
 ⟨_,yH hN hi hx hf,λv σ H Pr Z x k hl E r h=>⟨rfl,by simpa using hl,_,(E.cons_d r).store (by rw[hl];exact(so.mp hi).1),h⟩⟩
def j7:List Nat->List D->Ev->(Ev->Prop)->Prop
 |[],[],Z,k=>k Z
 |i::is,x::xs,Z,k=>j7 is xs (Z.set i (.d x)) k
 |_,_,_,_=>False
def Wm(X:Cx)(es:List Expr)(is:List Nat):Prop:=∃gg:VA,VB X es gg/\es.length=is.length/\∀vs σ H Pr Z xs k,σ.length=X.N.length->aJ X.K Pr H σ Z->bV X.K H vs xs->j7 is xs Z k->gg vs σ H λσ' H'=>H'=H/\σ'.length=X.N.length/\∃Z',aJ X.K Pr H σ' Z'/\k Z'
theorem jf:Wm X [] []:=⟨_,GZ,rfl,λvs σ H Pr Z xs k hl E r h=>by
 cases r with
 |nil=>exact⟨rfl,rfl,hl,Z,E,h⟩
 |cons _ _=>exact h.elim⟩
theorem bh{i:Nat}{is:List Nat}{x:Str}(hN:X.N.Nodup)(hi:X.N[i]?=some x)(hx:Vq X.env.scope x)(hr:Wm X es is)(hf:X.fn x=true∨X.env.scope.names.lookup x=some .local:=by first|exact .inl rfl|exact .inr rfl|assumption)
  (hs:(assignEach (.Name x pos::es) X.env).map (·.2)=assign (.Name x pos) X.env::(assignEach es X.env).map (·.2):=by rfl):Wm X (.Name x pos::es) (i::is):=by
 obtain⟨gg,hg,b0,q⟩:=hr;refine⟨_,Ea (yH hN hi hx hf) hg hs,by simp[b0],λvs σ H Pr Z xs k hl E r h=>?_⟩
 cases r with
 |nil=>exact h.elim
 | cons r0 t =>
  refine⟨_,_,rfl,?_⟩;exact q _ _ H Pr _ _ k (by simpa using hl) ((E.cons_d r0).store (by rw[hl];exact(so.mp hi).1)) t h
def eF(is:List Nat):Tg:=λx Z k=>match x with
 |.tup xs=>j7 is xs Z k
 |_=>False
theorem oK:∀{is:List Nat}{xs:List D}{Z:Ev}{k:Ev->Prop},j7 is xs Z k->xs.length=is.length
 |[],[],_,_,_=>rfl
 |_::is,_::xs,_,_,h=>by simp[oK (is:=is) (xs:=xs) h]
 |[],_::_,_,_,h=>h.elim
 |_::_,[],_,_,h=>h.elim
theorem nT{is:List Nat}{k:Nat}(hc:X.calm=true)(h:Wm X es is)(hn:(assignEach es X.env).length=is.length:=by rfl)(hst:(assignEach es X.env).findIdx? (·.1)=none:=by rfl):Wl X (.Tuple es k pos) (eF is):=by
 obtain⟨gg,hg,b0,q⟩:=h;refine⟨_,MT hc hg hn hst,λv σ H Pr Z x k hl E r h=>?_⟩
 cases r with
 |tup hs rs=>exact⟨_,_,rfl,hs,by rw[rs.length];exact oK h,q _ σ H Pr Z _ k hl E rs h⟩
 |_=>exact h.elim
def fW(g:Tg)(b:W Fl):List D->W Fl
 |[]=>λZ js=>js .nx Z
 | x::xs=>λZ js=>g x Z λZ1=>b Z1 λf Z2=>match f with
  |.nx=>fW g b xs Z2 js
  |.ct=>fW g b xs Z2 js
  |.bk=>js .nx Z2
  |.rt r=>js (.rt r) Z2
def oM:D->(List D->Prop)->Prop
 |.lst xs,k=>k xs
 |.tup xs,k=>k xs
 |_,_=>False
def QU(H H':Hp):Prop:=H'=H∨∃p o,H p=none/\H'=Vj H p o
theorem aJ.grown{K:W.Frag}{Pr H H':Hp}{σ:St}{Z:Ev}(E:aJ K Pr H σ Z)(g:QU H H'):aJ K Pr H' σ Z:=by
 rcases g with rfl|⟨p,o,h,rfl⟩
 . exact E
 . exact E.new h
def FZ(K:W.Frag)(H:Hp)(J:It)(xs:List D):Prop:=∀H',ye H H' ->
 (∀i x,xs[i]?=some x->J.go i H'/\∀v H2,J.yld i H' v H2->QU H' H2/\V6 K H2 v x)/\J.stop xs.length H'
inductive EI (X:Cx) (ab:List (Addr×Obj)) (σ:St) (tg:Expr) (Pr:Hp) (js:List D->Ev->Prop) (itv:Value) (s2:Shared):Prop
 |mk (it:Addr) (fp:List Addr) (tn:Nat->Heap->Prop) (J:It) (H':Hp) (xs:List D) (Z':Ev) (hv:itv=.ref it) (i:Vr X ab σ H' s2) (t:NL X.prog X.w X.K tg J fp it tn) (h0:tn 0 s2.heap) (hf:∀b∈fp,G0 X ab H' b) (e:aJ X.K Pr H' σ Z') (g:FZ X.K H' J xs) (p:js xs Z')
def Wn(X:Cx)(tg iter:Expr)(w:W (List D)):Prop :=
 ∀(ab:List (Addr×Obj))(s:Shared)(σ:St)(H Pr:Hp)(Z:Ev)(js:List D->Ev->Prop),Vr X ab σ H s->aJ X.K Pr H σ Z->w Z js ->
  wpAny (model X.prog X.w) X.A (eval iter X.env) (λv s1=>wpAny (model X.prog X.w) X.A (pyIter v) (EI X ab σ tg Pr js) X.xe s1) X.xe s
def qY(t:W L):W (List D):=λZ js=>t Z λr Z1=>Wc r λx=>oM x λxs=>js xs Z1
theorem F0{K:W.Frag}{H:Hp}{a:Addr}{vs:List V}{xs:List D}(h:V5 K H a vs)(r:bV K H vs xs):FZ K H (VD K a) xs:=λH' p=>by have h':=(h.pres p).l;refine⟨λi x e=>?_,⟨vs,h',by rw[r.length];exact ZY _⟩⟩;obtain⟨v,ev,rv⟩:=r.get e;refine⟨⟨vs,v,h',ev⟩,λw H2 ⟨e1,e2⟩=>?_⟩;have e3:=e2 vs h';rw[ev]at e3;cases e3;subst e1;exact⟨.inl rfl,rv.pres p⟩
theorem Hq{K:W.Frag}{H:Hp}{a:Addr}{vs:List V}{xs:List D}(h:Vz K H a vs)(r:bV K H vs xs):FZ K H (VE K a) xs:=λH' p=>by have h':=h.pres p;refine⟨λi x e=>?_,⟨vs,h',by rw[r.length];exact ZY _⟩⟩;obtain⟨v,ev,rv⟩:=r.get e;refine⟨⟨vs,v,h',ev⟩,λw H2 ⟨e1,e2⟩=>?_⟩;have e3:=e2 vs h';rw[ev]at e3;cases e3;subst e1;exact⟨.inl rfl,rv.pres p⟩
theorem bG{t:W L}(h:PL X e t):Wn X tg e (qY t):=by
 intro ab s σ H Pr Z js I E ht;refine Vv (h ab s σ H Pr Z _ I E ht) λu s1 q=>?_;obtain⟨v,H1,x,Z1,I1,r1,E1,q2⟩:=EL.frz (js:=λx Z1=>oM x λxs=>js xs Z1) q;obtain⟨_,e1,p⟩:=E1.head_d;cases e1
 cases p with
 | lst hz rs =>
  cases r1;obtain⟨its,rv,pl,hz'⟩:=I1.list hz.l;refine wpAny_pyIter_list pl.isList ?_;refine⟨s1.heap.objs.size,[s1.heap.objs.size],_,_,H1,_,Z1,rfl,I1.kept (t':=s1.toks) λb o e=>ZO _ e,G1 _ _,⟨_,aah _ rfl,rfl,rfl⟩,λb hb=>?_,E1.tail,F0 hz rs,q2⟩;have e:b=s1.heap.objs.size:=by simpa using hb
  subst e;exact I1.fpOk (ZY _) (I1.hok.fresh (ZY _))
 | tup hz rs =>
  cases r1;obtain⟨its,rv,pl,hz'⟩:=I1.tuple hz;refine wpAny_pyIter_tuple (show s1.heap.IsTuple _ its.toArray from pl) ?_;refine⟨s1.heap.objs.size,[s1.heap.objs.size],_,_,H1,_,Z1,rfl,I1.kept (t':=s1.toks) λb o e=>ZO _ e,FK _ _,⟨_,aah _ rfl,rfl,rfl⟩,λb hb=>?_,E1.tail,Hq hz rs,q2⟩;have e:b=s1.heap.objs.size:=by simpa using hb
  subst e;exact I1.fpOk (ZY _) (I1.hok.fresh (ZY _))
 |_=>exact q2.elim
noncomputable def q5(lo:Int)(n:Nat):List D:=(List.range n).map λ(i:Nat)=>.int (lo+(i:Int))
theorem AR{K:W.Frag}{H:Hp}(lo:Int)(n:Nat):FZ K H (VF lo n) (q5 lo n):=λH' p=>by
 refine⟨λi x e=>?_,?_⟩
 .
  have hi:i<n:=by have:=(so.mp e).1;simpa[q5]using this
  refine⟨hi,λv H2 ⟨e1,e2⟩=>?_⟩;subst e1 e2;have:x=.int (lo+(i:Int)):=by unfold q5 at e;rw[ZZ,aau hi]at e;simpa using e.symm
  subst this;exact⟨.inl rfl,.int _⟩
 . show n<=(q5 lo n).length;simp[q5]
def tS:L->(Int->Prop)->Prop
 |.d (.int i),k=>k i
 |_,_=>False
theorem gI{r:L}{k:Int->Prop}(h:tS r k):∃i,r=.d (.int i)/\k i:=by
 cases r with
 | d x=>cases x with
  |int i=>exact⟨i,rfl,h⟩
  |_=>exact h.elim
 |_=>exact h.elim
def Hr(j:Int):Prop:=-(2^62)<=j/\j<2^62
def oN(t:W L):W (List D):=λZ js=>t Z λr Z1=>tS r λj=>Hr j/\js (q5 0 j.toNat) Z1
def F4(t u:W L):W (List D):=λZ js=>t Z λr Z1=>tS r λi=>u Z1 λr Z2=>tS r λj=>Hr i/\Hr j/\js (q5 i (j-i).toNat) Z2
theorem c9{t:W L}{p pos:Pos} (hg:Gl X "range") (hm:X.mg "range"=none) (ha:PL X a t) (hs:starEach [a] X.env=[(false,eval a X.env)]:=by rfl):Wn X tg (.Call (.Name "range" p) [a] [] pos) (oN t):=by
 intro ab s σ H Pr Z js I E h;refine Vv (G2 (tg:=tg) hg hm (je ha.pe uG hs) hs ab s σ H (λJ H1=>∃Z1 n,J=VF 0 n/\aJ X.K Pr H1 σ Z1/\js (q5 0 n) Z1) I ?_) λv s1 q=>Vv q λitv s2 ⟨it,fp,tn,J,H',e,I',T,t0,hf,Z1,n,eJ,E1,q⟩=>?_
 . refine⟨Pr,Z,_,E,h,λv H' r Z' E' p=>?_⟩;obtain⟨j,rfl,hj,p⟩:=gI p;obtain⟨_,e1,p1⟩:=E'.head_d;cases e1;obtain rfl:=V6.inv_int p1;exact⟨j,rfl,hj.1,hj.2,Z',_,rfl,E'.tail,p⟩
 . subst eJ;exact⟨it,fp,tn,_,H',_,Z1,e,I',T,t0,hf,E1,AR 0 n,q⟩
theorem uk{t u:W L}{p pos:Pos} (hg:Gl X "range") (hm:X.mg "range"=none) (ha:PL X a t) (hb:PL X b u) (hs:starEach [a,b] X.env=[(false,eval a X.env),(false,eval b X.env)]:=by rfl) (hs2:starEach [b] X.env=[(false,eval b X.env)]:=by rfl):Wn X tg (.Call (.Name "range" p) [a,b] [] pos) (F4 t u):=by
 intro ab s σ H Pr Z js I E h;refine Vv (G3 (tg:=tg) hg hm (je ha.pe (je hb.pe uG hs2) (hs.trans (by rw[hs2]))) hs hs2 ab s σ H (λJ H1=>∃Z1 lo n,J=VF lo n/\aJ X.K Pr H1 σ Z1/\js (q5 lo n) Z1) I ?_) λv s1 q=>Vv q λitv s2 ⟨it,fp,tn,J,H',e,I',T,t0,hf,Z1,lo,n,eJ,E1,q⟩=>?_
 . refine⟨Pr,Z,_,E,h,λv H' r Z' E' p=>?_⟩;obtain⟨i,rfl,p⟩:=gI p;obtain⟨_,e1,p1⟩:=E'.head_d;cases e1;obtain rfl:=V6.inv_int p1;refine⟨Pr,Z',_,E'.tail,p,λv H2 r Z2 E2 p=>?_⟩;obtain⟨j,rfl,hi,hj,p⟩:=gI p;obtain⟨_,e1,p1⟩:=E2.head_d;cases e1;obtain rfl:=V6.inv_int p1;exact⟨i,j,rfl,⟨hi.1,hi.2,hj.1,hj.2⟩,Z2,_,_,rfl,E2.tail,p⟩
 . subst eJ;exact⟨it,fp,tn,_,H',_,Z1,e,I',T,t0,hf,E1,AR lo n,q⟩
def oO(s:W (List D))(g:Tg)(b:W Fl):W Fl:=λZ js=>s Z λxs Z1=>fW g b xs Z1 js
theorem bQ{iter:Expr}{body:List Stmt}{w:W (List D)}{g:Tg}(hp:PassesOwn (model X.prog X.w) X.A X.env X.xe)(hc:X.calm=true)(hi:Wn X tg iter w)(hg:Wl X tg g)(hb:Wb X body t)
  (hs:∀x,foldedSetIterable iter X.env x=pure x:=by intro _;rfl):PM X (.For tg iter body [] pos) (oO w g t):=by
 intro ab s σ H Pr Z js I E h;obtain⟨gg,hg,hgg⟩:=hg;refine wpAny_For (Vv (hi ab s σ H Pr Z _ I E h) λv s1 h1=>Vv h1 λitv s2 h2=>?_) hs;obtain⟨it,fp,tn,J,H2,xs,Z2,e,I2,T,st2,f2,E2,G,w0⟩:=h2;subst e;have stat:∀{H':Hp},(∀b∈fp,H' b=none)->∀b∈fp,G0 X ab H' b:=λhn b hb=>⟨hn b hb,(f2 b hb).2⟩;refine codeAny_forLoop_any (λn s'=>∃i σ' H' Z',n+i=xs.length/\Vr X ab σ' H' s'/\tn i s'.heap/\(∀b∈fp,H' b=none)/\aJ X.K (bD H2 Z2) H' σ' Z'/\fW g t (xs.drop i) Z' js) ?_ xs.length ⟨0,σ,H2,Z2,xL,I2,st2,λb hb=>(f2 b hb).1,E2.wide,by simpa using w0⟩;rintro n s3 ⟨i,σ3,H3,Z3,hn,I3,st3,fr3,E3,w3⟩;obtain⟨go,stop⟩:=G H3 (yM E2 E3.sub);by_cases hlt:i<xs.length
 .
  obtain⟨hgo,hy⟩:=go i xs[i] (gV hlt);rw[aaB hlt]at w3;refine abI hp (Vv (T.item X rfl rfl rfl hc i ab s3 σ3 H3 X.xe I3 (stat fr3) st3 hgo) λr s4 ⟨u,hr,h4⟩=>?_);subst hr;refine abI hp (Vv h4 λ_ s5 ⟨x,H5,I5,r5,y5,st5,fr5⟩=>?_);obtain⟨gr,rx⟩:=hy x H5 y5;have I5':=I5.pinned (stat fr5) (T.obj _ _ st5);have E5:=E3.grown gr;refine abI hp (Vv (hg _ s5 σ3 H5 x u _ I5' r5 (hgg x σ3 H5 _ Z3 xs[i] _ I5.len E5 rx w3)) λ_ s6 ⟨σ6,H6,I6,e6,hl6,Z6,E6,q6⟩=>?_);subst e6;refine abI hp (Vv (hb _ s6 σ6 _ _ Z6 _ I6 E6 q6) λf s7 q7=>?_)
  have again:∀{σ7:St}{H7:Hp}{Z7:Ev},Vr X (ab++Ay fp s5.heap) σ7 H7 s7->aJ X.K (bD H2 Z2) H7 σ7 Z7->fW g t (xs.drop (i+1)) Z7 js ->
    ∃m,m<n/\∃i σ' H' Z',m+i=xs.length/\Vr X ab σ' H' s7/\tn i s7.heap/\(∀b∈fp,H' b=none)/\aJ X.K (bD H2 Z2) H' σ' Z'/\fW g t (xs.drop i) Z' js:=λ{σ7 H7 Z7} I7 E7 n7=>by
   refine⟨n-1,xL,i+1,σ7,H7,Z7,xL,I7.unpinned,T.keep _ _ _ st5 λb hb o e=>(I7.pin (b,o) (aad _ (aad _ (m7 hb e)))).1,λb hb=>?_,E7,n7⟩;obtain⟨o,e,d⟩:=T.obj _ _ st5 b hb;exact(I7.pin (b,o) (aad _ (aad _ (m7 hb e)))).2.1
  cases f with
  |next=>obtain⟨σ7,H7,Z7,I7,E7,n7⟩:=q7;exact again I7 E7 n7
  |cont=>obtain⟨σ7,H7,Z7,I7,E7,n7⟩:=q7;exact again I7 E7 n7
  |brk=>obtain⟨σ7,H7,Z7,I7,E7,q7⟩:=q7;exact⟨σ7,H7,Z7,I7.unpinned,E2.narrow E7,q7⟩
  |ret v=>obtain⟨x7,σ7,H7,r,Z7,τ,I7,r7,E7,q7⟩:=q7;exact⟨x7,σ7,H7,r,Z7,τ,I7.unpinned,r7,E2.narrow E7,q7⟩
 .
  have e:i=xs.length:=by omega
  subst e;refine abI hp (Vv (T.done X rfl rfl rfl hc xs.length ab s3 σ3 H3 X.xe I3 (stat fr3) st3 stop) λr s4 ⟨hr,I4⟩=>?_);subst hr;rw[List.drop_length]at w3;exact wpAny_execs_nil ⟨σ3,H3,Z3,I4,E2.narrow E3,w3⟩
end
section
variable{X:Cx}{e a b c:Expr}{pos:Pos}{ta tb:W L}
def cI(i:Int):Prop:=i.natAbs<2^1000000
def jE:Wd:=λx y k=>match x,y with
 |.int i,.int j=>k (.d (.int (i+j)))
 |.str i,.str j=>i.length+j.length<=sizeLine/\k (.d (.str (i++j)))
 |.lst xs,.lst ys=>xs.length+ys.length<=sizeLine/\∀a,k (.own a (xs++ys))
 |_,_=>False
def nE:Wd:=λx y k=>match x,y with
 |.int i,.int j=>k (.d (.int (i-j)))
 |_,_=>False
def tT:Wd:=λx y k=>match x,y with
 |.int i,.int j=>j≠0/\j.natAbs<2^9000/\k (.d (.int (i.fdiv j)))
 |_,_=>False
def j8:Wd:=λx y k=>match x,y with
 |.int i,.int j=>j≠0/\k (.d (.int (i.fmod j)))
 |_,_=>False
def Hs:Wd:=λx y k=>match x,y with
 |.int i,.int j=>0<=j/\j<=1000000/\i.natAbs<2^64/\k (.d (.int (i^j.toNat)))
 |_,_=>False
def uR:Wd:=λx y k=>match x,y with
 |.int i,.int j=>k (.d (.bl (decide (i<j))))
 |_,_=>False
def Ht:Wd:=λx y k=>match x,y with
 |.int i,.int j=>k (.d (.bl (decide (i<=j))))
 |_,_=>False
def Qe:Wd:=λx y k=>match x,y with
 |.int i,.int j=>k (.d (.bl (decide (j<i))))
 |_,_=>False
def QV:Wd:=λx y k=>match x,y with
 |.int i,.int j=>k (.d (.bl (decide (j<=i))))
 |_,_=>False
theorem Hu{i j:Int}(h1:cI i)(h2:cI j):IntMulOk i j:=IntMulOk.of_le (PySem.intBits_le_iff.mpr h1) (PySem.intBits_le_iff.mpr h2) xp
theorem N8:VG X (binaryOp .Mult) (rI (λi j=>cI i/\cI j) λi j=>.int (i*j)):=VL λ_ _ _ _ _ _ _ hc q=>mul_int q (Hu hc.1 hc.2)
theorem N9:VG X (binaryOp .FloorDiv) (rI (λi j=>j≠0/\j.natAbs<2^9000) λi j=>.int (i.fdiv j)):=VL λi j _ _ _ _ _ hc q=>floordiv_int hc.1 q (.inl (PyProof.noPylong_of_log2 ((Nat.log2_lt (by have:=hc.1;omega)).mpr hc.2)))
theorem Oa:VG X (binaryOp .Add) (λx y H Q=>∃l b xs zs,x=.ref l/\y=.ref b/\Vy X.K H l xs/\Vy X.K H b zs/\xs.length+zs.length<=sizeLine/\∀p,H p=none->Q (.ref p) (Vj H p (.lst (xs++zs)))):=by
 intro ab s σ H x y v u Q I rx ry h;obtain⟨l,b,xs,zs,rfl,rfl,hH,hB,hz,q⟩:=h;cases rx;cases ry;obtain⟨its,r,⟨o,n,e,c,d,f⟩,z⟩:=I.list hH;obtain⟨its2,r2,⟨o2,n2,e2,c2,d2,f2⟩,z2⟩:=I.list hB;obtain⟨cl,dd,dt,sl⟩:=o;obtain⟨cl2,dd2,dt2,sl2⟩:=o2;simp only at c f c2 f2;subst c f c2 f2;have hl:=r.length;have hl2:=r2.length;refine concat_meets ⟨_,e,rfl⟩ ⟨_,e2,rfl⟩ noFill_list_add seq_list_add PySem.F.slot_list_add PySem.F.entry_list_add (PySem.F.args_list_add_2 _ _) (list_addW l b its.toArray its2.toArray n n2 dd dd2 sl sl2 (by rw[aab,aab];omega)) ⟨e,e2,?_⟩;have ea:its.toArray++its2.toArray=(its++its2).toArray:=by simp
 rw[ea];exact⟨.ref _,_,I.lnew (t':=s.toks) (r.append r2) (by rw[aaK];omega),rfl,q _ I.fresh⟩
theorem KW{x y:D}{k:L->Prop}(h:jE x y k):(∃i j,x=.int i/\y=.int j/\k (.d (.int (i+j))))∨(∃i j,x=.str i/\y=.str j/\i.length+j.length<=sizeLine/\k (.d (.str (i++j))))∨∃xs ys,x=.lst xs/\y=.lst ys/\xs.length+ys.length<=sizeLine/\∀a,k (.own a (xs++ys)):=by
 unfold jE at h;split at h
 . exact .inl ⟨_,_,rfl,rfl,h⟩
 . exact .inr (.inl ⟨_,_,rfl,rfl,h⟩)
 . exact .inr (.inr ⟨_,_,rfl,rfl,h⟩)
 . exact h.elim
theorem Ob:We X (binaryOp .Add) (λx y k=>∃i j,x=.int i/\y=.int j/\k (.d (.int (i+j)))):=We.of Qu λσ H Pr Z x y dx dy js E px py ⟨i,j,e1,e2,h⟩=>by subst e1 e2;obtain rfl:=V6.inv_int px;obtain rfl:=V6.inv_int py;exact⟨i,j,rfl,rfl,_,E.cons_d (.int _),h⟩
theorem Oc:We X (binaryOp .Add) (λx y k=>∃i j,x=.str i/\y=.str j/\i.length+j.length<=sizeLine/\k (.d (.str (i++j)))):=We.of FM λσ H Pr Z x y dx dy js E px py ⟨i,j,e1,e2,z,h⟩=>by subst e1 e2;obtain rfl:=V6.inv_str px;obtain rfl:=V6.inv_str py;exact⟨i,j,rfl,rfl,z,_,E.cons_d (.str _),h⟩
theorem Od:We X (binaryOp .Add) (λx y k=>∃xs ys,x=.lst xs/\y=.lst ys/\xs.length+ys.length<=sizeLine/\∀a,k (.own a (xs++ys))):=We.of Oa λσ H Pr Z x y dx dy js E px py ⟨xs,ys,e1,e2,z,h⟩=>by
 subst e1 e2;obtain⟨_,_,rfl,h1,r1⟩:=V6.inv_lst px
 cases py with
 |lst h2 r2=>exact⟨_,_,_,_,rfl,rfl,h1.l,h2.l,by rw[r1.length,r2.length];exact z,λp hp=>⟨_,E.cons_own hp (r1.append r2),h p⟩⟩
theorem gD:We X (binaryOp .Add) jE:=by
 intro ab s σ H Pr Z x y v u dx dy js I rx ry E px py ho;rcases KW ho with h|h|h
 . exact Ob ab s σ H Pr Z x y v u dx dy js I rx ry E px py h
 . exact Oc ab s σ H Pr Z x y v u dx dy js I rx ry E px py h
 . exact Od ab s σ H Pr Z x y v u dx dy js I rx ry E px py h
theorem Ej{f:Value->Value->Sem Value}{C:Int->Int->Prop}{g:Int->Int->V}{gd:Int->Int->D}(h:VG X f (rI C g))(hg:∀K H i j,V6 K H (g i j) (gd i j)) :
  We X f (λx y k=>∃i j,x=.int i/\y=.int j/\C i j/\k (.d (gd i j))) :=
 We.of h λσ H Pr Z x y dx dy js E px py ⟨i,j,e1,e2,z,h⟩=>by subst e1 e2;obtain rfl:=V6.inv_int px;obtain rfl:=V6.inv_int py;exact⟨i,j,rfl,rfl,z,_,E.cons_d (hg _ _ _ _),h⟩
theorem uS{f:Value->Value->Sem Value}{g:Int->Int->V}{gd:Int->Int->D}(h:VG X f (VJ g))(hg:∀K H i j,V6 K H (g i j) (gd i j)) :
  We X f (λx y k=>∃i j,x=.int i/\y=.int j/\k (.d (gd i j))) :=
 We.of h λσ H Pr Z x y dx dy js E px py ⟨i,j,e1,e2,h⟩=>by subst e1 e2;obtain rfl:=V6.inv_int px;obtain rfl:=V6.inv_int py;exact⟨i,j,rfl,rfl,_,E.cons_d (hg _ _ _ _),h⟩
theorem jF:We X (binaryOp .Sub) nE:=(uS Qv (gd:=λi j=>.int (i-j)) λ_ _ _ _=>.int _).imp λx y k h=>by
 unfold nE at h;split at h
 . exact⟨_,_,rfl,rfl,h⟩
 . exact h.elim
theorem QW:We X (binaryOp .Mult) (λx y k=>∃i j,x=.int i/\y=.int j/\(cI i/\cI j)/\k (.d (.int (i*j)))):=Ej N8 (gd:=λi j=>.int (i*j)) λ_ _ _ _=>.int _
def bp:Wd:=λx y k=>match x,y with
 |.int i,.int j=>cI i/\cI j/\k (.d (.int (i*j)))
 |_,_=>False
theorem a8:We X (binaryOp .Mult) bp:=QW.imp λx y k h=>by
 unfold bp at h;split at h
 . exact⟨_,_,rfl,rfl,⟨h.1,h.2.1⟩,h.2.2⟩
 . exact h.elim
theorem qe:We X (binaryOp .FloorDiv) tT:=(Ej N9 (gd:=λi j=>.int (i.fdiv j)) λ_ _ _ _=>.int _).imp λx y k h=>by
 unfold tT at h;split at h
 . exact⟨_,_,rfl,rfl,⟨h.1,h.2.1⟩,h.2.2⟩
 . exact h.elim
theorem gE:We X (binaryOp .Mod) j8:=(Ej NN (gd:=λi j=>.int (i.fmod j)) λ_ _ _ _=>.int _).imp λx y k h=>by
 unfold j8 at h;split at h
 . exact⟨_,_,rfl,rfl,h.1,h.2⟩
 . exact h.elim
theorem M4:We X (binaryOp .Pow) Hs:=(Ej Qw (gd:=λi j=>.int (i^j.toNat)) λ_ _ _ _=>.int _).imp λx y k h=>by
 unfold Hs at h;split at h
 . exact⟨_,_,rfl,rfl,⟨h.1,h.2.1,h.2.2.1⟩,h.2.2.2⟩
 . exact h.elim
theorem oP:We X (compareOp .Lt) uR:=(uS Qy (gd:=λi j=>.bl (decide (i<j))) λ_ _ _ _=>.bl _).imp λx y k h=>by
 unfold uR at h;split at h
 . exact⟨_,_,rfl,rfl,h⟩
 . exact h.elim
theorem Oe:We X (compareOp .LtE) Ht:=(uS Qz (gd:=λi j=>.bl (decide (i<=j))) λ_ _ _ _=>.bl _).imp λx y k h=>by
 unfold Ht at h;split at h
 . exact⟨_,_,rfl,rfl,h⟩
 . exact h.elim
theorem Of:We X (compareOp .Gt) Qe:=(uS Sx (gd:=λi j=>.bl (decide (j<i))) λ_ _ _ _=>.bl _).imp λx y k h=>by
 unfold Qe at h;split at h
 . exact⟨_,_,rfl,rfl,h⟩
 . exact h.elim
theorem QX:We X (compareOp .GtE) QV:=(uS Sy (gd:=λi j=>.bl (decide (j<=i))) λ_ _ _ _=>.bl _).imp λx y k h=>by
 unfold QV at h;split at h
 . exact⟨_,_,rfl,rfl,h⟩
 . exact h.elim
mutual
noncomputable def Wo:D->PyData
 |.non=>.none
 |.bl b=>.bool b
 |.int i=>.int i
 |.str x=>.str x
 |.tup xs=>.tuple (gT xs)
 |.lst xs=>.list (gT xs)
 |.dct _=>.dict []
 |.exc _ _ _=>.dict []
 |.fn _ _=>.dict []
 |.dk _ _=>.dict []
 |.gf _=>.dict []
noncomputable def gT:List D->List PyData
 |[]=>[]
 |x::xs=>Wo x::gT xs
end
noncomputable def Wp(x y:D):Bool:=PyData.eqv (Wo x) (Wo y)
def dN(x:D):Prop:=SeqAt.shaped (Wo x)=true
def qV:Wd:=λx y k=>dN x/\dN y/\k (.d (.bl (Wp x y)))
def um:Wd:=λx y k=>dN x/\dN y/\k (.d (.bl (!Wp x y)))
mutual
theorem m9{ab:List (Addr×Obj)}{σ:St}{H:Hp}{s:Shared}(I:Vr X ab σ H s):∀(d:D)(x:V)(u:Value),cO x u->V6 X.K H x d->(Wo d).canLay0=true->∃as,Reads s.heap u (Wo d) as
 |.non,_,_,rv,r,_=>by obtain rfl:=V6.inv_non r;cases rv;exact⟨_,.none⟩
 |.bl b,_,_,rv,r,_=>by obtain rfl:=V6.inv_bl r;cases rv;exact⟨_,.bool b⟩
 |.int i,_,_,rv,r,_=>by obtain rfl:=V6.inv_int r;obtain⟨t,rfl⟩:=rv;exact⟨_,.int i t⟩
 |.str z,_,_,rv,r,_=>by obtain rfl:=V6.inv_str r;obtain⟨t,rfl⟩:=rv;exact⟨_,.str z t⟩
 | .tup xs,_,_,rv,r,hc=>by
  obtain⟨_,_,rfl,h,rs⟩:=V6.inv_tup r
  cases rv
  obtain⟨its,vs,⟨o,e,c,n,d⟩,_⟩:=I.tuple h
  obtain⟨as,ra⟩:=gU I xs _ _ vs rs hc
  exact⟨_,.tuple (xs:=gT xs) e c d (by simpa using ra)⟩
 | .lst xs,_,_,rv,r,hc=>by
  obtain⟨_,_,rfl,h,rs⟩:=V6.inv_lst r
  cases rv
  obtain⟨its,vs,⟨o,n,e,c,_,d⟩,_⟩:=I.list h.l
  obtain⟨as,ra⟩:=gU I xs _ _ vs rs hc
  exact⟨_,.list (xs:=gT xs) e c d (by simpa using ra)⟩
 |.dct _,_,_,_,_,hc=>nomatch hc
 |.exc _ _ _,_,_,_,_,hc=>nomatch hc
 |.fn _ _,_,_,_,_,hc=>nomatch hc
 |.dk _ _,_,_,_,_,hc=>nomatch hc
 |.gf _,_,_,_,_,hc=>nomatch hc
theorem gU{ab:List (Addr×Obj)}{σ:St}{H:Hp}{s:Shared}(I:Vr X ab σ H s):∀(ds:List D)(vs:List V)(us:List Value),dA vs us->bV X.K H vs ds->PyData.canLayAll0 (gT ds)=true->∃as,ReadsAll s.heap us (gT ds) as
 |[],_,_,rv,r,_=>by cases r;cases rv;exact⟨_,.nil⟩
 | d::ds,_,_,rv,r,hc=>by
  have hc':(Wo d).canLay0=true/\PyData.canLayAll0 (gT ds)=true:=by simpa[gT,PyData.canLayAll0]using hc
  cases r with
  | cons r0 rs =>
   cases rv with
   | cons v0 vs =>
    obtain⟨as,ra⟩:=m9 I d _ _ v0 r0 hc'.1
    obtain⟨bs,rb⟩:=gU I ds _ _ vs rs hc'.2
    exact⟨_,.cons ra rb⟩
end
theorem fX(hu:X.A.units+64<cLine):We X (compareOp .Eq) qV:=by intro ab s σ H Pr Z x y v u dx dy js I rx ry E px py ⟨h1,h2,ho⟩;obtain⟨as,ra⟩:=m9 I dx x v rx px (aaI h1);obtain⟨bs,rb⟩:=m9 I dy y u ry py (aaI h2);exact eq_dataH ra rb h1 h2 hu ⟨.bl _,H,_,I,rfl,E.cons_d (.bl _),ho⟩
theorem jg(hu:X.A.units+64<cLine):We X (compareOp .NotEq) um:=by intro ab s σ H Pr Z x y v u dx dy js I rx ry E px py ⟨h1,h2,ho⟩;obtain⟨as,ra⟩:=m9 I dx x v rx px (aaI h1);obtain⟨bs,rb⟩:=m9 I dy y u ry py (aaI h2);exact ne_dataH ra rb h1 h2 hu ⟨.bl _,H,_,I,rfl,E.cons_d (.bl _),ho⟩
noncomputable def Hv(x:D)(xs:List D):Bool:=xs.any λy=>Wp y x
theorem QY:We X (compareOp .Is) (λx y k=>y=.non/\k (.d (.bl (match x with | .non=>true|_=>false)))):=We.of QA λσ H Pr Z x y dx dy js E px py ⟨e,h⟩=>by subst e;obtain rfl:=V6.inv_non py;refine⟨rfl,_,E.cons_d (.bl _),?_⟩;cases px<;>exact h
theorem Og:We X (compareOp .IsNot) (λx y k=>y=.non/\k (.d (.bl (match x with | .non=>false|_=>true)))):=We.of NO λσ H Pr Z x y dx dy js E px py ⟨e,h⟩=>by subst e;obtain rfl:=V6.inv_non py;refine⟨rfl,_,E.cons_d (.bl _),?_⟩;cases px<;>exact h
def aE:Wd:=λx y k=>match x,y with
 |.lst xs,.int i=>∃v,VT xs i=some v/\k (.d v)
 |.tup xs,.int i=>∃v,VT xs i=some v/\k (.d v)
 |.str z,.int i=>z.length<=sizeLine/\∃c,VT z.cps.toList i=some c/\k (.d (.str ⟨#[c]⟩))
 |_,_=>False
theorem CH{K:W.Frag}{H:Hp}{vs:List V}{xs:List D}(r:bV K H vs xs){i:Int}{x:D}(h:VT xs i=some x):∃v,VT vs i=some v/\V6 K H v x:=by
 unfold VT at h ⊢;rw[r.length]
 cases q:VS xs.length i with
 |none=>rw[q]at h;cases h
 | some j =>
  rw[q]at h;exact r.get h
theorem Oh{x y:D}{k:L->Prop}(h:aE x y k):∃i,y=.int i/\((∃xs,x=.lst xs/\∃v,VT xs i=some v/\k (.d v))∨(∃xs,x=.tup xs/\∃v,VT xs i=some v/\k (.d v))∨∃z,x=.str z/\z.length<=sizeLine/\∃c,VT z.cps.toList i=some c/\k (.d (.str ⟨#[c]⟩))):=by
 unfold aE at h;split at h
 . exact⟨_,rfl,.inl ⟨_,rfl,h⟩⟩
 . exact⟨_,rfl,.inr (.inl ⟨_,rfl,h⟩)⟩
 . exact⟨_,rfl,.inr (.inr ⟨_,rfl,h⟩)⟩
 . exact h.elim
theorem ar(ha:PL X a ta)(hb:PL X b tb)(hs:Cz b):PL X (.Subscript a b pos) (au aE ta tb):=by
 intro ab s σ H Pr Z js I E h;refine Subscript_ (two (R:=λdx dy Z2=>aE dx dy λr=>js r Z2) ha hb I E h λv u s2 x y H2 dx dy Z2 I2 r1 r2 E2 p1 p2 q=>?_);have Vx:∀(Q:VK),(∀z H',Q z H'->∃r,aJ X.K Pr H' (some z::σ) (r::Z2)/\js r Z2)->∀w s',EP X ab σ Q w s'->EL X ab σ Pr js w s':=λQ hQ w s' h_=>h_.on λz H' I' rz q=>by obtain⟨r,E',p⟩:=hQ z H' q;exact⟨z,H',r,Z2,I',rz,E',p⟩
 have Eσ:=E2.tail.tail;obtain⟨i,rfl,⟨xs,rfl,z,hz',q⟩|⟨xs,rfl,z,hz',q⟩|⟨z,rfl,hz,c,hc,q⟩⟩:=Oh q
 . obtain rfl:=V6.inv_int p2;obtain⟨_,_,rfl,hz,rs⟩:=V6.inv_lst p1;obtain⟨w,hw,rw⟩:=CH rs hz';exact Vv (Hb a b ab s2 σ H2 _ _ v u (λz H'=>z=w/\H'=H2) I2 r1 r2 ⟨_,_,i,w,rfl,rfl,hz.l,hw,rfl,rfl⟩ (hs _ _)) (Vx _ λz H' ⟨e1,e2⟩=>by subst e1 e2;exact⟨_,Eσ.cons_d rw,q⟩)
 . obtain rfl:=V6.inv_int p2;obtain⟨_,_,rfl,hz,rs⟩:=V6.inv_tup p1;obtain⟨w,hw,rw⟩:=CH rs hz';exact Vv (QE a b ab s2 σ H2 _ _ v u (λz H'=>z=w/\H'=H2) I2 r1 r2 ⟨_,_,i,w,rfl,rfl,hz,hw,rfl,rfl⟩ (hs _ _)) (Vx _ λz H' ⟨e1,e2⟩=>by subst e1 e2;exact⟨_,Eσ.cons_d rw,q⟩)
 . obtain rfl:=V6.inv_int p2;obtain rfl:=V6.inv_str p1;exact Vv (QF a b ab s2 σ H2 _ _ v u (λz H'=>z=.str ⟨#[c]⟩/\H'=H2) I2 r1 r2 ⟨z,i,c,rfl,rfl,hz,hc,rfl,rfl⟩ (hs _ _)) (Vx _ λz H' ⟨e1,e2⟩=>by subst e1 e2;exact⟨_,Eσ.cons_d (.str _),q⟩)
end
section
variable{X:Cx}{e a b c:Expr}{es:List Expr}{pos p:Pos}{ta:W L}{x:Str}{bs:List (Option Nat)}{t:W (List L)}{id T:String}
abbrev Wq:=List D->(L->Prop)->Prop
def gJ(X:Cx)(f:Value)(op:Wq):Prop :=
 ∀(ab:List (Addr×Obj))(s:Shared)(σ:St)(H Pr:Hp)(Z:Ev)(vs:List V)(us:List Value)(ds:List D)(js:L->Prop),Vr X ab σ H s->dA vs us->aJ X.K Pr H σ Z->bV X.K H vs ds->op ds js ->
  wpAny (model X.prog X.w) X.A (call f us) (λw s'=>∃z H' r,Vr X ab σ H' s'/\cO z w/\aJ X.K Pr H' (some z::σ) (r::Z)/\js r) X.xe s
theorem gJ.of{f:Value}{r:List V->Hp->VK->Prop}{op:Wq}(h:lJ X f r)(q:∀σ H Pr Z vs ds js,aJ X.K Pr H σ Z->bV X.K H vs ds->op ds js->r vs H λz H'=>∃r,aJ X.K Pr H' (some z::σ) (r::Z)/\js r):gJ X f op :=
 λab s σ H Pr Z vs us ds js I rv E ps ho=>Vv (h ab s σ H vs us _ I rv (q σ H Pr Z vs ds js E ps ho)) λw s' ⟨z,H',I',rz,r,E',p⟩=>⟨z,H',r,I',rz,E',p⟩
def aZ(op:Wq)(t:W (List L)):W L:=λZ js=>t Z λls Z1=>Qd ls λds=>op ds λr=>js r Z1
theorem aN(hc:gJ X (.builtin id) op)(hg:Gl X x)(hm:X.mg x=none)(hv:bootBuiltins x=some (.builtin id))(ha:V8 X (e::es) bs t) (hn:x≠"__name__":=by decide) (hdb:aet x:=by decide)
  (he:starEach (e::es) X.env=(false,eval e X.env)::starEach es X.env:=by rfl) (hpl:(backTo pos (starEach es X.env)).any (·.1)=false:=by rfl):PL X (.Call (.Name x p) (e::es) [] pos) (aZ op t):=by
 intro ab s σ H Pr Z js I E h;refine abF (p9 I hg hm hv ?_ hn hdb);refine PyProof.Rows.callWith_builtin1 (Vv (ha pos ab s σ H Pr Z _ I E h) λus s1 h_=>h_.on λvs H1 ls Z1 I1 r1 hl hb E1 _ q1=>?_) he hpl;obtain⟨ds,rfl,q2⟩:=uN q1;have b0:vs.length=ds.length:=by simpa using hl
 exact Vv (hc ab s1 σ H1 Pr Z1 vs us ds _ I1 r1 (E1.drop (by simp[b0])) (uO b0 E1) q2) λw s2 ⟨z,H2,r,I2,rz,E2,q⟩=>⟨z,H2,r,Z1,I2,rz,E2,q⟩
theorem qf(hc:gJ X (.type T) op)(hg:Gl X x)(hm:X.mg x=none)(hv:bootBuiltins x=some (.type T))(ha:V8 X (e::es) bs t) (hn:x≠"__name__":=by decide) (hdb:aet x:=by decide)
  (he:starEach (e::es) X.env=(false,eval e X.env)::starEach es X.env:=by rfl) (hpl:(backTo pos (starEach es X.env)).any (·.1)=false:=by rfl):PL X (.Call (.Name x p) (e::es) [] pos) (aZ op t):=by
 intro ab s σ H Pr Z js I E h;refine abF (p9 I hg hm hv ?_ hn hdb);refine abk (Vv (ha pos ab s σ H Pr Z _ I E h) λus s1 h_=>h_.on λvs H1 ls Z1 I1 r1 hl hb E1 _ q1=>?_) he hpl;obtain⟨ds,rfl,q2⟩:=uN q1;have b0:vs.length=ds.length:=by simpa using hl
 exact Vv (hc ab s1 σ H1 Pr Z1 vs us ds _ I1 r1 (E1.drop (by simp[b0])) (uO b0 E1) q2) λw s2 ⟨z,H2,r,I2,rz,E2,q⟩=>⟨z,H2,r,Z1,I2,rz,E2,q⟩
def b8:Wq:=λds k=>match ds with
 |[.lst xs]=>k (.d (.int xs.length))
 |[.tup xs]=>k (.d (.int xs.length))
 |[.str x]=>x.length<=sizeLine/\k (.d (.int x.length))
 |_=>False
theorem tU{K:W.Frag}{H:Hp}{vs:List V}{d:D}(r:bV K H vs [d]):∃v,vs=[v]/\V6 K H v d:=by
 cases r with
 |cons h t=>cases t;exact⟨_,rfl,h⟩
theorem QZ{K:W.Frag}{H:Hp}{vs:List V}{d d':D}(r:bV K H vs [d,d']):∃v w,vs=[v,w]/\V6 K H v d/\V6 K H w d':=by
 cases r with
 | cons h t=>cases t with
  |cons h' t=>cases t;exact⟨_,_,rfl,h,h'⟩
theorem bO:gJ X (.builtin "len") b8:=gJ.of (sN.or AF) λσ H Pr Z vs ds js E ps h=>by
 unfold b8 at h;split at h
 . obtain⟨v,rfl,r⟩:=tU ps;obtain⟨_,_,rfl,hz,rs⟩:=V6.inv_lst r;exact .inl ⟨_,_,rfl,.inl hz.l,_,E.cons_d (.int _),by rw[rs.length];exact h⟩
 . obtain⟨v,rfl,r⟩:=tU ps;obtain⟨_,_,rfl,hz,rs⟩:=V6.inv_tup r;exact .inl ⟨_,_,rfl,.inr hz,_,E.cons_d (.int _),by rw[rs.length];exact h⟩
 .
  obtain⟨v,rfl,r⟩:=tU ps
  cases r with
  |str z=>exact .inr ⟨_,rfl,h.1,_,E.cons_d (.int _),h.2⟩
 . exact h.elim
def F5:Wq:=λds k=>match ds with
 |[.int i]=>k (.d (.int (if i<0 then -i else i)))
 |_=>False
theorem Hw:gJ X (.builtin "abs") F5:=gJ.of KC λσ H Pr Z vs ds js E ps h=>by
 unfold F5 at h;split at h
 .
  obtain⟨v,rfl,r⟩:=tU ps
  cases r with
  |int i=>exact⟨_,rfl,_,E.cons_d (.int _),h⟩
 . exact h.elim
def KY:Wq:=λds k=>match ds with
 |[.int i,.int j]=>k (.d (.int (if j > i then j else i)))
 |_=>False
def Hx:Wq:=λds k=>match ds with
 |[.int i,.int j]=>k (.d (.int (if j<i then j else i)))
 |_=>False
theorem Q0(hc:X.calm=true):gJ X (.builtin "max") KY:=gJ.of (G5 hc) λσ H Pr Z vs ds js E ps h=>by
 unfold KY at h;split at h
 .
  obtain⟨v,w,rfl,r,r'⟩:=QZ ps
  cases r with
  | int i=>cases r' with
   |int j=>exact⟨_,_,rfl,_,E.cons_d (.int _),h⟩
 . exact h.elim
theorem M5(hc:X.calm=true):gJ X (.builtin "min") Hx:=gJ.of (G6 hc) λσ H Pr Z vs ds js E ps h=>by
 unfold Hx at h;split at h
 .
  obtain⟨v,w,rfl,r,r'⟩:=QZ ps
  cases r with
  | int i=>cases r' with
   |int j=>exact⟨_,_,rfl,_,E.cons_d (.int _),h⟩
 . exact h.elim
def Hy:Wq:=λds k=>match ds with
 |[.int i]=>k (.d (.int i))
 |[.bl b]=>k (.d (.int (if b then 1 else 0)))
 |_=>False
theorem M6:gJ X (.type "int") Hy:=gJ.of G7 λσ H Pr Z vs ds js E ps h=>by
 unfold Hy at h;split at h
 .
  obtain⟨v,rfl,r⟩:=tU ps
  cases r with
  |int i=>exact .inl ⟨_,rfl,_,E.cons_d (.int _),h⟩
 .
  obtain⟨v,rfl,r⟩:=tU ps
  cases r with
  |bl i=>exact .inr ⟨_,rfl,_,E.cons_d (.int _),h⟩
 . exact h.elim
def AS:Wq:=λds k=>match ds with
 |[.lst xs]=>∀a,k (.own a xs)
 |[.tup xs]=>∀a,k (.own a xs)
 |_=>False
theorem Hz:gJ X (.type "list") AS:=gJ.of AG λσ H Pr Z vs ds js E ps h=>by
 unfold AS at h;split at h
 . obtain⟨v,rfl,r⟩:=tU ps;obtain⟨_,_,rfl,hz,rs⟩:=V6.inv_lst r;exact⟨_,_,rfl,.inl hz.l,λl hl=>⟨_,E.cons_own hl rs,h l⟩⟩
 . obtain⟨v,rfl,r⟩:=tU ps;obtain⟨_,_,rfl,hz,rs⟩:=V6.inv_tup r;exact⟨_,_,rfl,.inr hz,λl hl=>⟨_,E.cons_own hl rs,h l⟩⟩
 . exact h.elim
noncomputable def Wr:D->Value
 |.non=>.type "NoneType"
 |.bl _=>.type "bool"
 |.int _=>.type "int"
 |.str _=>.type "str"
 |.tup _=>.type "tuple"
 |.lst _=>.type "list"
 |.dct _=>.type "dict"
 |.exc _ _ _=>.none
 |.fn _ _=>.type "function"
 |.dk _ _=>.type "dict"
 |.gf _=>.type "function"
def Ws(K:W.Frag)(d:D)(t:Value):Prop:=match d with
 |.exc c _ _=>∃C,t=.ref C/\yd K c C=true
 |d=>t=Wr d
theorem KZ{ab:List (Addr×Obj)}{σ:St}{H:Hp}{s:Shared}{a:Addr}{o:Obj}{u:HO}{C:Addr}{ns:List Str}{vs:List V}(I:Vr X ab σ H s)(h:H a=some (.frz o u))(hc:o.cls=.ref C)(hn:W.notCls o=true)(hf:XF H o.dict ns vs):∃od,W.InstAt s.heap a o C od/\∀d,o.dict=some d->∃q,od=some q/\s.heap.get? d=some q:=by
 have e:=(show s.heap.get? a=some o/\_ from I.hok a _ h).1;rcases hf with⟨_,_,z⟩|⟨d,od,z,h2,_⟩
 . exact⟨none,⟨e,hc,hn,by rw[z];trivial⟩,λd q=>by rw[z]at q;cases q⟩
 . have e2:=(show s.heap.get? d=some od/\_ from I.hok d _ h2).1;exact⟨some od,⟨e,hc,hn,by rw[z];exact e2⟩,λd' q=>by rw[z]at q;cases q;exact⟨od,rfl,e2⟩⟩
theorem K0{ab:List (Addr×Obj)}{σ:St}{H:Hp}{s:Shared}{x:V}{u c:Value}{d:D}{b:Bool}{Q:Value->Shared->Prop}{A:Around}{E:Value->Shared->Prop}(I:Vr X ab σ H s)(rx:cO x u)(r:V6 X.K H x d)(e:∀t,Ws X.K d t->W.kitOne X.K t c=some b)(h:∀tk,Q (.bool b) {s with toks:=tk}) :
  wpAny (model X.prog X.w) A (call (.builtin "isinstance") [u,c]) Q E s:=by
 cases r with
 |non=>cases rx;exact aa6 W.kitx_none I.kIn True.intro (e _ rfl) (λz=>nomatch z) h
 |bl y=>cases rx;exact aa6 W.kitx_bool I.kIn True.intro (e _ rfl) (λz=>nomatch z) h
 |int i=>obtain⟨t,rfl⟩:=rx;exact aa6 W.kitx_int I.kIn True.intro (e _ rfl) (λz=>nomatch z) h
 |str y=>obtain⟨t,rfl⟩:=rx;exact aa6 W.kitx_str I.kIn True.intro (e _ rfl) (λz=>nomatch z) h
 | lst hz rs =>
  cases rx;obtain⟨its,_,⟨o,n,e1,c1,_,_⟩,_⟩:=I.list hz.l;exact aa6 W.kitx_list I.kIn ⟨o,e1,c1⟩ (e _ rfl) (λz=>nomatch z) h
 | tup hz rs =>
  cases rx;obtain⟨its,_,⟨o,e1,c1,_⟩,_⟩:=I.tuple hz;exact aa6 W.kitx_tuple I.kIn ⟨o,e1,c1⟩ (e _ rfl) (λz=>nomatch z) h
 | @dct a o kvs hz =>
  cases rx;obtain⟨_,_,_,vs,_,o',es,ep,h1,h2,_⟩:=(show jd X.prog X.w H s.heap a (.frz o (.dK kvs))from I.hok a _ hz);exact aa6 W.kitx_dict I.kIn ⟨o',h1,h2.1⟩ (e _ rfl) (λz=>nomatch z) h
 | @exc a o u cc C ns vs ds h1 hv hc hn hs hq hf rs =>
  cases rx;obtain⟨od,Ia,_⟩:=KZ I h1 hc hn hf;obtain⟨LL,cd,S⟩:=AK hs;exact aa6 (KM S) I.kIn ⟨_,_,Ia⟩ (e _ ⟨C,rfl,hs⟩) (λz=>nomatch z) h
 | fn hl hf hq hc hz hd hv hm r =>
  cases rx;exact aa6 Hi I.kIn ⟨_,(I.hok _ _ hf).1,rfl⟩ (e _ rfl) (λz=>nomatch z) h
 | @dk a' o kvs ds hz rs =>
  cases rx;obtain⟨_,_,_,vs,_,o',es,ep,h1,h2,_⟩:=(show jd X.prog X.w H s.heap a' (.frz o (.dK kvs))from I.hok a' _ hz);exact aa6 W.kitx_dict I.kIn ⟨o',h1,h2.1⟩ (e _ rfl) (λz=>nomatch z) h
 | gf hx hl hk =>
  cases rx;exact aa6 Hi I.kIn ⟨_,I.kIn _ _ hl,rfl⟩ (e _ rfl) (λz=>nomatch z) h
noncomputable def oQ(T:String):D->Bool
 |.non=>T == "NoneType"
 |.bl _=>T == "bool" ||T == "int"
 |.int _=>T == "int"
 |.str _=>T == "str"
 |.tup _=>T == "tuple"
 |.lst _=>T == "list"
 |.dct _=>T == "dict"
 |.exc _ _ _=>(["ValueError","Exception","BaseException","object"]:List String).contains T
 |.fn _ _=>T == "function"
 |.dk _ _=>T == "dict"
 |.gf _=>T == "function"
def lK(T:String):D->(L->Prop)->Prop:=λd k=>k (.d (.bl (oQ T d)))
theorem iJ{T:String}{y:Str}{py:Pos}(hT:∀ K d t,Ws K d t->W.kitOne K t (.type T)=some (oQ T d)) (hg:Gl X "isinstance") (hm:X.mg "isinstance"=none) (hy:Gl X y) (hmy:X.mg y=none) (hby:bootBuiltins y=some (.type T)) (ha:PL X a ta)
  (hny:y≠"__name__":=by decide) (hdy:aet y:=by decide)
  (h1:starEach [a,.Name y py] X.env=(false,eval a X.env)::starEach [.Name y py] X.env:=by rfl) (h2:starEach [.Name y py] X.env=[(false,eval (.Name y py) X.env)]:=by rfl) (hpl:(backTo pos (starEach [.Name y py] X.env)).any (·.1)=false:=by rfl) :
  PL X (.Call (.Name "isinstance" p) [a,.Name y py] [] pos) (Wi (lK T) ta):=by
 have cr:lJ X (.builtin "isinstance") (λxs H Q=>∃ x d,xs=[x,.ty T]/\V6 X.K H x d/\Q (.bl (oQ T d)) H):=by intro ab s σ H xs us Q I rv h;obtain⟨x,d,rfl,r,q⟩:=h;obtain⟨u,w,rfl,r1,r2⟩:=NP rv;cases r2;exact K0 I r1 r (hT _ d) λtk=>⟨.bl _,H,I.tok _,rfl,q⟩
 refine PL.of (Ee cr hg hm y_ (je (aA ha).pe (je (NK hy hmy hby (v:=.ty T) rfl hny hdy) uG h2) h1) (he:=h1) (hpl:=hpl)) λσ H Pr Z js E h=>?_
 refine⟨Pr,Z,λr Z1=>match r with
  |.d x=>lK T x λr=>js r Z1
  |_=>False,E,h,λv H' r Z' E' p=>?_⟩
 cases r with
 | d x =>
  obtain⟨_,e1,p1⟩:=E'.head_d;cases e1;exact⟨_,x,rfl,p1,_,Z',E'.tail.cons_d (.bl _),p⟩
 |_=>exact p.elim
end
section
variable{X:Cx}{e a b:Expr}{pos p apos cpos:Pos}{tb te:W L}{x:Str}
theorem aJ.updOwn{K:W.Frag}{Pr H:Hp}{σ:St}{Z:Ev}{i:Nat}{l:Addr}{xs ys:List D}{vs:List V}(E:aJ K Pr H σ Z)(q:Z[i]?=some (.own l xs))(r:bV K H vs ys):aJ K Pr (Vj H l (.lst vs)) σ (Z.set i (.own l ys)):=by obtain⟨sv,hs,rfl,_⟩:=E.slot q;have hi:i<Z.length:=(so.mp q).1;have E1:=(E.out q).write r;have E2:=E1.back (i:=i) (by simp[hi]) hs;rw[abz]at E2;exact E2
theorem aJ.ownAt{K:W.Frag}{Pr H:Hp}{σ:St}{Z:Ev}{i:Nat}{l:Addr}{xs:List D}(E:aJ K Pr H σ Z)(q:Z[i]?=some (.own l xs)):σ[i]?=some (some (.ref l))/\∃vs,H l=some (.lst vs)/\bV K H vs xs:=by obtain⟨sv,hs,rfl,r⟩:=E.slot q;exact⟨hs,r⟩
def Cq(i:Nat)(Z:Ev)(k:Addr->List D->Prop):Prop:=match Z[i]? with
 |some (.own a xs)=>k a xs
 |_=>False
theorem j9{i:Nat}{Z:Ev}{k:Addr->List D->Prop}(h:Cq i Z k):∃a xs,Z[i]?=some (.own a xs)/\k a xs:=by
 unfold Cq at h
 cases q:Z[i]? with
 |none=>rw[q]at h;exact h.elim
 | some l =>
  rw[q]at h
  cases l with
  |own a xs=>exact⟨a,xs,rfl,h⟩
  |un=>exact h.elim
  |d x=>exact h.elim
  |bx _ _=>exact h.elim
  |dic _ _=>exact h.elim
def Oi(i:Nat)(te:W L):W L:=λZ js=>Cq i Z λ_ _=>te Z λr Z1=>Wc r λy=>Cq i Z1 λa xs=>xs.length<sizeLine/\js (.d .non) (Z1.set i (.own a (xs++[y])))
theorem lR(i:Nat)(he:PL X e te)(hN:X.N[i]?=some x:=by rfl)(hv:Vp X.env.scope x:=by first | exact Or.inl rfl | exact Or.inr (Or.inl rfl) | exact Or.inr (Or.inr rfl)) (hd:aet x:=by decide)
  (hcd:aeu x:=by decide) (hs1:starEach [e] X.env=[(false,eval e X.env)]:=by rfl) (hbase:attributeBase (.Name x p) "append" X.env (eval (.Name x p) X.env)=eval (.Name x p) X.env:=by rfl)
  (hfew:((backTo cpos (starEach [e] X.env)).all (λx=>!x.1) && (backToKw cpos (keywordEach [] X.env)).all (λx=>x.1.isSome)
   && decide (([e]).length+([]:List Keyword).length+(if([]:List Keyword).isEmpty then 0 else 1)<30))=true:=by rfl)
  (hline:(apos.endLine == cpos.line)=true:=by rfl) (hplain:(backTo cpos (starEach ([]:List Expr) X.env)).any (·.1)=false:=by rfl) :
  PL X (.Call (.Attribute (.Name x p) "append" apos) [e] [] cpos) (Oi i te):=by
 refine PL.of (QI PySem.F.plainAttrs_list PySem.F.slot_list_append PySem.F.type_list_append AH (ly hN hv hd hcd) (je (aA he).pe uG hs1) (hbase:=hbase) (hfew:=hfew) (hline:=hline) (hs:=hs1) (hplain:=hplain)) λσ H Pr Z js E h=>?_;obtain⟨l,xs0,q0,h⟩:=j9 h;obtain⟨hσ,vs0,hl0,_⟩:=E.ownAt q0
 refine⟨.ref l,hσ,.inl ⟨rfl,vs0,Vy.of hl0⟩,Pr,Z,λr Z1=>match r with
  |.d y=>Cq i Z1 λa xs=>xs.length<sizeLine/\js (.d .non) (Z1.set i (.own a (xs++[y])))
  |_=>False,E,h,λv H' r Z' E' pp=>?_⟩
 cases r with
 | d y =>
  obtain⟨l',xs,q,b0,pp⟩:=j9 pp;obtain⟨hσ',vs,hl,r⟩:=E'.tail.ownAt q;rw[hσ]at hσ';cases hσ';obtain⟨_,e1,p1⟩:=E'.head_d;cases e1;exact⟨l,vs,v,rfl,rfl,hl,by rw[r.length];exact b0,_,_,(E'.tail.updOwn q (r.append (.cons p1 .nil))).cons_d .non,pp⟩
 |_=>exact pp.elim
def CI(i:Nat)(tb:W L):W L:=λZ js=>Cq i Z λ_ _=>tb Z λr Z1=>tS r λj=>Cq i Z1 λ_ xs=>∃y,VT xs j=some y/\js (.d y) Z1
theorem jG(i:Nat)(hb:PL X b tb)(hs:Cz b)(hN:X.N[i]?=some x:=by rfl)(hv:Vp X.env.scope x:=by first | exact Or.inl rfl | exact Or.inr (Or.inl rfl) | exact Or.inr (Or.inr rfl)) (hd:aet x:=by decide)
  (hcd:aeu x:=by decide):PL X (.Subscript (.Name x p) b pos) (CI i tb):=by
 refine PL.of (SB Hb (ly hN hv hd hcd) hb.pe hs) λσ H Pr Z js E h=>?_;obtain⟨l,xs0,q0,h⟩:=j9 h;obtain⟨hσ,vs0,hl0,_⟩:=E.ownAt q0;refine⟨.ref l,hσ,Pr,Z,_,E,h,λv H' r Z' E' pp=>?_⟩;obtain⟨j,rfl,pp⟩:=gI pp;obtain⟨l',xs,q,y,hy,pp⟩:=j9 pp;obtain⟨hσ',vs,hl,r⟩:=E'.tail.ownAt q;rw[hσ]at hσ';cases hσ';obtain⟨_,e1,p1⟩:=E'.head_d;cases e1;obtain rfl:=V6.inv_int p1;obtain⟨w,hw,rw⟩:=CH r hy;exact⟨l,vs,j,w,rfl,rfl,Vy.of hl,hw,_,Z',E'.tail.cons_d rw,pp⟩
def Oj(i:Nat):W L:=λZ js=>Cq i Z λ_ xs=>js (.d (.int xs.length)) Z
theorem Ol(i:Nat) (hg:Gl X "len") (hm:X.mg "len"=none) (hN:X.N[i]?=some x:=by rfl) (hv:Vp X.env.scope x:=by first | exact Or.inl rfl | exact Or.inr (Or.inl rfl) | exact Or.inr (Or.inr rfl)) (hd:aet x:=by decide)
  (hcd:aeu x:=by decide) (h1:starEach [.Name x p] X.env=[(false,eval (.Name x p) X.env)]:=by rfl) (hpl:(backTo pos (starEach ([]:List Expr) X.env)).any (·.1)=false:=by rfl) :
  PL X (.Call (.Name "len" apos) [.Name x p] [] pos) (Oj i):=by
 refine PL.of (Ee sN hg hm PySem.boot_len (je (ly hN hv hd hcd) uG h1) (he:=h1) (hpl:=hpl)) λσ H Pr Z js E h=>?_;obtain⟨l,xs0,q0,h⟩:=j9 h;obtain⟨hσ,vs0,hl0,r⟩:=E.ownAt q0;exact⟨.ref l,hσ,l,vs0,rfl,.inl (Vy.of hl0),_,Z,E.cons_d (.int _),by rw[r.length];exact h⟩
def xq(i:Nat)(tb te:W L):W Fl:=λZ js=>te Z λr Z1=>Wc r λy=>Cq i Z1 λ_ _=>tb Z1 λr Z2=>tS r λj=>Cq i Z2 λa xs=>∃k,VS xs.length j=some k/\js .nx (Z2.set i (.own a (xs.set k y)))
theorem lS(i:Nat){b:Expr}{ps:Pos}(hb:PL X b tb)(he:PL X e te)(hN:X.N[i]?=some x:=by rfl)(hv:Vp X.env.scope x:=by first | exact Or.inl rfl | exact Or.inr (Or.inl rfl) | exact Or.inr (Or.inr rfl)) (hd:aet x:=by decide)
  (hcd:aeu x:=by decide)
  (ha:∀v,assign (.Subscript (.Name x p) b ps) X.env v=(do
   let ov <- holding [v] (eval (.Name x p) X.env)
   let iv <- holding [v,ov] (eval b X.env)
   standAt ps
   holding [v,ov,iv] (setItem ov iv v)
   release [v,ov,iv] []):=by intro _;rfl)
  (hs:swapsWithSole [.Subscript (.Name x p) b ps] e pos.line X.env=pure false:=by rfl) (hw:swappedStores [.Subscript (.Name x p) b ps] e X.env=pure none:=by rfl)
  (h1:(assignEach [.Subscript (.Name x p) b ps] X.env).map (·.2)=[assign (.Subscript (.Name x p) b ps) X.env]:=by rfl):PM X (.Assign [.Subscript (.Name x p) b ps] e pos) (xq i tb te):=by
 refine PM.of (Qr (aA he).pe (Qq (ly hN hv hd hcd) hb.pe KH ha) hs hw h1) λσ H Pr Z js b0 E h=>?_
 refine⟨Pr,Z,λr Z1=>match r with
  |.d y=>Cq i Z1 λ_ _=>tb Z1 λr Z2=>tS r λj=>Cq i Z2 λa xs=>∃k,VS xs.length j=some k/\js .nx (Z2.set i (.own a (xs.set k y)))
  |_=>False,E,h,λv H' r Z' E' pp=>?_⟩
 cases r with
 | d y =>
  obtain⟨l,xs0,q0,pp⟩:=j9 pp;obtain⟨hσ,vs0,hl0,_⟩:=E'.tail.ownAt q0;refine⟨.ref l,hσ,bD H' Z',Z',_,E'.tail.wide,pp,λw H2 r2 Z2 E2 pp=>?_⟩;obtain⟨j,rfl,pp⟩:=gI pp;obtain⟨l',xs,q,k,hk,pp⟩:=j9 pp;obtain⟨_,e1,p1⟩:=E2.head_d;cases e1;obtain rfl:=V6.inv_int p1;have E3:aJ X.K Pr H2 (some (.int j)::some v::σ) (.d (.int j)::.d y::Z2):=aJ.step (τ:=[some v]) (lam:=[.d y]) (w:=[some (.int j)]) (μ:=[.d (.int j)]) E' rfl E2 rfl;obtain⟨_,e1,p1⟩:=E3.tail.head_d;cases e1;obtain⟨hσ',vs,hl,r⟩:=E3.tail.tail.ownAt q;rw[hσ]at hσ';cases hσ';refine⟨l,vs,j,k,rfl,rfl,hl,by rw[r.length];exact hk,_,E3.tail.tail.updOwn q (r.set p1 k),pp⟩
 |_=>exact pp.elim
def F6:Option (W L)->Ev->(Option Int->Ev->Prop)->Prop
 |none=>λZ k=>k none Z
 |some t=>λZ k=>t Z λr Z1=>tS r λi=>k (some i) Z1
noncomputable def HD{α:Type}(xs:List α)(lo hi:Option Int):List α:=(xs.drop (HT.sIx xs.length 0 lo)).take (HT.sIx xs.length xs.length hi-HT.sIx xs.length 0 lo)
end
noncomputable def bI:List Nat->Ev->Ev
 |[],Z=>Z
 |j::r,Z=>(bI r Z).set j .un
noncomputable def dB(fi:List Nat)(Z:Ev):Ev:=fi.map λj=>(Z[j]?).getD .un
noncomputable def cB(fi:List Nat)(σ:St):St:=fi.map λj=>(σ[j]?).getD none
noncomputable def jH:List Nat->Ev->Ev->Ev
 |j::r,c::cs,Z=>jH r cs (Z.set j c)
 |_,_,Z=>Z
theorem gW:∀(fi:List Nat)(Z:Ev),(bI fi Z).length=Z.length
 |[],_=>rfl
 |j::r,Z=>by unfold bI;rw[abg,gW r Z]
theorem AU:∀(fi:List Nat)(Z:Ev)(j:Nat),j∉fi->(bI fi Z)[j]?=Z[j]?
 |[],_,_,_=>rfl
 | i::r,Z,j,h=>by unfold bI;rw[aay (λe=>h (by simp[e])),AU r Z j λe=>h (fI _ e)]
theorem Ek:∀(fi:List Nat)(Z:Ev)(j:Nat),j∈fi->j<Z.length->(bI fi Z)[j]?=some .un
 | i::r,Z,j,h,hl=>by
  unfold bI;by_cases e:i=j
  . subst e;rw[aax (by rw[gW];exact hl)]
  . rw[aay e];exact Ek r Z j ((ZU.mp h).resolve_left λz=>e z.symm) hl
section
variable{K:W.Frag}{Pr H:Hp}{σ:St}{Z:Ev}
theorem aJ.takeAt(E:aJ K Pr H σ Z){i:Nat}{l:L}{s:Option V}(h:Z[i]?=some l)(hs:σ[i]?=some s):aJ K Pr H (s::σ) (l::Z.set i .un):=E.outL h hs
theorem aJ.takes(E:aJ K Pr H σ Z):∀(fi:List Nat),fi.Nodup->(∀j∈fi,j<Z.length)->aJ K Pr H (cB fi σ++σ) (dB fi Z++bI fi Z)
 |[],_,_=>E
 | j::r,nd,hl=>by
  have ih:=E.takes r (aav.mp nd).2 λi hi=>hl i (fI _ hi);have hj:j<Z.length:=hl j k4;have hjs:j<σ.length:=by rw[E.len];exact hj
  have e1:(dB r Z++bI r Z)[r.length+j]?=some Z[j]:=by rw[aal (by simp[dB])];simp only[dB,ZL,aaq];rw[AU r Z j (aav.mp nd).1];exact gV hj
  have e2:(cB r σ++σ)[r.length+j]?=some σ[j]:=by rw[aal (by simp[cB])];simp only[cB,ZL,aaq];exact gV hjs
  have z:=ih.takeAt e1 e2;rw[abG _ _ (by simp[dB])]at z;simp only[dB,ZL,aaq]at z;have c1:cB (j::r) σ=σ[j]::cB r σ:=by simp[cB,hjs]
  have c2:dB (j::r) Z=Z[j]::dB r Z:=by simp[dB,hj]
  rw[c1,c2];exact z
theorem aJ.backs:∀(fi:List Nat){cs Z:Ev},fi.Nodup->cs.length=fi.length->(∀j∈fi,Z[j]?=some .un)->(∀j∈fi,j<σ.length)->aJ K Pr H (cB fi σ++σ) (cs++Z)->aJ K Pr H σ (jH fi cs Z)
 |[],[],Z,_,_,_,_,E=>E
 | j::r,c::cs,Z,nd,hl,hu,hs,E=>by
  have hjs:j<σ.length:=hs j k4;have hj:=hu j k4;have c1:cB (j::r) σ=σ[j]::cB r σ:=by simp[cB,hjs]
  rw[c1]at E;have hlr:cs.length=r.length:=by simpa using hl
  have z:=aJ.back (σ:=cB r σ++σ) (Z:=cs++Z) (l:=c) E (i:=r.length+j) (by
   rw[aal xL,hlr,aaq];exact hj) (by
   rw[aal (by simp[cB])];simp only[cB,ZL,aaq]
   exact gV hjs)
  rw[abG _ _ xL,hlr,aaq]at z
  exact aJ.backs r (aav.mp nd).2 hlr (λi hi=>by
   rw[aay (λe=>(aav.mp nd).1 (by rw[e];exact hi))];exact hu i (fI _ hi)) (λi hi=>hs i (fI _ hi)) z
 |[],_::_,_,_,hl,_,_,_=>by simp at hl
 |_::_,[],_,_,hl,_,_,_=>by simp at hl
end
noncomputable def AV(cells:List (Str×Addr)):List (Str×NameKind)->List (Str×Addr)->List (Str×Addr)
 |[],acc=>acc
 |(n,k)::r,acc=>AV cells r (if k == .free then(match cells.lookup n with|some c=>(n,c)::acc|none=>acc)else acc)
theorem q8{env:Env}:∀(names:List (Str×NameKind))(acc:List (Str×Addr)),(∀x∈names,x.2=.free->∃c,env.cells.lookup x.1=some c) ->
  (forIn names acc λ(x:Str×NameKind) (cs:List (Str×Addr))=>(if x.2 == .free then do let c <- cellOf env x.1;pure (ForInStep.yield ((x.1,c)::cs))else pure (ForInStep.yield cs):Sem (ForInStep (List (Str×Addr)))))=pure (AV env.cells names acc)
 |[],acc,_=>rfl
 | (n,k)::r,acc,h=>by
  rw[List.forIn_cons];by_cases hk:(k == NameKind.free)=true
  .
   obtain⟨c,hc⟩:=h (n,k) k4 (by simpa using hk);have e:cellOf env n=pure c:=by unfold cellOf;rw[show env.cells.lookup n=some c from hc]
   simp only[hk,aaX,e,pure_bind,AV,hc];exact q8 r _ λx hx=>h x (fI _ hx)
  . simp only[hk,AV,aa3,pure_bind];exact q8 r _ λx hx=>h x (fI _ hx)
theorem qg{scope:Scope}{env:Env}(h:∀x∈scope.names,x.2=.free->∃c,env.cells.lookup x.1=some c):closureFor scope env=pure (AV env.cells scope.names []):=by have:=q8 (env:=env) scope.names [] h;unfold closureFor;simp only[bind_pure_comp]at this ⊢;rw[this];rfl
theorem El{cells:List (Str×Addr)}:∀(names:List (Str×NameKind))(acc:List (Str×Addr)),(∀x c,acc.lookup x=some c->cells.lookup x=some c)->∀x c,(AV cells names acc).lookup x=some c->cells.lookup x=some c
 |[],acc,h,x,c,e=>h x c e
 | (n,k)::r,acc,h,x,c,e=>by
  unfold AV at e;refine El r _ (λy d ey=>?_) x c e;split at ey
  .
   split at ey
   .
    rename_i q;rw[aaA]at ey;split at ey
    .
     rename_i e2;have:y=n:=by simpa using e2
     cases ey;rw[this];exact q
    . exact h y d ey
   . exact h y d ey
  . exact h y d ey
theorem tV{n:Str}{c:Addr}{acc:List (Str×Addr)}{x:Str}(h:∃d,acc.lookup x=some d):∃d,((n,c)::acc).lookup x=some d:=by
 rw[aaA];split
 . exact⟨_,rfl⟩
 . exact h
theorem yP{cells:List (Str×Addr)}:∀(names:List (Str×NameKind))(acc:List (Str×Addr))(x:Str),((∃d,acc.lookup x=some d)∨((x,NameKind.free)∈names/\∃c,cells.lookup x=some c))->∃d,(AV cells names acc).lookup x=some d
 | [],acc,x,h=>by
  rcases h with h|⟨h,_⟩
  . exact h
  . simp at h
 | (n,k)::r,acc,x,h=>by
  unfold AV;refine yP r _ x ?_;rcases h with h|⟨hm,c,hc⟩
  .
   left;split
   .
    split
    . exact tV h
    . exact h
   . exact h
  .
   rcases ZU.mp hm with e|hm
   . cases e;left;simp only[hc,beq_self_eq_true,aaX];exact⟨c,by simp[aaA]⟩
   . exact .inr ⟨hm,c,hc⟩
noncomputable def lA(X:Cx)(scope:Scope)(cl:List (Str×Addr))(Nb:List Str)(s₀:Shared)(H₀:Hp)(fp:List Addr):Cx :=
 {X with N:=Nb,s₀:=s₀,H₀:=H₀,env:=compEnvC scope cl s₀.heap.objs.size X.env,outer:=X.stack,stack:=X.stack,ex:=fp,fn:=λ_=>false,pn:=[],xe:=λ_ _=>False}
theorem ng{α β:Type}{F:α->β->Prop}:∀{a:List α}{b:List β},Paired F a b↔a.length=b.length/\∀p∈a.zip b,F p.1 p.2
 |[],[]=>⟨λ_=>⟨rfl,λ_ h=>by simp at h⟩,λ_=>.nil⟩
 |[],_::_=>⟨(λh=>nomatch h),λh=>by simp at h⟩
 |_::_,[]=>⟨(λh=>nomatch h),λh=>by simp at h⟩
 | x::a,y::b=>by
  constructor
  .
   intro h
   cases h with
   | cons r t =>
    obtain⟨h1,h2⟩:=ng.mp t
    exact⟨by simp[h1],λp hp=>by
     rw[abD]at hp;rcases ZU.mp hp with rfl|hp
     . exact r
     .
      exact h2 p hp⟩
  . rintro⟨hl,h⟩;exact .cons (h (x,y) x_) (ng.mpr ⟨by simpa using hl,λp hp=>h p (by rw[abD];exact fI _ hp)⟩)
theorem yQ:∀{σ:St}{Z:Ev},σ.length=Z.length->(σ.zip Z).map (·.2)=Z
 |[],[],_=>rfl
 | _::σ,l::Z,h=>by have ih:=yQ (σ:=σ) (Z:=Z) (by simpa using h);rw[abD,aae,ih]
 |[],_::_,h=>by simp at h
 |_::_,[],h=>by simp at h
theorem aJ.rearr{K:W.Frag}{Pr H:Hp}{σ σ2:St}{Z Z2:Ev}(E:aJ K Pr H σ Z)(hl:σ2.length=Z2.length)(extra:List (Option V×L))(h:(σ.zip Z).Perm (σ2.zip Z2++extra)):aJ K Pr H σ2 Z2:=by
 have pm:(owns Z).Perm (owns Z2++owns (extra.map (·.2))):=by have q:=qc (h.map (·.2));rw[aaW,yQ E.len,yQ hl,aK]at q;exact q
 refine⟨E.sub,(aaz.mp (pm.nodup_iff.mp E.nd)).1,λa ha=>E.off a (pm.mem_iff.mpr (aaj _ ha)),ng.mpr ⟨hl,λp hp=>?_⟩⟩;exact(ng.mp E.sl).2 p (h.mem_iff.mpr (aaj _ hp))
theorem AW{fi:List Nat}{σ τ:St}(h:∀j∈fi,j<σ.length):cB fi (σ++τ)=cB fi σ:=by unfold cB;refine aaC λj hj=>?_;rw[aaG (h j hj)]
theorem F7{fi:List Nat}{σ τ:Ev}(h:∀j∈fi,j<σ.length):dB fi (σ++τ)=dB fi σ:=by unfold dB;refine aaC λj hj=>?_;rw[aaG (h j hj)]
theorem AX{τ:Ev}:∀{fi:List Nat}{Z:Ev},(∀j∈fi,j<Z.length)->bI fi (Z++τ)=bI fi Z++τ
 |[],_,_=>rfl
 | j::r,Z,h=>by unfold bI;rw[AX λi hi=>h i (fI _ hi),List.set_append_left _ _ (by rw[gW];exact h j k4)]
theorem yf{τ:Ev}:∀{fi:List Nat}{cs Z:Ev},(∀j∈fi,j<Z.length)->jH fi cs (Z++τ)=jH fi cs Z++τ
 |[],[],_,_=>rfl
 |[],_::_,_,_=>rfl
 |_::_,[],_,_=>rfl
 | j::r,c::cs,Z,h=>by unfold jH;rw[List.set_append_left _ _ (h j k4)];exact yf λi hi=>by rw[abg];exact h i (fI _ hi)
theorem gX{env:Env}:∀{names:List (Str×NameKind)}{x:Str},names.lookup x=some .free ->
  (names.map λ(n,k)=>if(k == NameKind.free && env.scope.kind == .function && env.kindOf n == some .cell)then(n,NameKind.cell)else(n,k)).lookup x=some .cell ∨
  (names.map λ(n,k)=>if(k == NameKind.free && env.scope.kind == .function && env.kindOf n == some .cell)then(n,NameKind.cell)else(n,k)).lookup x=some .free
 |[],_,h=>by simp at h
 | (n,k)::r,x,h=>by
  have ih:=@gX env r x;rw[aae]
  cases hx:x == n with
  | true =>
   simp only[aaA,hx]at h;cases h;dsimp only;by_cases hc:(NameKind.free == NameKind.free && env.scope.kind == .function && env.kindOf n == some .cell)=true
   . left;rw[if_pos hc];simp[aaA,hx]
   . right;rw[if_neg hc];simp[aaA,hx]
  | false =>
   simp only[aaA,hx]at h;dsimp only;by_cases hc:(k == NameKind.free && env.scope.kind == .function && env.kindOf n == some .cell)=true
   . rw[if_pos hc];simp only[aaA,hx];exact ih h
   . rw[if_neg hc];simp only[aaA,hx];exact ih h
theorem ka{env:Env}:∀{names:List (Str×NameKind)}{x:Str}{k:NameKind},(∀y∈names,y.2≠.cell)->(k=.cell∨k=.free) ->
  (names.map λ(n,k)=>if(k == NameKind.free && env.scope.kind == .function && env.kindOf n == some .cell)then(n,NameKind.cell)else(n,k)).lookup x=some k->(x,NameKind.free)∈names
 |[],_,_,_,_,h=>by simp at h
 | (n,k0)::r,x,k,hc,hk,h=>by
  rw[aae]at h
  (try dsimp only at h)
  by_cases q:(k0 == NameKind.free && env.scope.kind == .function && env.kindOf n == some .cell)=true
  .
   rw[if_pos q,aaA]at h;have e0:k0=.free:=by have:=(abt.mp (abt.mp q).1).1;simpa using this
   split at h
   .
    rename_i e;have:x=n:=by simpa using e
    subst this e0;exact k4
   . exact fI _ (ka (λy hy=>hc y (fI _ hy)) hk h)
  .
   rw[if_neg q,aaA]at h;split at h
   .
    rename_i e;have:x=n:=by simpa using e
    subst this;have e1:k0=k:=by simpa using h
    subst e1;rcases hk with z|z
    . exact absurd z (hc (x,k0) k4)
    . subst z;exact k4
   . exact fI _ (ka (λy hy=>hc y (fI _ hy)) hk h)
section
variable{prog:Program}{w:World}{A:Around}{R:Result->Shared->Prop}
theorem HE{elt target iter:Expr}{ifs:List Expr}{scope:Scope}{pos:Pos}{it acc:Value}{env:Env}(I:Nat->Shared->Prop)
  (turn:∀n s,I n s->wpAny (model prog w) A (pyNext it) (λr s₁=>match r with
   |none=>R (.ok .next) s₁
   | some v=>wpAny (model prog w) A (letOwnedTupleGo target it v) (λ_ s₀=>wpAny (model prog w) A (assign target env v) (λ_ s₂ =>
     wpAny (model prog w) A (forIn ifs true λc r=>if r=true then do let ok <- isTrue c env (eval c env);pure (ForInStep.yield ok)else pure (ForInStep.yield r)) (λok s₃ =>
      if ok=true then wpAny (model prog w) A (eval elt env) (λx s₄ =>
       wpAny (model prog w) A (call (.builtin "list.append") [acc,x]) (λ_ s₅=>∃ m,m < n/\I m s₅) (λ_ _=>False) s₄) (λ_ _=>False) s₃
      else ∃m,m<n/\I m s₃) (λ_ _=>False) s₂) (λ_ _=>False) s₀) (λ_ _=>False) s₁) (λ_ _=>False) s)
  (n:Nat) {s:Shared} (h:I n s) :
  codeAny (model prog w) A (.compLoop (.ListComp elt [⟨target,iter,ifs,0⟩] scope pos) 0 it acc env) R s:=by
 refine codeAny_loop rfl I (λn s hI=>?_) n h
 show wpAny _ A ((compTurn (.ListComp elt [⟨target,iter,ifs,0⟩] scope pos) 0 it acc env).onRaise (λx=>do noteFrame x env;theTreesLotGoes x)) _ _ s
 refine wpAny_noted ?_;rw[compTurn_list];have fe:∀{α:Type}{t:Sem α}{Q:α->Shared->Prop}{E:Value->Shared->Prop}{s:Shared},wpAny (model prog w) A t Q (λ_ _=>False) s->wpAny (model prog w) A t Q E s:=λh=>abn h (λ_ _ q=>q) λ_ _ z=>z.elim;refine ZQ (wpAny_standAt (ZQ (abn (turn n s hI) (λr s₁ h₁=>?_) λ_ _ h'=>h'.elim)))
 cases r with
 |none=>exact aai h₁
 | some v =>
  refine ZQ (abn h₁ (λ_ s₀ h₀=>?_) λ_ _ z=>z.elim);refine ZQ (abn h₀ (λ_ s₂ h₂=>ZQ (abn h₂ (λok s₃ h₃=>?_) λ_ _ h'=>h'.elim)) λ_ _ h'=>h'.elim)
  cases ok with
  |false=>exact aai ⟨rfl,h₃⟩
  | true =>
   exact ZQ (ZQ (abn h₃ (λx s₄ h₄=>ZQ (abn h₄ (λ_ s₅ h₅=>aai (aai ⟨rfl,h₅⟩)) λ_ _ h'=>h'.elim)) λ_ _ h'=>h'.elim))
end
def Wt(X:Cx)(tg:Expr)(n:Nat)(g:Tg):Prop:=∃gg:TG,PG X tg gg/\∀v σ H Pr Z x k,σ.length=X.N.length->aJ X.K Pr H σ Z->V6 X.K H v x->g x Z k->gg v σ H λσ' H'=>H'=H/\σ'.drop n=σ.drop n/\∃Z',aJ X.K Pr H σ' Z'/\k Z'
theorem ck{X:Cx}{i n:Nat}{x:Str}{pos:Pos}(hn:i<n)(hN:X.N.Nodup)(hi:X.N[i]?=some x)(hx:Vq X.env.scope x)(hf:X.fn x=true∨X.env.scope.names.lookup x=some .local:=by first|exact .inl rfl|exact .inr rfl|assumption):Wt X (.Name x pos) n (aU i) :=
 ⟨_,yH hN hi hx hf,λv σ H Pr Z x k hl E r h=>⟨rfl,by rw[List.drop_set_of_lt hn],_,(E.cons_d r).store (by rw[hl];exact(so.mp hi).1),h⟩⟩
def Wu(X:Cx)(ifs:List Expr)(t:W Bool):Prop :=
 ∀(ab:List (Addr×Obj))(s:Shared)(σ:St)(H Pr:Hp)(Z:Ev)(js:Bool->Ev->Prop),Vr X ab σ H s->aJ X.K Pr H σ Z->t Z js ->
  wpAny (model X.prog X.w) X.A (forIn ifs true λc r=>if r=true then do let ok <- isTrue c X.env (eval c X.env);pure (ForInStep.yield ok)else pure (ForInStep.yield r)) (EB X ab σ Pr js) X.xe s
def dO:W Bool:=λZ js=>js true Z
theorem cD{X:Cx}:Wu X [] dO:=λab s σ H Pr Z js I E h=>wpAny_tests_nil ⟨H,Z,I,E,h⟩
theorem rf{X:Cx}{c:Expr}{t:W Bool}(h:PB X c t):Wu X [c] t:=λab s σ H Pr Z js I E ht=>wpAny_tests_one (h ab s σ H Pr Z js I E ht)
def de(g:Tg)(ti:W Bool)(te:W L):List D->Ev->List D->(List D->Ev->Prop)->Prop
 |[],Z,acc,k=>k acc Z
 |x::xs,Z,acc,k=>g x Z λZ1=>ti Z1 λb Z2=>if b=true then te Z2 λr Z3=>Wc r λy=>de g ti te xs Z3 (acc++[y]) k else de g ti te xs Z2 acc k
def fj(n:Nat)(fi:List Nat)(src:W (List D))(g:Tg)(ti:W Bool)(te:W L):W L:=λZ js=>src Z λxs Z1=>xs.length<=sizeLine /\
 de g ti te xs (List.replicate n .un++dB fi Z1) [] λys ρb=>∀a,js (.own a ys) (jH fi (ρb.drop n) (bI fi Z1))
section
variable{X:Cx}
theorem AY{elt tg iter:Expr}{ifs:List Expr}{scope sc:Scope}{pos:Pos}{N Nt Nf:List Str}{fi:List Nat}{src:W (List D)}{g:Tg}{ti:W Bool}{te:W L}
  (hsc:X.env.scope=sc) (hXN:X.N=N) (hc:X.calm=true) (hi:Wn X tg iter src)
  (hkind:scope.kind=.function) (hnames:∀x∈scope.names,x.2=.local->scope.names.lookup x.1=some .local) (hcell:∀y∈scope.names,y.2≠.cell)
  (hfr:∀x∈scope.names,x.2=.free->sc.names.lookup x.1=some .cell∨sc.names.lookup x.1=some .free)
  (hnd:fi.Nodup) (hNf:Nf.map some=fi.map (λj=>N[j]?)) (hNk:∀x∈Nf,scope.names.lookup x=some .free) (hfl:∀j∈fi,j<N.length)
  (hg:∀cl s₀ H₀ fp,Wt (lA X scope cl (Nt++Nf) s₀ H₀ fp) tg Nt.length g) (hti:∀cl s₀ H₀ fp,Wu (lA X scope cl (Nt++Nf) s₀ H₀ fp) ifs ti) (hte:∀cl s₀ H₀ fp,PL (lA X scope cl (Nt++Nf) s₀ H₀ fp) elt te)
  {ab:List (Addr×Obj)} {s:Shared} {σ:St} {H Pr:Hp} {Z:Ev} {js:L->Ev->Prop} {use:Option (Value->Sem Unit)} {Q:Value->Shared->Prop} (I:Vr X ab σ H s) (E:aJ X.K Pr H σ Z) (h:fj Nt.length fi src g ti te Z js)
  (hRR:∀D C s7 H6 acc Z'' m,Vr X ab σ H6 s7->s7.heap.Ns C m->H6 C=none->C≠X.env.locals->X.s₀.heap.objs.size<=C->(∀x c,X.env.cells.lookup x=some c->c≠C)->(∀p∈X.pn++ab,p.1≠C)->aJ X.K Pr H6 (some (.ref D)::σ) (.own D acc::Z'')->js (.own D acc) Z'' ->
   compPost (model X.prog X.w) X.A X.xe use Q (.ref D) C (.ok .next) s7)
  (hs:∀x,foldedSetIterable iter X.env x=pure x):wpAny (model X.prog X.w) X.A (comprehension (.ListComp elt [⟨tg,iter,ifs,0⟩] scope pos) scope X.env (firstIterPos [⟨tg,iter,ifs,0⟩] pos) (newList []) false (eval iter X.env) use) Q X.xe s:=by
 have hcells:∀x∈scope.names,x.2=.free->∃c,X.env.cells.lookup x.1=some c:=λx hx hk=>I.ok.has x.1 (by
  show X.env.scope.names.lookup x.1=_∨X.env.scope.names.lookup x.1=_
  rw[hsc];exact hfr x hx hk)
 have hsub:=El (cells:=X.env.cells) scope.names [] (λx c e=>by simp at e);refine wpAny_comprehension_free (use:=use) rfl hs (qg hcells) hkind hnames (Vv (hi ab s σ H Pr Z _ I E h) λv s1 h1=>Vv h1 λitv s2 h2=>?_);obtain⟨it,fp,tn,J,H2,xs,Z2,e,I2,T,st2,f2,E2,G,b0,w0⟩:=h2;subst e;refine abM (T:="list") ?_;generalize hD:s2.heap.objs.size=D;have fD:H2 D=none:=by rw[<- hD];exact I2.fresh
 have I3:Vr X ab σ (Vj H2 D (.lst [])) {s2 with heap:=s2.heap.push {cls:=.type "list",dict:=none,data:=.seq ([]:List Value).toArray} }:=by have:=Vr.lnew (ys:=[]) (its:=[]) (t':=s2.toks) I2 .nil (aaN _);rw[hD]at this;exact this
 have E3:=E2.cons_own (p:=D) (vs:=[]) (xs:=[]) fD .nil;have sz3:(s2.heap.push {cls:=.type "list",dict:=none,data:=.seq ([]:List Value).toArray}).objs.size=D+1:=by rw[Heap.size_push,hD]
 generalize hs3:({s2 with heap:=s2.heap.push {cls:=.type "list",dict:=none,data:=.seq ([]:List Value).toArray} }:Shared)=s3 at I3;have hs3h:s3.heap=s2.heap.push {cls:=.type "list",dict:=none,data:=.seq ([]:List Value).toArray}:=by rw[<- hs3]
 have fpD:∀b∈fp,b≠D:=λb hb=>by obtain⟨o,e,_⟩:=T.obj 0 _ st2 b hb;rw[<- hD];exact aar (ZV e)
 have old3:∀b o,s2.heap.get? b=some o->s3.heap.get? b=some o:=λb o e=>by rw[hs3h];exact ZO _ e
 refine wpAny_newFunctionEnv (around:=some X.env) hcell (by intro y hy;simp at hy) (λh4 hns4 hsb4=>?_) hkind
 have hns4':h4.Ns s3.heap.objs.size (λ_=>none):=by
  have:(λx=>(([]:List (Str×Value)).reverse.lookup x))=λ_=>(none:Option Value):=by funext x;rfl
  rw[this]at hns4;exact hns4
 have old4:∀b o,s3.heap.get? b=some o->h4.get? b=some o:=λb o e=>by rw[hsb4.2 b (aar (ZV e))];exact ZO _ e
 have hσl:σ.length=N.length:=by rw[<- hXN];exact I.len
 have hρ2:σ.length=Z2.length:=E2.len;have hjσ:∀j∈fi,j<σ.length:=λj hj=>by rw[hσl];exact hfl j hj
 have hjρ:∀j∈fi,j<Z2.length:=λj hj=>by rw[<- hρ2];exact hjσ j hj
 have hfpl:∀b∈fp,b<s3.heap.objs.size:=λb hb=>by obtain⟨o,e,_⟩:=T.obj 0 _ st2 b hb;exact ZV (old3 b o e)
 have hlNf:Nf.length=fi.length:=by have:=congrArg List.length hNf;simpa using this
 have Bok:(lA X scope (AV X.env.cells scope.names []) (Nt++Nf) s3 (Vj H2 D (.lst [])) fp).Ok:=by
  refine⟨I3.ok.mod,hkind,I.ok.glob,I.ok.blt,ZY _,λx y c e1 e2=>I.ok.inj x y c (hsub x c e1) (hsub y c e2),λx hx=>?_,λx c hf _=>(aaF hf).elim,I.ok.hd,I.ok.frames,.inl rfl,λb hb=>⟨aar (hfpl b hb),λx c e=>(f2 b hb).2.2.2.2.1 x c (hsub x c e)⟩,I3.bs,ZR I.ok.bsz I3.sz,λb o e hb=>?_,λb hb hm=>?_,I3.stack,I3.stkFree,I3.tbs⟩
  .
   have hm:(x,NameKind.free)∈scope.names:=by
    rcases hx with hx|hx
    . exact ka (env:=X.env) hcell (.inl rfl) hx
    . exact ka (env:=X.env) hcell (.inr rfl) hx
   exact yP scope.names [] x (.inr ⟨hm,hcells _ hm rfl⟩)
  .
   rcases(f2 b hb).2.2.2.1 with z|z
   . exact I.ok.noex b o e z
   . exact absurd (k5 (ZV (I.ok.bs b o e).1) z) (abf _)
  .
   rcases ZU.mp (I3.stkSub b hm)with z|z
   . exact(f2 b hb).2.1 z
   . exact(f2 b hb).2.2.1 z
 have I4:Vr (lA X scope (AV X.env.cells scope.names []) (Nt++Nf) s3 (Vj H2 D (.lst [])) fp) [] (List.replicate Nt.length none++cB fi σ) (Vj H2 D (.lst [])) {s3 with heap:=h4,toks:=s3.toks+([]:List (Str×Value)).length}:=by
  refine⟨Bok,rfl,I3.bare,Un.kept old4,⟨_,hns4',λi x v e1 e2 e3=>?_⟩,λx c e=>?_,I3.fresh,λx c e=>(I3.freeC x c (hsub x c e)).imp id λz=>⟨rfl,z.2⟩,λp hp=>absurd (show p∈([]:List (Addr×Obj))from hp) x_,I3.hok.kept old4,?_⟩
  .
   have e1:(Nt++Nf)[i]?=some x:=e1
   have hi':Nt.length<=i:=by
    by_cases q:i<Nt.length
    . rw[aaG (by simpa using q),List.getElem?_replicate]at e2;split at e2<;>cases e2
    . omega
   rw[aal hi']at e1;rw[aal (by simpa using hi')]at e2;simp only[List.length_replicate]at e2;generalize i-Nt.length=k at e1 e2;have hk:k<fi.length:=by have:=(so.mp e1).1;omega
   have e4:(Nf.map some)[k]?=(fi.map λj=>N[j]?)[k]?:=by rw[hNf]
   rw[ZZ,ZZ,e1,gV hk]at e4;have e5:N[fi[k]]?=some x:=by simpa using e4.symm
   have e6:σ[fi[k]]?=some (some v):=by unfold cB at e2;rw[ZZ,gV hk]at e2;have hjl:=hjσ fi[k] (ZM hk);rw[gV hjl];simpa[gV hjl]using e2
   have hxm:x∈Nf:=List.mem_of_getElem? e1;have hfree:=hNk x hxm;have hmem:(x,NameKind.free)∈scope.names:=abd hfree;have hkx:=hfr _ hmem rfl;obtain⟨m,_,hl⟩:=I3.loc;obtain⟨u,ru,lk⟩:=hl fi[k] x v (by rw[hXN];exact e5) e6 (by rw[hsc];exact .inr hkx);refine⟨u,ru,.inr ⟨gX (env:=X.env) hfree,?_⟩⟩;rcases lk with⟨z,_⟩|⟨_,c,hc1,hc2⟩
   .
    have z:X.env.scope.names.lookup x=some .local:=z;rw[hsc]at z;rcases hkx with q|q
    . rw[z]at q;cases q
    . rw[z]at q;cases q
   .
    obtain⟨d,hd⟩:=yP (cells:=X.env.cells) scope.names [] x (.inr ⟨hmem,c,hc1⟩);have:d=c:=by have:=hsub x d hd;rw[hc1]at this;exact(aaf this).symm
    subst this;obtain⟨o,ho,hdd⟩:=hc2;exact⟨d,hd,o,old4 _ o ho,hdd⟩
  . obtain⟨v,o,ho,hd⟩:=I3.cell x c (hsub x c e);exact⟨v,o,old4 c o ho,hd⟩
  . show(List.replicate Nt.length none++cB fi σ).length=(Nt++Nf).length;simp[cB,hlNf]
 have E4:aJ X.K Pr (Vj H2 D (.lst [])) (some (.ref D)::(σ++(List.replicate Nt.length none++cB fi σ))) (.own D []::(bI fi Z2++(List.replicate Nt.length .un++dB fi Z2))):=by
  have a1:aJ X.K Pr (Vj H2 D (.lst [])) (σ++[some (.ref D)]) (Z2++[.own D []]):=E3.rearr (by simp[hρ2]) [] (by
   rw[abh,aa7 hρ2]
   exact(aaO (l₁:=[(some (V.ref D),L.own D [])]) (l₂:=σ.zip Z2)))
  have a2:=a1.takes fi hnd λj hj=>by have:=hjρ j hj;simp;omega
  rw[AW hjσ,F7 hjρ,AX hjρ]at a2;have a3:=a2.uns Nt.length;have hcl:(cB fi σ).length=(dB fi Z2).length:=by simp[cB,dB]
  have hul:σ.length=(bI fi Z2).length:=by rw[gW];exact hρ2
  refine a3.rearr (by simp[hul,hcl]) [] ?_;have l1:(cB fi σ++(σ++[some (V.ref D)])++List.replicate Nt.length none).zip (dB fi Z2++(bI fi Z2++[L.own D []])++List.replicate Nt.length L.un)=((cB fi σ).zip (dB fi Z2)++(σ.zip (bI fi Z2)++[(some (V.ref D),L.own D [])]))++(List.replicate Nt.length none).zip (List.replicate Nt.length L.un):=by rw[aa7 (by simp only[aaK,hcl,hul];rfl),aa7 hcl,aa7 hul];rfl
  have l2:(some (V.ref D)::(σ++(List.replicate Nt.length none++cB fi σ))).zip (L.own D []::(bI fi Z2++(List.replicate Nt.length L.un++dB fi Z2)))=(some (V.ref D),L.own D [])::(σ.zip (bI fi Z2)++((List.replicate Nt.length none).zip (List.replicate Nt.length L.un)++(cB fi σ).zip (dB fi Z2))):=by rw[abD,aa7 hul,aa7 x_]
  rw[abh,l1,l2];generalize (cB fi σ).zip (dB fi Z2)=z1;generalize σ.zip (bI fi Z2)=z2;generalize (List.replicate Nt.length none).zip (List.replicate Nt.length L.un)=z3;show(z1++(z2++[(some (V.ref D),L.own D [])])++z3).Perm ((some (V.ref D),L.own D [])::(z2++(z3++z1)));have p1:(z1++(z2++[(some (V.ref D),L.own D [])])++z3).Perm ((z2++[(some (V.ref D),L.own D [])])++z3++z1):=by rw[aaJ];exact aaO
  refine p1.trans ?_;rw[aaJ,aaJ];exact List.perm_middle
 clear E3
 let B:Cx:=lA X scope (AV X.env.cells scope.names []) (Nt++Nf) s3 (Vj H2 D (.lst [])) fp
 have hul:σ.length=(bI fi Z2).length:=by rw[gW];exact hρ2
 have stat:∀{H':Hp},(∀b∈fp,H' b=none)->∀b∈fp,G0 B [] H' b:=λhn b hb=>by
  refine⟨hn b hb,aar (hfpl b hb),λhm=>?_,.inl hb,λx c e=>(f2 b hb).2.2.2.2.1 x c (hsub x c e),λp hp=>absurd (show p∈([]:List (Addr×Obj))from hp) x_⟩;rcases ZU.mp (I3.stkSub b hm)with z|z
  . exact(f2 b hb).2.1 z
  . exact(f2 b hb).2.2.1 z
 have loop:∀s5:Shared,s5={s3 with heap:=h4,toks:=s3.toks+([]:List (Str×Value)).length}->codeAny (model X.prog X.w) X.A (.compLoop (.ListComp elt [⟨tg,iter,ifs,0⟩] scope pos) 0 (.ref it) (.ref D) B.env)
   (compPost (model X.prog X.w) X.A X.xe use Q (.ref D) s3.heap.objs.size) s5:=by
  rintro s5 rfl
  refine HE (λn s'=>∃i σ' H' Z' acc,n+i=xs.length/\Vr B [] σ' H' s'/\tn i s'.heap/\(∀b∈fp,H' b=none)/\σ'.drop Nt.length=cB fi σ/\aJ X.K Pr H' (some (.ref D)::(σ++σ')) (.own D acc::(bI fi Z2++Z'))/\acc.length<=i /\
   de g ti te (xs.drop i) Z' acc λys ρb=>∀a,js (.own a ys) (jH fi (ρb.drop Nt.length) (bI fi Z2))) ?_ xs.length
   ⟨0,_,_,_,[],xL,I4,T.keep 0 _ _ st2 λb hb o e=>old4 b o (old3 b o e),λb hb=>by rw[aH (fpD b hb)];exact(f2 b hb).1,x_,E4,ZY _,by simpa using w0⟩
  rintro n s6 ⟨i,σ6,H6,Z6,acc,hn,I6,st6,fr6,dr6,E6,hal,w6⟩
  have pr:ye H2 H6:=λb o p e=>by
   have ne:b≠D:=λz=>by rw[z,fD]at e;cases e
   have e':B.H₀ b=some o:=by show Vj H2 D (.lst []) b=some o;rw[aH ne];exact e
   cases o with
   |tup ys=>exact I6.base.tups b ys e'
   |frz ob u=>exact I6.base.frzs b ob u e'
   |tbl t=>exact I6.base.tbls b t e'
   |_=>exact p.elim
  obtain⟨go,stop⟩:=G H6 pr;have hτ:(some (V.ref D)::σ).length=(L.own D acc::bI fi Z2).length:=by simp[hul]
  by_cases hlt:i<xs.length
  .
   obtain⟨hgo,hy⟩:=go i xs[i] (gV hlt);rw[aaB hlt]at w6;refine Vv (T.item B rfl rfl rfl hc i [] s6 σ6 H6 (λ_ _=>False) I6 (stat fr6) st6 hgo) λr s7 ⟨u,hr,h7⟩=>?_;subst hr;refine Vv h7 λ_ s8 ⟨x,H8,I8,r8,y8,st8,fr8⟩=>?_;obtain⟨gr,rx⟩:=hy x H8 y8;have I8':=I8.pinned (stat fr8) (T.obj _ _ st8);have E8:=E6.grown gr;have E8a:aJ X.K (bD H8 Z6) H8 σ6 Z6:=(aJ.drop (τ:=some (V.ref D)::σ) (lam:=L.own D acc::bI fi Z2) E8 hτ).wide;obtain⟨gg,hgg,hgs⟩:=hg (AV X.env.cells scope.names []) s3 (Vj H2 D (.lst [])) fp;refine Vv (hgg _ s8 σ6 H8 x u _ I8' r8 (hgs x σ6 H8 _ Z6 xs[i] _ I8.len E8a rx w6)) λ_ s9 ⟨σ9,H9,I9,e9,dr9,Z9,E9,q9⟩=>?_;subst e9;have F9:aJ X.K Pr H9 (some (V.ref D)::(σ++σ9)) (L.own D acc::(bI fi Z2++Z9)):=aJ.step (τ:=some (V.ref D)::σ) (lam:=L.own D acc::bI fi Z2) (w:=[]) (μ:=[]) E8 hτ E9 rfl;have F9a:aJ X.K (bD H9 Z9) H9 σ9 Z9:=(aJ.drop (τ:=some (V.ref D)::σ) (lam:=L.own D acc::bI fi Z2) F9 hτ).wide;refine Vv (hti _ _ _ _ _ s9 σ9 H9 _ Z9 _ I9 F9a q9) λok sA ⟨HA,ρA,IA,EA,qA⟩=>?_;have FA:aJ X.K Pr HA (some (V.ref D)::(σ++σ9)) (L.own D acc::(bI fi Z2++ρA)):=aJ.step (τ:=some (V.ref D)::σ) (lam:=L.own D acc::bI fi Z2) (w:=[]) (μ:=[]) F9 hτ EA rfl
   have again:∀{sZ:Shared}{HZ:Hp}{ρZ:Ev}{acc':List L2.D},Vr B ([]++Ay fp s8.heap) σ9 HZ sZ->aJ X.K Pr HZ (some (.ref D)::(σ++σ9)) (.own D acc'::(bI fi Z2++ρZ))->acc'.length<=i+1 ->
     (de g ti te (xs.drop (i+1)) ρZ acc' λys ρb=>∀a,js (.own a ys) (jH fi (ρb.drop Nt.length) (bI fi Z2)))->∃m,m<n/\∃i σ' H' Z' acc,m+i=xs.length/\Vr B [] σ' H' sZ/\tn i sZ.heap/\(∀b∈fp,H' b=none)/\σ'.drop Nt.length=cB fi σ /\
     aJ X.K Pr H' (some (.ref D)::(σ++σ')) (.own D acc::(bI fi Z2++Z'))/\acc.length<=i/\de g ti te (xs.drop i) Z' acc λys ρb=>∀a,js (.own a ys) (jH fi (ρb.drop Nt.length) (bI fi Z2)):=λ{sZ HZ ρZ acc'} IZ EZ hz qZ=>by
    refine⟨n-1,xL,i+1,σ9,HZ,ρZ,acc',xL,IZ.unpinned,T.keep _ _ _ st8 λb hb o e=>(IZ.pin (b,o) (aad _ (aad _ (m7 hb e)))).1,λb hb=>?_,dr9.trans dr6,EZ,hz,qZ⟩;obtain⟨o,e,d⟩:=T.obj _ _ st8 b hb;exact(IZ.pin (b,o) (aad _ (aad _ (m7 hb e)))).2.1
   cases ok with
   | false =>
    rw[if_neg aaF]at qA ⊢;exact again IA FA xL qA
   | true =>
    rw[if_pos rfl]at qA ⊢;have FAa:aJ X.K (bD HA ρA) HA σ9 ρA:=(aJ.drop (τ:=some (V.ref D)::σ) (lam:=L.own D acc::bI fi Z2) FA hτ).wide;refine Vv (hte _ _ _ _ _ sA σ9 HA _ ρA _ IA FAa qA) λux sB qB=>?_;obtain⟨vy,HB,y,ρB,IB,rB,EB,qB⟩:=EL.frz (X:=B) (js:=λy Z3=>de g ti te (xs.drop (i+1)) Z3 (acc++[y]) λys ρb=>∀a,js (.own a ys) (jH fi (ρb.drop Nt.length) (bI fi Z2))) qB;have FB:aJ X.K Pr HB (some vy::(some (V.ref D)::(σ++σ9))) (.d y::(L.own D acc::(bI fi Z2++ρB))):=aJ.step (τ:=some (V.ref D)::σ) (lam:=L.own D acc::bI fi Z2) (w:=[some vy]) (μ:=[.d y]) FA hτ EB rfl;obtain⟨_,e1,p1⟩:=FB.head_d;cases e1;have Wv:=FB.tail.sl
    cases Wv with
    | cons q0 _ =>
     obtain⟨_,vs,hDB,rvs⟩:=q0;refine Vv (AH (X:=B) _ sB σ9 HB (.ref D) [vy] (.ref D) [ux] (λz H'=>H'=Vj HB D (.lst (vs++[vy]))) IB rfl (.cons rB .nil) ⟨D,vs,vy,rfl,rfl,hDB,by rw[rvs.length];omega,rfl⟩) λ_ sC ⟨z,HC,IC,_,eC⟩=>?_;subst eC;exact again IC (FB.tail.write (rvs.append (.cons p1 .nil))) (by simp;omega) qB
  .
   have e:i=xs.length:=by omega
   subst e;refine Vv (T.done B rfl rfl rfl hc xs.length [] s6 σ6 H6 (λ_ _=>False) I6 (stat fr6) st6 stop) λr s7 ⟨hr,I7⟩=>?_;subst hr;rw[List.drop_length]at w6;obtain⟨m,hm,_⟩:=id I7.loc;have I8:Vr X ab σ H6 s7:=I3.call' (ch:=fp) I7.os I7.base I7.hok I7.bare λb hb=>⟨(f2 b hb).2.2.2.1,(f2 b hb).2.1,(f2 b hb).2.2.2.2.1,(f2 b hb).2.2.2.2.2⟩;have f4:=I3.fpOk (H':=H6) (b:=s3.heap.objs.size) (ZY _) I7.free
   .
    have hlen6:σ6.length=Z6.length:=(aJ.drop (τ:=some (V.ref D)::σ) (lam:=L.own D acc::bI fi Z2) E6 hτ).len
    have a1:aJ X.K Pr H6 (cB fi σ++(σ++[some (V.ref D)])) (Z6.drop Nt.length++(bI fi Z2++[L.own D acc])):=by
     have hcd:(cB fi σ).length=(Z6.drop Nt.length).length:=by rw[<- dr6,abB,abB,hlen6]
     refine E6.rearr (by simp[hcd,hul,hlen6]) ((σ6.take Nt.length).zip (Z6.take Nt.length)) ?_;have l0:σ6.zip Z6=(σ6.take Nt.length).zip (Z6.take Nt.length)++(cB fi σ).zip (Z6.drop Nt.length):=by rw[<- dr6,<- aa7 (by simp[hlen6]),List.take_append_drop,List.take_append_drop]
     have l1:(some (V.ref D)::(σ++σ6)).zip (L.own D acc::(bI fi Z2++Z6))=(some (V.ref D),L.own D acc)::(σ.zip (bI fi Z2)++σ6.zip Z6):=by rw[abD,aa7 hul]
     have l2:(cB fi σ++(σ++[some (V.ref D)])).zip (Z6.drop Nt.length++(bI fi Z2++[L.own D acc]))=(cB fi σ).zip (Z6.drop Nt.length)++(σ.zip (bI fi Z2)++[(some (V.ref D),L.own D acc)]):=by rw[aa7 hcd,aa7 hul];rfl
     rw[l1,l2,l0];generalize (cB fi σ).zip (Z6.drop Nt.length)=z1;generalize σ.zip (bI fi Z2)=z2;generalize (σ6.take Nt.length).zip (Z6.take Nt.length)=z3;have p1:((some (V.ref D),L.own D acc)::(z2++(z3++z1))).Perm ((z2++[(some (V.ref D),L.own D acc)])++(z3++z1)):=by rw[aaJ];exact List.perm_middle.symm
     refine p1.trans ?_;have p2:((z2++[(some (V.ref D),L.own D acc)])++(z3++z1)).Perm ((z3++z1)++(z2++[(some (V.ref D),L.own D acc)])):=aaO;refine p2.trans ?_;rw[aaJ];exact aaO
    have a2:=aJ.backs (σ:=σ++[some (V.ref D)]) (cs:=Z6.drop Nt.length) (Z:=bI fi Z2++[L.own D acc]) fi hnd (by rw[abB,<- hlen6,<- abB,dr6];simp[cB]) (λj hj=>by
     rw[aaG (by rw[gW];exact hjρ j hj)];exact Ek fi Z2 j hj (hjρ j hj)) (λj hj=>by have:=hjσ j hj;simp;omega) (by rw[AW hjσ];exact a1)
    rw[yf λj hj=>by rw[gW];exact hjρ j hj]at a2;have hpl:σ.length=(jH fi (Z6.drop Nt.length) (bI fi Z2)).length:=by have:=a2.len;simpa using this
    refine hRR D s3.heap.objs.size s7 H6 acc (jH fi (Z6.drop Nt.length) (bI fi Z2)) m I8 hm f4.1 f4.2.1 I3.sz f4.2.2.2.2.1 f4.2.2.2.2.2 (a2.rearr (by simp[hpl]) [] ?_) (w6 D);rw[abh,aa7 hpl,abD];exact aaO (l₂:=[(some (V.ref D),L.own D acc)])
 exact codeAny_compStart_list (loop _ rfl) (T.self _ 0 _ _ _ (T.keep 0 _ _ st2 λb hb o e=>old4 b o (old3 b o e)) (loop _ rfl))
theorem cF{elt tg iter:Expr}{ifs:List Expr}{scope sc:Scope}{pos:Pos}{N Nt Nf:List Str}{fi:List Nat}{src:W (List D)}{g:Tg}{ti:W Bool}{te:W L}
  (hsc:X.env.scope=sc) (hXN:X.N=N) (hc:X.calm=true) (hi:Wn X tg iter src)
  (hkind:scope.kind=.function) (hnames:∀x∈scope.names,x.2=.local->scope.names.lookup x.1=some .local) (hcell:∀y∈scope.names,y.2≠.cell)
  (hfr:∀x∈scope.names,x.2=.free->sc.names.lookup x.1=some .cell∨sc.names.lookup x.1=some .free)
  (hnd:fi.Nodup) (hNf:Nf.map some=fi.map (λj=>N[j]?)) (hNk:∀x∈Nf,scope.names.lookup x=some .free) (hfl:∀j∈fi,j<N.length)
  (hg:∀cl s₀ H₀ fp,Wt (lA X scope cl (Nt++Nf) s₀ H₀ fp) tg Nt.length g) (hti:∀cl s₀ H₀ fp,Wu (lA X scope cl (Nt++Nf) s₀ H₀ fp) ifs ti) (hte:∀cl s₀ H₀ fp,PL (lA X scope cl (Nt++Nf) s₀ H₀ fp) elt te)
  (hs:∀x,foldedSetIterable iter X.env x=pure x:=by intro _;rfl):PL X (.ListComp elt [⟨tg,iter,ifs,0⟩] scope pos) (fj Nt.length fi src g ti te):=by
 intro ab s σ H Pr Z js I E h;rw[eval_ListComp];refine AY (use:=none) hsc hXN hc hi hkind hnames hcell hfr hnd hNf hNk hfl hg hti hte I E h (λD C s7 H6 acc Z'' m I7 hm h1 h2 h3 h4 h5 E7 p=>?_) hs;exact⟨m,hm,λh' hsb=>⟨.ref D,H6,_,Z'',I7.turned (t':=s7.toks) (λb o hb e=>(hsb.2 b hb).trans e) h1 (abe (abe h2)) (.inr h3) h4 h5,rfl,E7,p⟩⟩
theorem rg{elt tg iter:Expr}{ifs:List Expr}{scope sc:Scope}{pos spos py:Pos}{y:Str}{j:Nat}{N Nt Nf:List Str}{fi:List Nat}{src:W (List D)}{g:Tg}{ti:W Bool}{te:W L}
  (hN:X.N.Nodup) (hj:X.N[j]?=some y) (hy:Vq X.env.scope y)
  (hsc:X.env.scope=sc) (hXN:X.N=N) (hc:X.calm=true) (hi:Wn X tg iter src)
  (hkind:scope.kind=.function) (hnames:∀x∈scope.names,x.2=.local->scope.names.lookup x.1=some .local) (hcell:∀y∈scope.names,y.2≠.cell)
  (hfr:∀x∈scope.names,x.2=.free->sc.names.lookup x.1=some .cell∨sc.names.lookup x.1=some .free)
  (hnd:fi.Nodup) (hNf:Nf.map some=fi.map (λj=>N[j]?)) (hNk:∀x∈Nf,scope.names.lookup x=some .free) (hfl:∀j∈fi,j<N.length)
  (hg:∀cl s₀ H₀ fp,Wt (lA X scope cl (Nt++Nf) s₀ H₀ fp) tg Nt.length g) (hti:∀cl s₀ H₀ fp,Wu (lA X scope cl (Nt++Nf) s₀ H₀ fp) ifs ti) (hte:∀cl s₀ H₀ fp,PL (lA X scope cl (Nt++Nf) s₀ H₀ fp) elt te)
  (hsw:swapsWith (.ListComp elt [⟨tg,iter,ifs,0⟩] scope pos) (some (.Name y py)) spos.line X.env=pure true:=by rfl) (hf:X.fn y=true∨X.env.scope.names.lookup y=some .local:=by first|exact .inl rfl|exact .inr rfl|assumption)
  (hs:∀x,foldedSetIterable iter X.env x=pure x:=by intro _;rfl):PM X (.Assign [.Name y py] (.ListComp elt [⟨tg,iter,ifs,0⟩] scope pos) spos) (br j (fj Nt.length fi src g ti te)):=by
 intro ab s σ H Pr Z js I E h;rw[exec_Assign_Name_used _ _ _ _ hsw];refine ZQ (wpAny_standAt (ZQ ?_))
 show wpAny _ X.A (do let _ <- comprehension (.ListComp elt [⟨tg,iter,ifs,0⟩] scope pos) scope X.env (firstIterPos [⟨tg,iter,ifs,0⟩] pos) (newList []) false (eval iter X.env) (some (assign (.Name y py) X.env))) _ _ s
 refine ZQ (Vv (AY (use:=some (assign (.Name y py) X.env)) (Q:=λ_ s'=>SM X ab Pr js .next s') (js:=λr Z1=>js .nx (Z1.set j r)) hsc hXN hc hi hkind hnames hcell hfr hnd hNf hNk hfl hg hti hte I E h (λD C s7 H6 acc Z'' m I7 hm h1 h2 h3 h4 h5 E7 p=>?_) hs) λ_ s' hq=>aai (aai hq))
 show wpAny _ X.A (assign (.Name y py) X.env (.ref D)) _ _ _;refine wpAny_assign_Name (Ax (v:=.ref D) I7 hN hj hy rfl (λs8 I8 ⟨a,sb,ha⟩=>?_) hf)
 have hCa:C≠a:=by
  rcases ha with z|z
  . rw[z];exact h2
  . exact λq=>h4 y a z q.symm
 refine⟨m,hm.sameBut sb hCa,λh' hsb=>⟨_,H6,_,I8.turned (t':=s8.toks) (λb o hb e=>(hsb.2 b hb).trans e) h1 h2 (.inr h3) h4 h5,E7.store (by rw[I7.len];exact(so.mp hj).1),p⟩⟩
end
section
variable{X:Cx}{e a b:Expr}{pos:Pos}{ta tb te:W L}{x y:Str}
def SD(i j:Nat)(ta tb:W L):W Fl:=λZ js=>ta Z λr Z1=>Wc r λv=>tb Z1 λr2 Z2=>Wc r2 λw=>js .nx ((Z2.set i (.d v)).set j (.d w))
theorem Q1{i j:Nat}{px py pt:Pos} {kt k2 pt2} (hc:X.calm=true) (hN:X.N.Nodup) (hi:X.N[i]?=some x) (hj:X.N[j]?=some y) (hij:i≠j)
  (hx:X.env.scope.names.lookup x=some .local) (hy:X.env.scope.names.lookup y=some .local) (ha:PL X a ta) (hb:PL X b tb)
  (hw:swappedStores [.Tuple [.Name x px,.Name y py] kt pt] (.Tuple [a,b] k2 pt2) X.env=pure (some [x,y]))
  (hs:swapsWithSole [.Tuple [.Name x px,.Name y py] kt pt] (.Tuple [a,b] k2 pt2) pos.line X.env=pure false:=by rfl)
  (h1:starEach [a,b] X.env=(false,eval a X.env)::starEach [b] X.env:=by rfl) (h2:starEach [b] X.env=[(false,eval b X.env)]:=by rfl) :
  PM X (.Assign [.Tuple [.Name x px,.Name y py] kt pt] (.Tuple [a,b] k2 pt2) pos) (SD i j ta tb):=by
 refine PM.of (Qs hc hN hi hj hij hx hy (je (aA ha).pe (je (aA hb).pe uG h2) h1) hw hs) λσ H Pr Z js b0 E h=>?_
 refine⟨Pr,Z,λr Z1=>match r with
  |.d v=>tb Z1 λr2 Z2=>Wc r2 λw=>js .nx ((Z2.set i (.d v)).set j (.d w))
  |_=>False,E,h,λv H1 r Z1 E1 pp=>?_⟩
 cases r with
 | d dv =>
  refine⟨bD H1 Z1,Z1,λr Z2=>match r with
   |.d w=>js .nx ((Z2.set i (.d dv)).set j (.d w))
   |_=>False,E1.tail.wide,pp,λw H2 r2 Z2 E2 pp=>?_⟩
  cases r2 with
  | d dw =>
   have E3:aJ X.K Pr H2 (some w::some v::σ) (.d dw::.d dv::Z2):=aJ.step (τ:=[some v]) (lam:=[.d dv]) (w:=[some w]) (μ:=[.d dw]) E1 rfl E2 rfl;have il:i<σ.length:=by rw[b0];exact(so.mp hi).1
   have jl:j<σ.length:=by rw[b0];exact(so.mp hj).1
   obtain⟨_,e1,r1⟩:=E3.head_d;cases e1;have E4:aJ X.K Pr H2 (σ.set i (some v)) (Z2.set i (.d dv)):=E3.tail.store il;exact⟨v,w,rfl,_,(E4.cons_d r1).store (by simpa using jl),pp⟩
  |_=>exact pp.elim
 |_=>exact pp.elim
def K1(is:List Nat)(te:W L):W Fl:=λZ js=>te Z λr Z1=>Wc r λv=>eF is v Z1 λZ2=>js .nx Z2
theorem HF{tg:Expr}{is:List Nat}(hg:Wl X tg (eF is))(he:PL X e te)(hs:swapsWithSole [tg] e pos.line X.env=pure false:=by rfl)(hw:swappedStores [tg] e X.env=pure none:=by rfl)
  (h1:(assignEach [tg] X.env).map (·.2)=[assign tg X.env]:=by rfl):PM X (.Assign [tg] e pos) (K1 is te):=by
 intro ab s σ H Pr Z js I E h;obtain⟨gg,hg,hgg⟩:=hg;refine wpAny_Assign_stores (Vv (he ab s σ H Pr Z _ I E h) λv s1 q=>?_) hs hw;obtain⟨w,H1,d,Z1,I1,r1,E1,q1⟩:=EL.frz (js:=λd Z1=>eF is d Z1 λZ2=>js .nx Z2) q;rw[h1];obtain⟨_,e1,p1⟩:=E1.head_d;cases e1;exact Vv (hg ab s1 σ H1 w v _ I1 r1 (hgg w σ H1 Pr Z1 d _ I1.len E1.tail p1 q1)) λ_ s2 ⟨σ',H',I',e',_,Z',E',q⟩=>by subst e';exact⟨σ',_,Z',I',E',q⟩
noncomputable def tX:D->Bool
 |.non=>true | .bl _=>true | .int _=>true | .str _=>true
 |_=>false
noncomputable def Ww:D->D->Bool
 |.non,.non=>true
 |.bl a,.bl b=>a == b
 |.bl a,.int b=>(if a then 1 else 0) == b
 |.int a,.bl b=>a == (if b then 1 else 0)
 |.int a,.int b=>a == b
 |.str a,.str b=>a == b
 |_,_=>false
theorem qh{K:W.Frag}{H:Hp}{v:V}{d:D}(r:V6 K H v d)(h:tX d=true):xm v=true:=by cases r<;>first|rfl|(exact absurd h (by simp[tX]))
theorem Q3{K:W.Frag}{H:Hp}{v w:V}{d f:D}(r:V6 K H v d)(q:V6 K H w f)(h:tX d=true)(h':tX f=true):VW v w=Ww d f:=by cases r<;>cases q<;>first|rfl|(exact absurd h (by simp[tX]))|(exact absurd h' (by simp[tX]))
noncomputable def V3(x:D)(ys:List D):Bool:=ys.any λy=>Ww y x
theorem AZ{K:W.Frag}{H:Hp}{v:V}{x:D}(r:V6 K H v x)(h:tX x=true):∀{vs:List V}{ys:List D},bV K H vs ys->ys.all tX=true->VY v vs=V3 x ys/\vs.all xm=true
 |_,_,.nil,_=>⟨rfl,rfl⟩
 | _,_,.cons r0 t,ha=>by rw[abP,Z5]at ha;obtain⟨i1,i2⟩:=AZ r h t ha.2;unfold VY V3 at i1 ⊢;rw[List.any_cons,List.any_cons,abP,i1,Q3 r0 r ha.1 h,qh r0 ha.1,i2];exact⟨rfl,rfl⟩
def CJ(neg:Bool):Wd:=λx y k=>tX x=true/\oM y λys=>ys.all tX=true/\k (.d (.bl (if neg then !V3 x ys else V3 x ys)))
theorem Om:We X (compareOp .In) (CJ false):=We.of Hc λσ H Pr Z x y dx dy js E px py ⟨hx,h⟩=>by
 cases py with
 | lst hz rs =>
  obtain⟨ha,h⟩:=h;obtain⟨i1,i2⟩:=AZ px hx rs ha;exact⟨_,_,rfl,.inl hz.l,qh px hx,i2,_,E.cons_d (.bl _),by rw[i1];exact h⟩
 | tup hz rs =>
  obtain⟨ha,h⟩:=h;obtain⟨i1,i2⟩:=AZ px hx rs ha;exact⟨_,_,rfl,.inr hz,qh px hx,i2,_,E.cons_d (.bl _),by rw[i1];exact h⟩
 |_=>exact h.elim
theorem K2:We X (compareOp .NotIn) (CJ true):=We.of AE λσ H Pr Z x y dx dy js E px py ⟨hx,h⟩=>by
 cases py with
 | lst hz rs =>
  obtain⟨ha,h⟩:=h;obtain⟨i1,i2⟩:=AZ px hx rs ha;exact⟨_,_,rfl,.inl hz.l,qh px hx,i2,_,E.cons_d (.bl _),by rw[i1];exact h⟩
 | tup hz rs =>
  obtain⟨ha,h⟩:=h;obtain⟨i1,i2⟩:=AZ px hx rs ha;exact⟨_,_,rfl,.inr hz,qh px hx,i2,_,E.cons_d (.bl _),by rw[i1];exact h⟩
 |_=>exact h.elim
def Wx(X:Cx)(lo:Option Expr)(t:Option (W L)):Prop:=match lo,t with
 |none,none=>True
 |some e,some t=>PL X e t
 |_,_=>False
theorem A0{K:W.Frag}{H:Hp}{vs:List V}{xs:List D}(r:bV K H vs xs)(l u:Option Int):bV K H (MY vs l u) (HD xs l u):=by unfold MY HD;rw[r.length];exact(r.drop _).take _
noncomputable def Wy(K:W.Frag)(t:Option (W L)):TO:=λσ H Q=>∃Pr Z js,aJ K Pr H σ Z/\F6 t Z js/\∀i H' Z',aJ K Pr H' σ Z'->js i Z'->Q i H'
theorem Q4{lo:Option Expr}{t:Option (W L)}(h:Wx X lo t):PO X lo (Wy X.K t):=by
 cases lo with
 | none =>
  cases t with
  | none =>
   intro ab s σ H Q I ⟨Pr,Z,js,E,hw,q⟩;exact NR ab s σ H Q I (q none H Z E hw)
  |some t=>exact h.elim
 | some e =>
  cases t with
  |none=>exact h.elim
  | some t =>
   intro ab s σ H Q I ⟨Pr,Z,js,E,hw,q⟩;refine NS (PL.pe (show PL X e t from h)) ab s σ H Q I ⟨Pr,Z,_,E,hw,λv H' r Z' E' pp=>?_⟩;obtain⟨i,rfl,pp⟩:=gI pp;obtain⟨_,e1,p1⟩:=E'.head_d;cases e1;obtain rfl:=V6.inv_int p1;exact⟨i,rfl,q (some i) H' Z' E'.tail pp⟩
end
def Q5{α:Type}(o:Option L)(t u:W α)(Z:Ev)(js:α->Ev->Prop):Prop:=match o with
 |some (.own _ _)=>t Z js
 |_=>u Z js
noncomputable def fY{α:Type}(i:Nat)(t u:W α):W α:=λZ js=>Q5 Z[i]? t u Z js
theorem K3{α:Type}(a:Addr)(xs:List D)(t u:W α)(Z:Ev)(js:α->Ev->Prop):Q5 (some (.own a xs)) t u Z js=t Z js:=rfl
theorem Q6{α:Type}(x:D)(t u:W α)(Z:Ev)(js:α->Ev->Prop):Q5 (some (.d x)) t u Z js=u Z js:=rfl
theorem On{α:Type}(a:Option Addr)(ls:List L)(t u:W α)(Z:Ev)(js:α->Ev->Prop):Q5 (some (.bx a ls)) t u Z js=u Z js:=rfl
theorem iK{X:Cx}{e:Expr}{i:Nat}{t u:W L}(h:PL X e t)(h':PL X e u):PL X e (fY i t u):=λab s σ H Pr Z js I E q=>by
 unfold fY Q5 at q;split at q
 . exact h ab s σ H Pr Z js I E q
 . exact h' ab s σ H Pr Z js I E q
theorem Oo{K:W.Frag}{c:Str}{C:Addr}{T:String}(h:yd K c C=true)(hm:W.kitMeta T=true):W.kitOne K (.ref C) (.type T)=some ((["ValueError","Exception","BaseException","object"]:List String).contains T):=by obtain⟨L,cd,S⟩:=AK h;unfold W.kitOne W.kitCls;rw[if_neg (show ¬((Value.ref C == Value.type T)=true)from λz=>by cases z)];dsimp only;rw[if_pos hm];show W.mroIn K C (.type T)=_;rw[S.mroIn,uK]
theorem A1{T:String}(h0:∀K d,(∀c ns xs,d≠.exc c ns xs)->W.kitOne K (Wr d) (.type T)=some (oQ T d))(hm:W.kitMeta T=true):∀K d t,Ws K d t->W.kitOne K t (.type T)=some (oQ T d):=by
 intro K d t h
 cases d with
 | exc c ns xs =>
  obtain⟨C,e,h⟩:=h;rw[e];exact Oo h hm
 |_=>cases h;exact h0 K _ (λ_ _ _ z=>nomatch z)
theorem HG:∀ K d t,Ws K d t->W.kitOne K t (.type "int")=some (oQ "int" d):=A1 (λK d hd=>by cases d <;> first | rfl | exact absurd rfl (hd _ _ _)) y_
theorem Em:∀ K d t,Ws K d t->W.kitOne K t (.type "bool")=some (oQ "bool" d):=A1 (λK d hd=>by cases d <;> first | rfl | exact absurd rfl (hd _ _ _)) y_
theorem Oq:∀ K d t,Ws K d t->W.kitOne K t (.type "str")=some (oQ "str" d):=A1 (λK d hd=>by cases d <;> first | rfl | exact absurd rfl (hd _ _ _)) y_
theorem uo:∀ K d t,Ws K d t->W.kitOne K t (.type "list")=some (oQ "list" d):=A1 (λK d hd=>by cases d <;> first | rfl | exact absurd rfl (hd _ _ _)) y_
theorem lT:∀ K d t,Ws K d t->W.kitOne K t (.type "tuple")=some (oQ "tuple" d):=A1 (λK d hd=>by cases d <;> first | rfl | exact absurd rfl (hd _ _ _)) y_
def CK(K:W.Frag)(mg:Str->Option Value)(x:Str)(d:D):Prop:=∃v u,mg x=some u/\cO v u/\∀H,V6 K H v d
theorem lO{X:Cx}{x:Str}{d:D}{pos:Pos}(g:CK X.K X.mg x d)(hg:Gl X x) (hdb:aet x:=by decide):PL X (.Name x pos) (wC d):=by obtain⟨v,u,h1,h2,h3⟩:=g;exact N6 hg h1 h2 h3 hdb
def SE(o:Obj)(d:D):Prop:=∃ its n vs ds,d=.tup ds/\o.cls=.type "tuple"/\o.data=.seq its n/\its.size<=sizeLine/\dA vs its.toList/\∀ K H,bV K H vs ds
theorem En{K:W.Frag}{mg:Str->Option Value}{x:Str}{d:D}{l:Addr}{o:Obj}(h1:mg x=some (.ref l))(h2:K.lookup l=some o)(h3:SE o d):CK K mg x d:=by obtain⟨its,n,vs,ds,rfl,hc,hd,hz,hv,hr⟩:=h3;exact⟨.ref l,_,h1,rfl,λH=>.tup (.inr ⟨o,its,n,h2,hc,hd,hz,hv⟩) (hr K H)⟩
theorem Eo{K:W.Frag}{mg:Str->Option Value}{x:Str}{s:Str}{t:Tok}(h1:mg x=some (.str s t)):CK K mg x (.str s):=⟨.str s,_,h1,⟨t,rfl⟩,λH=>.str s⟩
theorem qj{K:W.Frag}{H:Hp}:∀ns:List Int,bV K H (ns.map V.int) (ns.map D.int)
 |[]=>.nil
 |n::ns=>.cons (.int n) (qj ns)
theorem HH{K:W.Frag}{H:Hp}{a:Addr}{ns:List Int}{fs:FS}{n:Nat}(hl:ns.length<=n)(hO:Sh H)(hS:Vy K H a (ns.map V.int))(h:fs [.d (.lst (ns.map .int))] (λr _=>r=.d (.bl true))):spF K 1 fs [.ref a] H (λv _=>v=.bl true) λ_ _ _=>False:=by
 have hz:V5 K H a (ns.map V.int):=by
  rcases hS with(h|⟨o,h⟩)|h
  .
   rcases hO a with z|⟨o,xs,z⟩|⟨q,z⟩
   . rw[z]at h;cases h
   . rw[z]at h;cases h
   . rw[z]at h;cases h
  . exact .inl ⟨o,h⟩
  . exact .inr h
 refine⟨rfl,λ_=>none,[.d (.lst (ns.map .int))],_,⟨(λb o e=>nomatch e),(show([]:List Addr).Nodup from List.nodup_nil),(λa h=>absurd (show a∈([]:List Addr)from h) x_),.cons ⟨.ref a,rfl,.lst hz (qj ns)⟩ .nil⟩,h,λv H' r ls' E p=>?_⟩;subst p;obtain⟨_,e,r⟩:=E.head_d;cases e;obtain rfl:=V6.inv_bl r;rfl
section
variable{X:Cx}
def CL:Wd:=λx y k=>match y with
 |.non=>k (.d (.bl (match x with | .non=>true|_=>false)))
 |_=>False
def yg:Wd:=λx y k=>match y with
 |.non=>k (.d (.bl (match x with | .non=>false|_=>true)))
 |_=>False
theorem CM:We X (compareOp .Is) CL:=QY.imp λx y k h=>by
 unfold CL at h;split at h
 . exact⟨rfl,h⟩
 . exact h.elim
theorem Ep:We X (compareOp .IsNot) yg:=Og.imp λx y k h=>by
 unfold yg at h;split at h
 . exact⟨rfl,h⟩
 . exact h.elim
end
end L2
namespace L2
open PySem
theorem Er(a b:Int):Int.gcd b (a.fmod b)=Int.gcd a b:=by rw[Int.fmod_def,Int.gcd_sub_mul_left_right,Int.gcd_comm]
theorem nU(a:Int){b:Int}(h:b≠0):(a.fmod b).natAbs<b.natAbs:=by
 rw[Int.fmod_eq_emod];have h1:=Int.emod_nonneg a h;have h2:a % b<(b.natAbs:Int):=Int.emod_lt a h;split
 . omega
 . rename_i q;have:a % b≠0:=λe=>q (.inr (Int.dvd_of_emod_eq_zero e));omega
noncomputable def Wz(q:Rat):D:=.tup [.int q.num,.int (q.den:Int)]
theorem CN{t b:Int}(h:b≠0):0<Int.gcd t b:=Int.gcd_pos_of_ne_zero_right _ h
noncomputable def dC(t b:Int):Int:=if b<0 then -(Int.gcd t b:Int)else(Int.gcd t b:Int)
theorem Es{t b:Int}(h:b≠0):dC t b≠0:=by have:=CN (t:=t) h;unfold dC;split<;>omega
theorem HI(t b:Int):(dC t b).natAbs=Int.gcd t b:=by unfold dC;split<;>omega
theorem Et{t b:Int}(h:b≠0):(dC t b).natAbs<=b.natAbs:=by rw[HI];exact aaY xL (by have:=Int.gcd_dvd_right t b;exact Int.natAbs_dvd_natAbs.mpr this |> λq=>by simpa using q)
theorem uT{a g:Int}(hg:g≠0)(h:g∣a):a.fdiv (-g)=-(a / g):=by obtain⟨k,rfl⟩:=h;rw[Int.mul_ediv_cancel_left _ hg,show g*k=(-g)*(-k) by rw[Int.neg_mul_neg],Int.mul_fdiv_cancel_left _ xL]
theorem HJ{t b:Int}(h:b≠0):t.fdiv (dC t b)=(Rat.divInt t b).num:=by
 have hg:=CN (t:=t) h;have hd:(Int.gcd t b:Int)∣t:=Int.gcd_dvd_left t b;rw[Rat.num_divInt,Int.gcd_comm b t];unfold dC;split
 . rename_i hb;rw[uT xL hd,Int.sign_eq_neg_one_of_neg hb,Int.neg_one_mul,Int.neg_ediv_of_dvd hd]
 . rename_i hb;rw[Int.sign_eq_one_of_pos xL,Int.one_mul,aa2 _ xL]
theorem Os{t b:Int}(h:b≠0):b.fdiv (dC t b)=((Rat.divInt t b).den:Int):=by
 have hg:=CN (t:=t) h;have hd:(Int.gcd t b:Int)∣b:=Int.gcd_dvd_right t b;rw[Rat.den_divInt,if_neg h,Int.gcd_comm b t,Int.natCast_ediv];unfold dC;split
 .
  rename_i hb;rw[uT xL hd,<- Int.neg_ediv_of_dvd hd]
  congr 1
  omega
 .
  rename_i hb;rw[aa2 _ xL]
  congr 1
  omega
theorem Eu{t b:Int}(h:b≠0):(Rat.divInt t b).den<=b.natAbs:=by rw[Rat.den_divInt,if_neg h];exact Nat.div_le_self _ _
theorem M7{t b:Int}(h:b≠0):(Rat.divInt t b).num.natAbs<=t.natAbs:=by rw[<- HJ h];exact PySem.natAbs_fdiv_le _ _
theorem den_pos(q:Rat):0<q.den:=Nat.pos_of_ne_zero q.den_nz
theorem A2(p q:Rat):Rat.divInt (p.num*(q.den:Int)+q.num*(p.den:Int)) ((p.den:Int)*(q.den:Int))=p+q:=by have hp:=den_pos p;have hq:=den_pos q;have:=Rat.divInt_add_divInt p.num q.num (d₁:=(p.den:Int)) (d₂:=(q.den:Int)) xL xL;rw[aaL,aaL]at this;exact this.symm
theorem M8(p q:Rat):Rat.divInt (p.num*(q.den:Int)-q.num*(p.den:Int)) ((p.den:Int)*(q.den:Int))=p-q:=by have:=A2 p (-q);rw[aa4,<- this];simp only[Rat.neg_num,Rat.neg_den,Int.neg_mul,Int.sub_eq_add_neg]
def RB(n:Nat)(q:Rat):Prop:=q.num.natAbs<2^n/\q.den<2^n
theorem RB.mono{m n:Nat}{q:Rat}(h:RB m q)(hl:m<=n):RB n q:=⟨k5 h.1 (ZN xp hl),k5 h.2 (ZN xp hl)⟩
theorem RB.neg{n:Nat}{q:Rat}(h:RB n q):RB n (-q):=⟨by rw[Rat.neg_num,Int.natAbs_neg];exact h.1,by rw[Rat.neg_den];exact h.2⟩
theorem RB.bn{n:Nat}{q:Rat}(h:RB n q)(hl:n<=1000000):cI q.num:=k5 h.1 (ZN xp hl)
theorem RB.bd{n:Nat}{q:Rat}(h:RB n q)(hl:n<=1000000):cI (q.den:Int):=by unfold cI;rw[Z4];exact k5 h.2 (ZN xp hl)
theorem bc{a b m n:Nat}(h1:a<2^m)(h2:b<2^n):a*b<2^(m+n):=by rw[abJ];exact Nat.mul_lt_mul'' h1 h2
theorem RB.add{m n:Nat}{p q:Rat}(hp:RB m p)(hq:RB n q):RB (m+n+1) (p+q):=by
 have dp:=den_pos p;have dq:=den_pos q;have hne:((p.den:Int)*(q.den:Int))≠0:=abw xL xL;rw[<- A2 p q];have a1:=bc hp.1 hq.2;have a2:=bc hq.1 hp.2;have a3:=bc hp.2 hq.2;have e:(2:Nat)^(m+n+1)=2^(m+n)+2^(m+n):=by rw[Nat.pow_succ];omega
 rw[Nat.add_comm n m]at a2;constructor
 . refine ZS (M7 hne) ?_;refine ZS (Int.natAbs_add_le _ _) ?_;rw[aaV,aaV,Z4,Z4,e];omega
 . refine ZS (Eu hne) ?_;rw[aaV,Z4,Z4,e];omega
theorem F8(p q:Rat):(p+q).den<=p.den*q.den:=by have dp:=den_pos p;have dq:=den_pos q;have hne:((p.den:Int)*(q.den:Int))≠0:=abw xL xL;rw[<- A2 p q];have:=Eu (t:=p.num*(q.den:Int)+q.num*(p.den:Int)) hne;rw[aaV,Z4,Z4]at this;exact this
@[simp] theorem oR(i j:Int):Wp (.int i) (.int j)=decide (i=j):=by simp[Wp,Wo,PyData.eqv];by_cases h:i=j<;>simp[h]
@[simp] theorem Ot(i j:Str):Wp (.str i) (.str j)=decide (i=j):=by simp[Wp,Wo,PyData.eqv];by_cases h:i=j<;>simp[h]
@[simp] theorem Q7(i j:Bool):Wp (.bl i) (.bl j)=decide (i=j):=by simp[Wp,Wo,PyData.eqv];cases i<;>cases j<;>rfl
@[simp] theorem Ga(i:Int):dN (.int i):=rfl
@[simp] theorem HK(i:Bool):dN (.bl i):=rfl
@[simp] theorem Gb:dN .non:=rfl
mutual
noncomputable def WA:Nat->D->Bool
 |_,.non=>true
 |_,.bl _=>true
 |_,.int _=>true
 |_,.str x=>PyData.strOk x
 |0,.tup _=>false
 |0,.lst _=>false
 |n+1,.tup xs=>yh n xs
 |n+1,.lst xs=>yh n xs
 |_,.dct _=>false
 |_,.exc _ _ _=>false
 |_,.fn _ _=>false
 |_,.dk _ _=>false
 |_,.gf _=>false
noncomputable def yh:Nat->List D->Bool
 |_,[]=>true
 |n,x::xs=>WA n x && yh n xs
end
mutual
theorem uU:∀(n:Nat)(d:D),WA n d=true->(Wo d).canLay0=true/\(Wo d).depth<=n
 |_,.non,_=>⟨rfl,aaN _⟩
 |_,.bl _,_=>⟨rfl,aaN _⟩
 |_,.int _,_=>⟨rfl,aaN _⟩
 |_,.str x,h=>⟨by simpa[WA,Wo,PyData.canLay0]using h,aaN _⟩
 |0,.tup _,h=>by simp[WA]at h
 |0,.lst _,h=>by simp[WA]at h
 | n+1,.tup xs,h=>by
  obtain⟨h1,h2⟩:=yR n xs (by simpa[WA]using h)
  exact⟨h1,Nat.succ_le_succ h2⟩
 | n+1,.lst xs,h=>by
  obtain⟨h1,h2⟩:=yR n xs (by simpa[WA]using h)
  exact⟨h1,Nat.succ_le_succ h2⟩
 |_,.dct _,h=>by simp[WA]at h
 |_,.exc _ _ _,h=>by simp[WA]at h
 |_,.fn _ _,h=>by simp[WA]at h
 |_,.dk _ _,h=>by simp[WA]at h
 |_,.gf _,h=>by simp[WA]at h
theorem yR:∀(n:Nat)(ds:List D),yh n ds=true->PyData.canLayAll0 (gT ds)=true/\PyData.depthAll (gT ds)<=n
 |_,[],_=>⟨rfl,aaN _⟩
 | n,d::ds,h=>by
  have h':WA n d=true/\yh n ds=true:=by simpa[yh]using h
  obtain⟨a1,a2⟩:=uU n d h'.1
  obtain⟨b1,b2⟩:=yR n ds h'.2
  exact⟨by simp[gT,PyData.canLayAll0,a1,b1],by simp only[gT,PyData.depthAll];omega⟩
end
theorem bZ{n:Nat}{d:D}(h:WA n d=true)(hn:n<=64):dN d:=by obtain⟨h1,h2⟩:=uU n d h;unfold dN SeqAt.shaped;rw[h1,aaa xL];rfl
theorem CO(xs ys:List D):Wp (.tup xs) (.tup ys)=PyData.eqvAll (gT xs) (gT ys):=by simp[Wp,Wo,PyData.eqv]
theorem Ou(xs ys:List D):Wp (.lst xs) (.lst ys)=PyData.eqvAll (gT xs) (gT ys):=by simp[Wp,Wo,PyData.eqv]
theorem jI(x y:D)(xs ys:List D):PyData.eqvAll (gT (x::xs)) (gT (y::ys))=(Wp x y && PyData.eqvAll (gT xs) (gT ys)):=by simp[gT,PyData.eqvAll,Wp]
theorem yS:PyData.eqvAll (gT []) (gT [])=true:=by simp[gT,PyData.eqvAll]
theorem Ew{n:Nat}{d:D}(h:WA n d=true):Wp d d=true:=SeqAt.eqv_refl _ (uU n d h).1
theorem Ex(q:Rat):dN (Wz q):=bZ (n:=1) (by simp[Wz,WA,yh]) xp
theorem M9(p q:Rat):Wp (Wz p) (Wz q)=decide (p=q):=by
 unfold Wz;rw[CO,jI,jI,yS,oR,oR,Bool.and_true];by_cases h:p=q
 . subst h;simp
 .
  rw[ZP h];by_cases h1:p.num=q.num
  . have:¬((p.den:Int)=(q.den:Int)):=λe=>h (Rat.ext h1 xL);simp[this]
  . simp[h1]
end L2
namespace L2
open PySem PySem.Spec PyProof.Rows
section
variable{X:Cx}{a b c:Expr}{pos p:Pos}{ta tb tc:W L}
def uV(o o':Wd)(ta tb tc:W L):W L:=λZ js=>ta Z λr Z1=>tS r λi=>tb Z1 λr Z2=>tS r λj=>o (.int i) (.int j) λz=>FW z λk=>if k=true then tc Z2 λr Z3=>tS r λl=>o' (.int j) (.int l) λz=>js z Z3 else js (.d (.bl false)) Z2
def Sl(X:Cx)(op:CmpOp)(o:Wd):Prop:=∃f:Int->Int->Bool,VG X (compareOp op) (VJ λi j=>.bl (f i j))/\∀i j k,o (.int i) (.int j) k->k (.d (.bl (f i j)))
theorem K4:Sl X .Lt uR:=⟨_,Qy,λ_ _ _ h=>h⟩
theorem K5:Sl X .LtE Ht:=⟨_,Qz,λ_ _ _ h=>h⟩
theorem K6{op op':CmpOp}{o o':Wd}{f f':Int->Int->Bool}(h1:∀i j k,o (.int i) (.int j) k->k (.d (.bl (f i j))))(h2:∀i j k,o' (.int i) (.int j) k->k (.d (.bl (f' i j))))
  (σ:St) (H Pr:Hp) (Z:Ev) (js:L->Ev->Prop) (Q:VK) (hQ:∀v H' r Z',aJ X.K Pr H' (some v::σ) (r::Z')->js r Z'->Q v H') (E:aJ X.K Pr H σ Z) (h:uV o o' ta tb tc Z js) :
  MV (VJ λi j=>.bl (f i j)) (VJ λi j=>.bl (f' i j)) (tL X.K ta) (tL X.K tb) (tL X.K tc) σ H Q:=by
 refine⟨Pr,Z,_,E,h,λv H1 r Z1 E1 p=>?_⟩;obtain⟨i,rfl,p⟩:=gI p;obtain⟨_,e1,r1⟩:=E1.head_d;cases e1;obtain rfl:=V6.inv_int r1;refine⟨Pr,Z1,_,E1.tail,p,λv H2 r Z2 E2 p=>?_⟩;obtain⟨j,rfl,p⟩:=gI p;obtain⟨_,e1,r1⟩:=E2.head_d;cases e1;obtain rfl:=V6.inv_int r1;refine⟨i,j,rfl,rfl,f i j,rfl,?_⟩;have q:=h1 i j _ p
 cases hk:f i j with
 | false =>
  rw[hk]at q;exact hQ _ _ _ Z2 (E2.tail.cons_d (.bl false)) q
 | true =>
  rw[hk]at q;refine⟨Pr,Z2,_,E2.tail,q,λv H3 r Z3 E3 p=>?_⟩;obtain⟨l,rfl,p⟩:=gI p;obtain⟨_,e1,r1⟩:=E3.head_d;cases e1;obtain rfl:=V6.inv_int r1;exact⟨j,l,rfl,rfl,hQ _ _ _ Z3 (E3.tail.cons_d (.bl _)) (h2 j l _ p)⟩
theorem uq{op op':CmpOp}{o o':Wd}(ho:Sl X op o)(ho':Sl X op' o')(ha:PL X a ta)(hb:PL X b tb)(hc:PL X c tc)(hm:lastMarks [op,op'] [b,c]=false:=by with_unfolding_all rfl) :
  PL X (.Compare a [op,op'] [b,c] pos) (uV o o' ta tb tc):=by
 obtain⟨f,r1,h1⟩:=ho;obtain⟨f',r2,h2⟩:=ho';exact PL.of (KB r1 r2 ha.pe hb.pe hc.pe hm) λσ H Pr Z js E h=>K6 (op:=op) (op':=op') h1 h2 σ H Pr Z js _ (λv H' r Z' E' p=>⟨r,Z',E',p⟩) E h
end
end L2
namespace L2
open PySem PySem.Spec PyProof.Rows PySem.Builtin.Str
section
variable{X:Cx}{a:Expr}{pos p2:Pos}{ta:W L}{x:Str}
theorem Q8:VQ X (λx lo hi H Q=>∃z,x=.str z/\z.length<=sizeLine/\Q (.str (Txt.slice z lo hi)) H):=by
 intro ab s σ H x v vl vu lo hi sl Q I rx hs pl pu h;obtain⟨z,rfl,hz,q⟩:=h;obtain⟨t,rfl⟩:=rx;refine⟨"str",_,F.slot_str_getitem.lookup,typeIs_str _ _ _,?_⟩
 obtain⟨l',rfl,rfl⟩:∃l':Option (Int×Tok),vl=partValue l'/\lo=l'.map (·.1):=by
  cases pl
  . exact⟨none,rfl,rfl⟩
  . exact⟨some (_,_),rfl,rfl⟩
 obtain⟨u',rfl,rfl⟩:∃l':Option (Int×Tok),vu=partValue l'/\hi=l'.map (·.1):=by
  cases pu
  . exact⟨none,rfl,rfl⟩
  . exact⟨some (_,_),rfl,rfl⟩
 exact wpAny_getItem_str_slice (l:=l') (u:=u') (st:=none) hs rfl (post_val_or_str ⟨ZR (Txt.slice_le z _ _) hz,λt' k=>⟨.str _,H,I.tok k,⟨t',rfl⟩,q⟩⟩)
def SF(ta:W L)(lo hi:Option (W L)):W L:=λZ js=>ta Z λr Z1=>Wc r λd=>F6 lo Z1 λl Z2=>F6 hi Z2 λu Z3=>match d with
 |.lst xs=>∀a,js (.own a (HD xs l u)) Z3
 |.str z=>z.length<=sizeLine/\js (.d (.str (Txt.slice z l u))) Z3
 |.tup xs=>¬(HT.sIx xs.length 0 l=0/\HT.sIx xs.length xs.length u=xs.length)/\js (.d (.tup (HD xs l u))) Z3
 |_=>False
theorem HL{lo hi:Option Expr}{tl th:Option (W L)}(ha:PL X a ta)(hl:Wx X lo tl)(hh:Wx X hi th):PL X (.Subscript a (.Slice lo hi none p2) pos) (SF ta tl th):=by
 refine PL.of (KG (VQ.or NT (VQ.or Q8 QD)) (aA ha).pe (Q4 hl) (Q4 hh)) λσ H Pr Z js E h=>?_
 refine⟨Pr,Z,λr Z1=>match r with
  | .d d=>F6 tl Z1 λl Z2=>F6 th Z2 λu Z3=>match d with
   |.lst xs=>∀a,js (.own a (HD xs l u)) Z3
   |.str z=>z.length<=sizeLine/\js (.d (.str (Txt.slice z l u))) Z3
   |.tup xs=>¬(HT.sIx xs.length 0 l=0/\HT.sIx xs.length xs.length u=xs.length)/\js (.d (.tup (HD xs l u))) Z3
   |_=>False
  |_=>False,E,h,λv H1 r Z1 E1 pp=>?_⟩
 cases r with
 | d d =>
  obtain⟨_,e1,p1⟩:=E1.head_d;cases e1;refine⟨bD H1 Z1,Z1,_,E1.tail.wide,pp,λl H2 Z2 E2 pp=>?_⟩;have F2:aJ X.K Pr H2 (some v::σ) (.d d::Z2):=aJ.step (τ:=[some v]) (lam:=[.d d]) (w:=[]) (μ:=[]) E1 rfl E2 rfl;refine⟨bD H2 Z2,Z2,_,F2.tail.wide,pp,λu H3 Z3 E3 pp=>?_⟩;have F3:aJ X.K Pr H3 (some v::σ) (.d d::Z3):=aJ.step (τ:=[some v]) (lam:=[.d d]) (w:=[]) (μ:=[]) F2 rfl E3 rfl;obtain⟨_,e1,p1⟩:=F3.head_d;cases e1
  cases p1 with
  |lst hz rs=>exact .inl ⟨_,_,rfl,hz.l,λq hq=>⟨_,_,F3.tail.cons_own hq (A0 rs l u),pp q⟩⟩
  |str z=>exact .inr (.inl ⟨z,rfl,pp.1,_,_,F3.tail.cons_d (.str _),pp.2⟩)
  |tup hz rs=>exact .inr (.inr ⟨_,_,rfl,hz,by rw[rs.length];exact pp.1,λq hq=>⟨_,_,F3.tail.cons_tup hq (A0 rs l u),pp.2⟩⟩)
  |_=>exact pp.elim
 |_=>exact pp.elim
end
section
variable{X:Cx}{e a b c:Expr}{es:List Expr}{pos p apos:Pos}{x y:Str}
theorem Vr.turnedL{ab:List (Addr×Obj)}{σ:St}{H:Hp}{s:Shared}{h':Heap}{t':Nat}{fp:List Addr}(I:Vr X ab σ H s)(k:∀b o,b∉fp->s.heap.get? b=some o->h'.get? b=some o)(hf:∀b∈fp,G0 X ab H b):Vr X ab σ H {s with heap:=h',toks:=t' }:=by
 have nit:∀b u,H b=some u->b∉fp:=λb u e z=>by rw[(hf b z).1]at e;cases e
 refine I.step (g':=s.gens) (d':=s.drawn) (ch:=fp) (λb hb=>?_) (λb o _ _ hc e _=>k b o hc e) (λb o _ _ hc e _=>⟨o.slots,k b o hc e⟩) (λ_ _ _ _ n=>n)
  (λb o hc e=>⟨o,k b o hc e⟩) (λ_ _ e=>e) (λ_ _ _ e=>e) (λ_ _ e=>e) (λm hm=>?_) (λb u e=>?_) I.bare
 . obtain⟨f0,f1,f2,f3,f4,f5⟩:=hf b hb;exact⟨f3,f1,f4,f5⟩
 . obtain⟨o,es,ep,ho,r⟩:=hm;exact⟨o,es,ep,k _ o (λz=>(hf _ z).2.1 rfl) ho,r⟩
 .
  refine(I.hok b u e).stay (λc v hc q=>k c v ?_ q) (λ_ q=>q) (λ_ _ q=>q) λ_ _ _ _ q=>q;rcases hc with z|z
  . rw[z];exact nit b u e
  . exact nit c _ z
noncomputable def WB(K:W.Frag)(a:Addr):It :=
 ⟨λi H=>∃xs x,Vy K H a xs/\xs[i]?=some x,λi H v H'=>∃p x,v=.ref p/\H p=none/\H'=Vj H p (.tup [.int i,x])/\∀xs,Vy K H a xs->xs[i]?=some x,λi H=>∃xs,Vy K H a xs/\xs.length<=i⟩
theorem HM{P:Program}{w:World}{K:W.Frag}{k:Nat}(q it a:Addr)(hne:q≠it):NL P w K (.Tuple es k pos) (WB K a) [q,it] q (λi h=>(∃old,IsEnum h q it i old)/\h.IsListIter it a i) where
 mem:=by simp
 obj:=λi h st b hb=>by
  obtain⟨⟨old,he⟩,o,e,c,d⟩:=st;rcases ZU.mp hb with rfl|hb
  .
   exact⟨_,he,λv z=>by
    have z':Data.fields _=Data.cell v:=z
    cases z'⟩
  .
   have e':b=it:=by simpa using hb
   subst e';exact⟨o,e,λv z=>by rw[d]at z;cases z⟩
 keep:=λi h h' st kk=>⟨let ⟨old,he⟩:=st.1;⟨old,kk q x_ _ he⟩,st.2.at λo e=>kk it x_ o e⟩
 item:=by
  intro X hP hw hK hc i ab s σ H E I hf st hg;subst hP hw hK;obtain⟨xs,x,hq,hx⟩:=hg;obtain⟨its,rv,p,hz⟩:=I.list hq;obtain⟨u,hu,ru⟩:=rv.get hx;obtain⟨⟨old,he⟩,hit⟩:=st;have hai:a≠it:=λz=>by subst z;obtain⟨o,e,c,d⟩:=hit;obtain⟨o',e',c',_⟩:=p.isList;rw[e]at e';cases e';rw[c]at c';exact absurd c' x_
  have hqa:q≠a:=λz=>by subst z;obtain⟨o',e',c',_⟩:=p.isList;rw[he]at e';cases e';exact absurd c' x_
  have D:=Draws.list (prog:=X.prog) (w:=X.w) (A:=X.A.in1) (I.ok.hd hc) it a hai its.toArray;have hlt:i<its.toArray.size:=by rw[aab];exact(so.mp hu).1
  refine wpAny_pyNext_enum_itemD D he ⟨hit,p.isList⟩ hlt hne (by simp[hne,hqa]) λx' h' tk hPx hout hst' htup hsz hk=>?_
  have hx':x'=u:=by
   have:its.toArray[i]?=some u:=by simpa using hu
   rw[this]at hPx;exact(aaf hPx).symm
  subst hx';refine⟨.ref s.heap.objs.size,rfl,wpAny_letOwnedTupleGo_enum (s:={s with heap:=h',toks:=tk+1}) hout λh'' he'' hs''=>?_⟩;have qlt:q<s.heap.objs.size:=ZV he;have ilt:it<s.heap.objs.size:=by obtain⟨o,e,_⟩:=hit;exact ZV e
  have I1:Vr X ab σ (Vj H s.heap.objs.size (.tup [.int i,x])) {s with heap:=s.heap.push {cls:=.type "tuple",data:=.seq #[.int i tk,x'] },toks:=tk} :=
   I.laid (λb ob q=>ZO _ q) (ZY _) ⟨by show 2<=sizeLine;decide,[.int i tk,x'],.cons ⟨tk,rfl⟩ (.cons ru .nil),⟨_,aah _ rfl,rfl,_,rfl⟩⟩
  have hf1:∀b∈[q,it],G0 X ab (Vj H s.heap.objs.size (.tup [.int i,x])) b:=λb hb=>by
   refine⟨?_,(hf b hb).2⟩;rw[aH ?_]
   . exact(hf b hb).1
   .
    rcases ZU.mp hb with rfl|hb
    . exact aar qlt
    . rw[aaS.mp hb];exact aar ilt
  have I2:=I1.turnedL (h':=h'') (t':=tk+1) (fp:=[q,it]) (λb o hb e=>by
   have hbq:b≠q:=λz=>hb (by simp[z]);have hbi:b≠it:=λz=>hb (by simp[z]);refine(hs''.2 b hbq).trans ?_;rcases Heap.get?_push_cases e with⟨rfl,rfl⟩|e
   . exact htup
   .
    exact hk b o hbq hbi e) hf1
  refine⟨.ref s.heap.objs.size,_,I2,rfl,⟨_,x,rfl,I.fresh,rfl,λys hy=>by rw[I.list_inj hy hq];exact hx⟩,⟨⟨_,by simpa using he''⟩,hst'.1.extBut hs''.extBut (abe hne)⟩,λb hb=>(hf1 b hb).1⟩
 done:=by
  intro X hP hw hK hc i ab s σ H E I hf st hg;subst hP hw hK;obtain⟨xs,hq,hx⟩:=hg;obtain⟨its,rv,p,hz⟩:=I.list hq;obtain⟨⟨old,he⟩,hit⟩:=st;have hai:a≠it:=λz=>by subst z;obtain⟨o,e,c,d⟩:=hit;obtain⟨o',e',c',_⟩:=p.isList;rw[e]at e';cases e';rw[c]at c';exact absurd c' x_
  have hl:=rv.length;have hT:s.TypeIs (.ref q) "enumerate":=⟨_,he,rfl⟩;unfold pyNext
  refine ZQ (wpAny_attempt (wpAny_callSpecial?_slot (name:=Str.ofString "__next__") hT F.slot_enumerate_next
   (wpAny_call_entry F.slot_enumerate_next hT F.entry_enumerate_next ?_ (F.args_enumerate_next_1 _))))
  show wpAny _ _ (field (.ref q) 2 >>= _) _ _ _;refine ZQ (wpAny_field he rfl (x:=.ref it) rfl ?_);refine ZQ (wpAny_nextOf_list_end (I.ok.hd hc) hit p.isList (by simp;omega) λh' x he' hx'=>?_);obtain⟨o,ho,hcc⟩:=hx';refine ZQ (wpAny_isInstance (T:="StopIteration") (b:=true) ⟨o,ho,hcc⟩ isSubtype_stop ?_);refine aai ⟨rfl,?_⟩;exact I.turnedL (t':=s.toks) (fp:=[q,it]) (λb o hb e=>he' b o (λz=>hb (by simp[z])) e) hf
 self:=λ_ _ _ _ _ st h=>let ⟨_,he⟩:=st.1;wpAny_pyIter_enum he h
noncomputable def eG(xs:List D):List D:=xs.zipIdx.map λp=>.tup [.int (p.2:Int),p.1]
theorem Gc{K:W.Frag}{H:Hp}{a:Addr}{vs:List V}{xs:List D}(h:V5 K H a vs)(r:bV K H vs xs):FZ K H (WB K a) (eG xs):=λH' p=>by
 have h':=(h.pres p).l;have b0:(eG xs).length=vs.length:=by rw[r.length];simp[eG]
 refine⟨λi x e=>?_,⟨vs,h',by rw[b0];exact ZY _⟩⟩;have hi:i<vs.length:=by rw[<- b0];exact(so.mp e).1
 have hi2:i<xs.length:=by rw[<- r.length];exact hi
 have ex:x=.tup [.int (i:Int),xs[i]]:=by
  have:(eG xs)[i]?=some (.tup [.int (i:Int),xs[i]]):=by simp[eG,hi2]
  rw[this]at e;exact(aaf e).symm
 obtain⟨v,ev,rv⟩:=r.get (i:=i) (gV hi2);refine⟨⟨vs,v,h',ev⟩,λw H2 ⟨q,y,e1,e2,e3,e4⟩=>?_⟩;have e5:=e4 vs h';rw[ev]at e5;cases e5;subst e1 e3 ex;refine⟨.inr ⟨_,_,e2,rfl⟩,.tup (.inl (.inl (bu ..))) (.cons (.int _) (.cons ((rv.pres p).new e2) .nil))⟩
def xr(t:W L):W (List D):=λZ js=>t Z λr Z1=>Wc r λd=>match d with
 |.lst xs=>js (eG xs) Z1
 |_=>False
theorem iL{k:Nat}{t:W L} (hg:Gl X "enumerate") (hm:X.mg "enumerate"=none) (ha:PL X a t) (hs:starEach [a] X.env=[(false,eval a X.env)]:=by rfl):Wn X (.Tuple es k apos) (.Call (.Name "enumerate" p) [a] [] pos) (xr t):=by
 intro ab s σ H Pr Z js I E h
 refine Call_ (p9 I hg hm boot_enumerate (abk (Vv (aa (aA ha) af hs pos ab s σ H Pr Z (λls Z1=>match ls with
  |[.d (.lst xs)]=>js (eG xs) Z1
  |_=>False) I E ?_) λus s1 h_=>h_.on λvs H1 ls Z1 I1 r1 hl hb E1 _ q1=>?_) hs rfl))
 .
  show t Z _
  have e:(λr Z1=>Wc r λd=>match d with | .lst xs=>js (eG xs) Z1|_=>False)=(λr Z1=>Wc r λx=>aC Z1 λxs Z2=>match L.d x::xs with | [.d (.lst xs)]=>js (eG xs) Z2|_=>False):=by
   funext r Z1
   cases r with
   |un=>rfl
   |d d=>cases d<;>rfl
   |own=>rfl
   | bx b ls =>
    show ft (bJ (.bx b ls)) _=ft (bJ (.bx b ls)) _
    cases bJ (.bx b ls)with
    |none=>rfl
    |some d=>cases d<;>rfl
   |dic b ls=>rfl
  rw[<- e];exact h
 .
  (try dsimp only at q1)
  split at q1
  .
   rename_i xs
   cases vs with
   |nil=>exact absurd hl x_
   | cons v vs =>
    have:vs=[]:=by
     have:vs.length=0:=by simpa using hl
     exact abu.mp this
    subst this;obtain⟨_,e1,p1⟩:=aJ.head_d (σ:=σ) (Z:=Z1) E1;cases e1;obtain⟨_,_,rfl,hz,rs⟩:=V6.inv_lst p1;obtain⟨u,rfl,ru⟩:=r1.one;cases ru;obtain⟨its,rv,pl,hz'⟩:=I1.list hz.l;refine call_enumerate_list pl.isList λh' hE hI hsz hk=>?_;refine wpAny_pyIter_enum (s:={s1 with heap:=h' }) hE ?_;have E2:aJ X.K Pr H1 σ Z1:=aJ.tail (σ:=σ) (Z:=Z1) E1;refine⟨s1.heap.objs.size+1,[s1.heap.objs.size+1,s1.heap.objs.size],_,_,H1,_,Z1,rfl,I1.kept (t':=s1.toks) hk,HM _ _ _ (Nat.succ_ne_self _),⟨⟨_,hE⟩,hI⟩,λb hb=>?_,E2,Gc hz rs,q1⟩
    have hb':s1.heap.objs.size<=b:=by
     rcases ZU.mp hb with rfl|hb
     . exact Nat.le_succ _
     . rw[aaS.mp hb];exact ZY _
    exact I1.fpOk hb' (I1.hok.fresh hb')
  . exact q1.elim
end
section
variable{X:Cx}{e a b:Expr}{es:List Expr}{pos p p2 apos:Pos}{x y:Str}
noncomputable def WC(K:W.Frag)(a b:Addr):It :=
 ⟨λi H=>∃xs ys x y,Vy K H a xs/\Vy K H b ys/\xs[i]?=some x/\ys[i]?=some y,λi H v H'=>∃p x y,v=.ref p/\H p=none/\H'=Vj H p (.tup [x,y])/\(∀xs,Vy K H a xs->xs[i]?=some x)/\∀ys,Vy K H b ys->ys[i]?=some y,
  λi H=>∃xs ys,Vy K H a xs/\Vy K H b ys/\(xs.length<=i∨ys.length<=i)⟩
theorem dD{h:Heap}{l a:Addr}{its:Array Value}{o:Obj}(hl:h.IsList l its)(ho:h.get? a=some o) (hc:o.cls≠.type "list"):l≠a:=λz=>by subst z;obtain⟨o',e',c',_⟩:=hl;rw[ho]at e';cases e';exact hc c'
theorem K7{P:Program}{w:World}{K:W.Frag}{k:Nat}(z TI TO i1 i2 l1 l2:Addr)(hnd:[z,TI,TO,i1,i2].Nodup):NL P w K (.Tuple es k pos) (WC K l1 l2) [z,TI,TO,i1,i2] z
  (λi h=>IsZip h z TI TO .none/\IsPair h TI (.ref i1) (.ref i2)/\(∃a b,IsPair h TO a b)/\h.IsListIter i1 l1 i/\h.IsListIter i2 l2 i) where
 mem:=by simp
 obj:=λi h st b hb=>by
  obtain⟨hz,hTI,⟨p,q,hTO⟩,⟨o1,e1,c1,d1⟩,⟨o2,e2,c2,d2⟩⟩:=st;simp only[ZU,abA,or_false]at hb;rcases hb with rfl|rfl|rfl|rfl|rfl
  .
   exact⟨_,hz,λv z=>by
    have z':Data.fields _=Data.cell v:=z
    cases z'⟩
  .
   exact⟨_,hTI,λv z=>by
    have z':Data.seq _ _=Data.cell v:=z
    cases z'⟩
  .
   exact⟨_,hTO,λv z=>by
    have z':Data.seq _ _=Data.cell v:=z
    cases z'⟩
  . exact⟨o1,e1,λv z=>by rw[d1]at z;cases z⟩
  . exact⟨o2,e2,λv z=>by rw[d2]at z;cases z⟩
 keep:=λi h h' st kk=>by obtain⟨hz,hTI,⟨p,q,hTO⟩,h1,h2⟩:=st;exact⟨kk z x_ _ hz,kk TI x_ _ hTI,⟨p,q,kk TO x_ _ hTO⟩,h1.at λo e=>kk i1 x_ o e,h2.at λo e=>kk i2 x_ o e⟩
 item:=by
  intro X hP hw hK hc i ab s σ H E I hf st hg;subst hP hw hK;obtain⟨xs,ys,x,y,hq1,hq2,hx,hy⟩:=hg;obtain⟨its,rv,pl,_⟩:=I.list hq1;obtain⟨its2,rv2,pl2,_⟩:=I.list hq2;obtain⟨u,hu,ru⟩:=rv.get hx;obtain⟨u2,hu2,ru2⟩:=rv2.get hy;obtain⟨hz,hTI,⟨p,q,hTO⟩,h1,h2⟩:=st;obtain⟨o1,e1,c1,d1⟩:=id h1;obtain⟨o2,e2,c2,d2⟩:=id h2;have n1:o1.cls≠.type "list":=by rw[c1]; simp
  have n2:o2.cls≠.type "list":=by rw[c2]; simp
  simp only[aav,ZU,abA,or_false,not_or,List.nodup_nil,and_true,not_false_eq_true]at hnd;obtain⟨⟨a1,a2,a3,a4⟩,⟨b1,b2,b3⟩,⟨c1',c2'⟩,d1'⟩:=hnd
  have D:ZipApart z TI TO i1 i2 l1 l2:=⟨abe a1,abe a2,abe a3,abe a4,b1,b2,b3,c1',c2',d1',dD pl.isList hz x_,dD pl.isList hTO x_,dD pl.isList e1 n1,dD pl.isList e2 n2,
   dD pl2.isList hz x_,dD pl2.isList hTO x_,dD pl2.isList e1 n1,dD pl2.isList e2 n2⟩
  refine wpAny_pyNext_zip_item D hz hTI hTO h1 h2 pl.isList pl2.isList (x:=u) (y:=u2) (by simpa using hu) (by simpa using hu2) λh' hz' hTO' h1' h2' hT' hsz hk=>?_;refine⟨.ref s.heap.objs.size,rfl,wpAny_letOwnedTupleGo_zip (s:={s with heap:=h' }) hz' λh'' hz'' hs''=>?_⟩
  have lt:∀b∈[z,TI,TO,i1,i2],b<s.heap.objs.size:=λb hb=>by
   simp only[ZU,abA,or_false]at hb;rcases hb with rfl|rfl|rfl|rfl|rfl
   . exact ZV hz
   . exact ZV hTI
   . exact ZV hTO
   . exact ZV e1
   . exact ZV e2
  have I1:Vr X ab σ (Vj H s.heap.objs.size (.tup [x,y])) {s with heap:=s.heap.push {cls:=.type "tuple",data:=.seq #[u,u2] },toks:=s.toks} :=
   I.laid (λb ob q=>ZO _ q) (ZY _) ⟨by show 2<=sizeLine;decide,[u,u2],.cons ru (.cons ru2 .nil),⟨_,aah _ rfl,rfl,_,rfl⟩⟩
  have hf1:∀b∈[z,TI,TO,i1,i2],G0 X ab (Vj H s.heap.objs.size (.tup [x,y])) b:=λb hb=>by refine⟨?_,(hf b hb).2⟩;rw[aH (aar (lt b hb))];exact(hf b hb).1
  have I2:=I1.turnedL (h':=h'') (t':=s.toks) (fp:=[z,TI,TO,i1,i2]) (λb o hb e=>by
   simp only[ZU,abA,or_false,not_or]at hb;obtain⟨hbz,hbTI,hbTO,hb1,hb2⟩:=hb;refine(hs''.2 b hbz).trans ?_;rcases Heap.get?_push_cases e with⟨rfl,rfl⟩|e
   . exact hT'
   .
    exact hk b o hbz hbTO hb1 hb2 e) hf1
  exact⟨.ref s.heap.objs.size,_,I2,rfl,⟨_,x,y,rfl,I.fresh,rfl,λzs hy'=>by rw[I.list_inj hy' hq1];exact hx,λzs hy'=>by rw[I.list_inj hy' hq2];exact hy⟩,
   ⟨hz'',hs''.extBut _ _ D.TIz (hk _ _ D.TIz D.TITO D.TIi1 D.TIi2 hTI),⟨_,_,hs''.extBut _ _ D.TOz hTO'⟩,h1'.extBut hs''.extBut D.i1z,h2'.extBut hs''.extBut D.i2z⟩,λb hb=>(hf1 b hb).1⟩
 done:=by
  intro X hP hw hK hc i ab s σ H E I hf st hg;subst hP hw hK;obtain⟨xs,ys,hq1,hq2,hend⟩:=hg;obtain⟨its,rv,pl,_⟩:=I.list hq1;obtain⟨its2,rv2,pl2,_⟩:=I.list hq2;obtain⟨hz,hTI,⟨p,q,hTO⟩,h1,h2⟩:=st;obtain⟨o1,e1,c1,d1⟩:=id h1;obtain⟨o2,e2,c2,d2⟩:=id h2;have n1:o1.cls≠.type "list":=by rw[c1]; simp
  have n2:o2.cls≠.type "list":=by rw[c2]; simp
  simp only[aav,ZU,abA,or_false,not_or,List.nodup_nil,and_true,not_false_eq_true]at hnd;obtain⟨⟨a1,a2,a3,a4⟩,⟨b1,b2,b3⟩,⟨c1',c2'⟩,d1'⟩:=hnd
  have D:ZipApart z TI TO i1 i2 l1 l2:=⟨abe a1,abe a2,abe a3,abe a4,b1,b2,b3,c1',c2',d1',dD pl.isList hz x_,dD pl.isList hTO x_,dD pl.isList e1 n1,dD pl.isList e2 n2,
   dD pl2.isList hz x_,dD pl2.isList hTO x_,dD pl2.isList e1 n1,dD pl2.isList e2 n2⟩
  have hl:=rv.length;have hl2:=rv2.length
  have hend':its.toArray[i]?=none∨its2.toArray[i]?=none:=by
   rcases hend with h|h
   . exact .inl (by simp;omega)
   . exact .inr (by simp;omega)
  refine wpAny_pyNext_zip_end (I.ok.hd hc) D hz hTI hTO h1 h2 pl.isList pl2.isList hend' λh' hk=>⟨rfl,?_⟩;exact I.turnedL (t':=s.toks) (fp:=[z,TI,TO,i1,i2]) (λb o hb e=>hk b o (λz=>hb (by simp[z])) (λz=>hb (by simp[z])) (λz=>hb (by simp[z])) (λz=>hb (by simp[z])) e) hf
 self:=λ_ _ _ _ _ st h=>wpAny_pyIter_zip st.1 h
noncomputable def Gd(xs ys:List D):List D:=(xs.zip ys).map λp=>.tup [p.1,p.2]
theorem HN{K:W.Frag}{H:Hp}{a b:Addr}{vs ws:List V}{xs ys:List D}(h:V5 K H a vs)(r:bV K H vs xs)(h2:V5 K H b ws)(r2:bV K H ws ys):FZ K H (WC K a b) (Gd xs ys):=λH' p=>by
 have h':=(h.pres p).l;have h2':=(h2.pres p).l;have b0:(Gd xs ys).length=min vs.length ws.length:=by rw[r.length,r2.length];simp[Gd]
 refine⟨λi x e=>?_,⟨vs,ws,h',h2',by rw[b0];omega⟩⟩;have hi:i<min vs.length ws.length:=by rw[<- b0];exact(so.mp e).1
 have hi2:i<xs.length:=by rw[<- r.length];omega
 have hi3:i<ys.length:=by rw[<- r2.length];omega
 have ex:x=.tup [xs[i],ys[i]]:=by
  have:(Gd xs ys)[i]?=some (.tup [xs[i],ys[i]]):=by simp[Gd,hi2,hi3,List.getElem?_zip_eq_some]
  rw[this]at e;exact(aaf e).symm
 obtain⟨v,ev,rv⟩:=r.get (i:=i) (gV hi2);obtain⟨v2,ev2,rv2⟩:=r2.get (i:=i) (gV hi3);refine⟨⟨vs,ws,v,v2,h',h2',ev,ev2⟩,λw H2 ⟨q,y,y2,e1,e2,e3,e4,e5⟩=>?_⟩;have e6:=e4 vs h';have e7:=e5 ws h2';rw[ev]at e6;rw[ev2]at e7;cases e6;cases e7;subst e1 e3 ex;refine⟨.inr ⟨_,_,e2,rfl⟩,.tup (.inl (.inl (bu ..))) (.cons ((rv.pres p).new e2) (.cons ((rv2.pres p).new e2) .nil))⟩
def Qf(d d2:D)(k:List D->Prop):Prop:=match d,d2 with
 |.lst xs,.lst ys=>k (Gd xs ys)
 |_,_=>False
def Q9(t u:W L):W (List D):=λZ js=>t Z λr Z1=>Wc r λd=>u Z1 λr2 Z2=>Wc r2 λd2=>Qf d d2 λzs=>js zs Z2
theorem CP{k:Nat}{t u:W L} (hg:Gl X "zip") (hm:X.mg "zip"=none) (ha:PL X a t) (hb:PL X b u) (hs:starEach [a,b] X.env=[(false,eval a X.env),(false,eval b X.env)]:=by rfl) (hs2:starEach [b] X.env=[(false,eval b X.env)]:=by rfl) :
  Wn X (.Tuple es k apos) (.Call (.Name "zip" p) [a,b] [] pos) (Q9 t u):=by
 intro ab s σ H Pr Z js I E h
 refine Call_ (p9 I hg hm boot_zip (abk (Vv (aa (aA ha) (aa (aA hb) af hs2) (by rw[hs,hs2]) pos ab s σ H Pr Z (λls Z1=>match ls with
  |[.d d,.d d2]=>Qf d d2 λzs=>js zs Z1
  |_=>False) I E ?_) λus s1 h_=>h_.on λvs H1 ls Z1 I1 r1 hl hb E1 _ q1=>?_) (by rw[hs,hs2]) (by rw[hs2];rfl)))
 .
  show t Z _
  have e:(λr Z1=>Wc r λd=>u Z1 λr2 Z2=>Wc r2 λd2=>Qf d d2 λzs=>js zs Z2)
    = (λr Z1=>Wc r λx=>aq (bz u) aC Z1 λxs Z2=>match L.d x::xs with | [.d d,.d d2]=>Qf d d2 λzs=>js zs Z2|_=>False):=by
   funext r Z1
   cases r with
   |un=>rfl
   |d d=>rfl
   |own a xs=>rfl
   | bx b ls =>
    show ft (bJ (.bx b ls)) _=ft (bJ (.bx b ls)) _;cases bJ (.bx b ls)<;>rfl
   |dic b ls=>rfl
  rw[<- e];exact h
 .
  (try dsimp only at q1)
  split at q1
  .
   rename_i d d2;unfold Qf at q1;split at q1
   rotate_left
   . exact q1.elim
   rename_i xs ys
   match vs,hl with
   | [v,v2],_ =>
    obtain⟨_,e1,p1⟩:=aJ.head_d (σ:=some v2::σ) (Z:=.d (.lst ys)::Z1) E1;cases e1;obtain⟨_,e1,p2⟩:=aJ.head_d (σ:=σ) (Z:=Z1) (aJ.tail (σ:=some v2::σ) (Z:=.d (.lst ys)::Z1) E1);cases e1;obtain⟨_,_,rfl,hz,rs⟩:=V6.inv_lst p1
    cases p2 with
    | lst hz2 rs2 =>
     obtain⟨u1,u2,rfl,ru,ru2⟩:=r1.two;cases ru;cases ru2;obtain⟨its,rv,pl,_⟩:=I1.list hz.l;obtain⟨its2,rv2,pl2,_⟩:=I1.list hz2.l;refine call_zip_2 pl.isList pl2.isList λh' hZ hTI hTO hI1 hI2 hsz hk=>?_;refine wpAny_pyIter_zip (s:={s1 with heap:=h' }) hZ ?_;have E1':aJ X.K Pr H1 (some _::some _::σ) (.d _::.d _::Z1):=E1;have E2:aJ X.K Pr H1 σ Z1:=E1'.tail.tail;refine⟨s1.heap.objs.size+4,[s1.heap.objs.size+4,s1.heap.objs.size+2,s1.heap.objs.size+3,s1.heap.objs.size,s1.heap.objs.size+1],_,_,H1,_,Z1,rfl,I1.kept (t':=s1.toks) hk,K7 _ _ _ _ _ _ _ x_,⟨hZ,hTI,⟨_,_,hTO⟩,hI1,hI2⟩,λb hb=>?_,E2,HN hz rs hz2 rs2,q1⟩
     have hb':s1.heap.objs.size<=b:=by
      simp only[ZU,abA,or_false]at hb;rcases hb with rfl|rfl|rfl|rfl|rfl
      . exact aba _ _
      . exact aba _ _
      . exact aba _ _
      . exact ZY _
      . exact aba _ _
     exact I1.fpOk hb' (I1.hok.fresh hb')
  . exact q1.elim
end
section
variable{X:Cx}{e a:Expr}{es:List Expr}{pos p apos cpos:Pos}{te:W L}{x:Str}
def Sm(X:Cx)(es:List Expr)(n:Nat)(is:List Nat):Prop:=∃gg:VA,VB X es gg/\es.length=is.length/\∀vs σ H Pr Z xs k,σ.length=X.N.length->aJ X.K Pr H σ Z->bV X.K H vs xs->j7 is xs Z k->gg vs σ H λσ' H'=>H'=H/\σ'.drop n=σ.drop n/\∃Z',aJ X.K Pr H σ' Z'/\k Z'
theorem uW{n:Nat}:Sm X [] n []:=⟨_,GZ,rfl,λvs σ H Pr Z xs k hl E r h=>by
 cases r with
 |nil=>exact⟨rfl,rfl,rfl,Z,E,h⟩
 |cons _ _=>exact h.elim⟩
theorem dQ{i n:Nat}{is:List Nat}{x:Str}(hn:i<n)(hN:X.N.Nodup)(hi:X.N[i]?=some x)(hx:Vq X.env.scope x)(hr:Sm X es n is)(hf:X.fn x=true∨X.env.scope.names.lookup x=some .local:=by first|exact .inl rfl|exact .inr rfl|assumption)
  (hs:(assignEach (.Name x pos::es) X.env).map (·.2)=assign (.Name x pos) X.env::(assignEach es X.env).map (·.2):=by rfl):Sm X (.Name x pos::es) n (i::is):=by
 obtain⟨gg,hg,b0,q⟩:=hr;refine⟨_,Ea (yH hN hi hx hf) hg hs,by simp[b0],λvs σ H Pr Z xs k hl E r h=>?_⟩
 cases r with
 |nil=>exact h.elim
 | cons r0 t =>
  refine⟨_,_,rfl,?_⟩;have:=q _ (σ.set i (some _)) H Pr _ _ k (by simpa using hl) ((E.cons_d r0).store (by rw[hl];exact(so.mp hi).1)) t h;rw[List.drop_set_of_lt hn]at this;exact this
theorem A3{is:List Nat}{k n:Nat}(hc:X.calm=true)(h:Sm X es n is)(hn:(assignEach es X.env).length=is.length:=by rfl)(hst:(assignEach es X.env).findIdx? (·.1)=none:=by rfl):Wt X (.Tuple es k pos) n (eF is):=by
 obtain⟨gg,hg,b0,q⟩:=h;refine⟨_,MT hc hg hn hst,λv σ H Pr Z x k hl E r h=>?_⟩
 cases r with
 |tup hs rs=>exact⟨_,_,rfl,hs,by rw[rs.length];exact oK h,q _ σ H Pr Z _ k hl E rs h⟩
 |_=>exact h.elim
def SG(i:Nat)(te:W L):W L:=λZ js=>Cq i Z λ_ _=>te Z λr Z1=>match r with
 |.own _ ys=>Cq i Z1 λa xs=>xs.length+ys.length<=sizeLine/\js (.d .non) (Z1.set i (.own a (xs++ys)))
 |_=>False
theorem HP(i:Nat)(he:PL X e te)(hN:X.N[i]?=some x:=by rfl)(hv:Vp X.env.scope x:=by first | exact Or.inl rfl | exact Or.inr (Or.inl rfl) | exact Or.inr (Or.inr rfl)) (hd:aet x:=by decide)
  (hcd:aeu x:=by decide) (hs1:starEach [e] X.env=[(false,eval e X.env)]:=by rfl) (hbase:attributeBase (.Name x p) "extend" X.env (eval (.Name x p) X.env)=eval (.Name x p) X.env:=by rfl)
  (hfew:((backTo cpos (starEach [e] X.env)).all (λx=>!x.1) && (backToKw cpos (keywordEach [] X.env)).all (λx=>x.1.isSome)
   && decide (([e]).length+([]:List Keyword).length+(if([]:List Keyword).isEmpty then 0 else 1)<30))=true:=by rfl)
  (hline:(apos.endLine == cpos.line)=true:=by rfl) (hplain:(backTo cpos (starEach ([]:List Expr) X.env)).any (·.1)=false:=by rfl) :
  PL X (.Call (.Attribute (.Name x p) "extend" apos) [e] [] cpos) (SG i te):=by
 refine PL.of (QI PySem.F.plainAttrs_list PySem.F.slot_list_extend PySem.F.type_list_extend He (ly hN hv hd hcd) (je he.pe uG hs1) (hbase:=hbase) (hfew:=hfew) (hline:=hline) (hs:=hs1) (hplain:=hplain)) λσ H Pr Z js E h=>?_;obtain⟨l,xs0,q0,h⟩:=j9 h;obtain⟨hσ,vs0,hl0,_⟩:=E.ownAt q0
 refine⟨.ref l,hσ,.inl ⟨rfl,vs0,Vy.of hl0⟩,Pr,Z,λr Z1=>match r with
  |.own _ ys=>Cq i Z1 λa xs=>xs.length+ys.length<=sizeLine/\js (.d .non) (Z1.set i (.own a (xs++ys)))
  |_=>False,E,h,λv H' r Z' E' pp=>?_⟩
 cases r with
 | own bb ys =>
  obtain⟨l',xs,q,b0,pp⟩:=j9 pp;obtain⟨hσ',vs,hl,r⟩:=E'.tail.ownAt q;rw[hσ]at hσ';cases hσ';have sl:=E'.sl
  cases sl with
  | cons q0 t =>
   obtain⟨e1,ws,hb,rw'⟩:=q0;cases e1;exact⟨l,bb,vs,ws,rfl,rfl,hl,hb,by rw[r.length,rw'.length];exact b0,_,_,(E'.tail.updOwn q (r.append rw')).cons_d .non,pp⟩
 |_=>exact pp.elim
end
end L2
namespace L2
open PySem PySem.Spec PyProof.Rows
mutual
noncomputable def WD:D->Bool
 |.lst _=>false
 |.dct _=>false
 |.exc _ _ _=>false
 |.fn _ _=>false
 |.dk _ _=>false
 |.gf _=>false
 |.tup xs=>yT xs
 |_=>true
noncomputable def yT:List D->Bool
 |[]=>true
 |x::xs=>WD x && yT xs
end
mutual
noncomputable def nV:L->Bool
 |.un=>true
 |.d x=>WD x
 |.own _ xs=>yT xs
 |.bx _ ls=>uX ls
 |.dic _ kvs=>kvs.all λp=>WD p.2
noncomputable def uX:List L->Bool
 |[]=>true
 |l::ls=>nV l && uX ls
end
theorem CQ:nV .un=true:=by simp[nV]
theorem Ra(x:D):nV (.d x)=WD x:=by simp[nV]
theorem K8(a:Addr)(xs:List D):nV (.own a xs)=yT xs:=by simp[nV]
theorem Ov(a:Option Addr)(ls:List L):nV (.bx a ls)=uX ls:=by simp[nV]
theorem K9(a:Addr)(kvs:List (Vi×D)):nV (.dic a kvs)=kvs.all λp=>WD p.2:=by simp[nV]
theorem HQ:uX []=true:=by simp[uX]
theorem Ge(l:L)(ls:List L):uX (l::ls)=(nV l && uX ls):=by simp[uX]
section
variable{X:Cx}{ab:List (Addr×Obj)}{σ:St}{H:Hp}{s:Shared}
theorem Vr.thaw{a:Addr}{o:Obj}{xs:List V}(I:Vr X ab σ H s)(h:H a=some (.frz o (.lst xs)))(h0:∀o u,X.H₀ a≠some (.frz o u)):Vr X ab σ (Vj H a (.lst xs)) s:=by
 have ne:∀b,H b=none->b≠a:=λb n e=>by subst e;rw[h]at n;cases n
 have nt:∀b xs,H b=some (.tup xs)->b≠a:=λb xs n e=>by subst e;rw[h]at n;cases n
 have no:∀b z,H b=some (.own z)->b≠a:=λb z n e=>by subst e;rw[h]at n;cases n
 have nf:∀b o,H b=some (.frz o (.own b))->b≠a:=λb o n e=>by subst e;rw[h]at n;cases n
 have nw:=(I.hok a _ h).2;refine⟨I.ok,I.os,I.bare,⟨I.base.keep,I.base.slot,λb ob e n hx=>?_,I.base.there,λb xs e=>?_,λb ob z e=>?_,λb ps e=>?_⟩,I.loc,I.cell,?_,λx c e=>?_,λp hp=>?_,λb z e=>?_,I.len⟩
 . have q:=I.base.free b ob e n hx;rw[aH (ne b q)];exact q
 . have q:=I.base.tups b xs e;rw[aH (nt b xs q)];exact q
 . have q:=I.base.frzs b ob z e;rw[aH (λy=>by subst y;exact h0 _ _ e)];exact q
 . have q:=I.base.tbls b ps e;rw[aH (λz=>by subst z;rw[h]at q;cases q)];exact q
 . rw[aH (ne _ I.free)];exact I.free
 .
  rcases I.freeC x c e with z|⟨hf,o,z⟩
  . exact .inl (by rw[aH (ne _ z)];exact z)
  . exact .inr ⟨hf,o,by rw[aH (nf _ _ z)];exact z⟩
 . obtain⟨e,n,r⟩:=I.pin p hp;exact⟨e,by rw[aH (ne _ n)];exact n,r⟩
 .
  by_cases hb:b=a
  . subst hb;rw[bu]at e;cases e;exact nw.stay (λc v _ q=>q) (λc q=>by rw[aH (no c _ q)];exact q) (λc xs q=>by rw[aH (nt c xs q)];exact q) λc ob _ _ q=>by rw[aH (nf c ob q)];exact q
  . rw[aH hb]at e;exact(I.hok b z e).stay (λc v _ q=>q) (λc q=>by rw[aH (no c _ q)];exact q) (λc xs q=>by rw[aH (nt c xs q)];exact q) λc ob _ _ q=>by rw[aH (nf c ob q)];exact q
end
def nW(H' H2:Hp)(S:List Addr):Prop:=(∀b,b∉S->H2 b=H' b)/\(∀a∈S,∃o vs,H' a=some (.frz o (.lst vs))/\H2 a=some (.lst vs))
theorem HR{X:Cx}{ab:List (Addr×Obj)}{σ:St}{s:Shared}:∀(S:List Addr){H:Hp},S.Nodup->Vr X ab σ H s->(∀a∈S,∃o vs,H a=some (.frz o (.lst vs)))->(∀a∈S,∀o u,X.H₀ a≠some (.frz o u))->∃H2,Vr X ab σ H2 s/\nW H H2 S
 |[],H,_,I,_,_=>⟨H,I,λ_ _=>rfl,λ_ h=>by simp at h⟩
 | a::S,H,nd,I,h,h0=>by
  obtain⟨na,nd⟩:=aav.mp nd;obtain⟨o,vs,ea⟩:=h a k4;have I1:=I.thaw ea (h0 a k4)
  obtain⟨H2,I2,T1,T2⟩:=HR S nd I1 (λb hb=>by
   obtain⟨o,us,e⟩:=h b (fI _ hb)
   exact⟨o,us,by rw[aH (λz:b=a=>na (by rw[<- z];exact hb))];exact e⟩) λb hb=>h0 b (fI _ hb)
  refine⟨H2,I2,λb hb=>?_,λb hb=>?_⟩
  . rw[T1 b (λz=>hb (fI _ z)),aH (λz:b=a=>hb (by rw[z];exact k4))]
  .
   rcases ZU.mp hb with rfl|hb
   . exact⟨o,vs,ea,by rw[T1 b na,bu]⟩
   . obtain⟨o',us,e1,e2⟩:=T2 b hb;rw[aH (λz:b=a=>na (by rw[<- z];exact hb))]at e1;exact⟨o',us,e1,e2⟩
section
variable{K:W.Frag}{H' H2:Hp}{S:List Addr}
mutual
theorem V6.lite{K:W.Frag}{H H':Hp}(k:∀b xs,H b=some (.tup xs)->H' b=some (.tup xs))(k2:∀b o xs,H b=some (.frz o (.tup xs))->H' b=some (.frz o (.tup xs))):∀{v:V}{d:D},WD d=true->V6 K H v d->V6 K H' v d
 |_,_,_,.non=>.non
 |_,_,_,.bl b=>.bl b
 |_,_,_,.int i=>.int i
 |_,_,_,.str x=>.str x
 | _,_,h,.tup hs r=>.tup (by
   rcases hs with(e|⟨o,e⟩)|e
   .
    exact .inl (.inl (k _ _ e))
   .
    exact .inl (.inr ⟨o,k2 _ _ _ e⟩)
   .
    exact .inr e) (bV.lite k k2 (by simpa[WD]using h) r)
 |_,_,h,.lst _ _=>nomatch h
 |_,_,h,.dct _=>nomatch h
 |_,_,h,.exc _ _ _ _ _ _ _ _=>nomatch h
 |_,_,h,.fn _ _ _ _ _ _ _ _ _=>nomatch h
 |_,_,h,.dk _ _=>nomatch h
 |_,_,h,.gf _ _ _=>nomatch h
theorem bV.lite{K:W.Frag}{H H':Hp}(k:∀b xs,H b=some (.tup xs)->H' b=some (.tup xs))(k2:∀b o xs,H b=some (.frz o (.tup xs))->H' b=some (.frz o (.tup xs))):∀{vs:List V}{ds:List D},yT ds=true->bV K H vs ds->bV K H' vs ds
 |_,_,_,.nil=>.nil
 | _,_,h,.cons r t=>by
  simp only[yT,Z5]at h
  exact .cons (V6.lite k k2 h.1 r) (bV.lite k k2 h.2 t)
end
theorem V6.thaw(T:nW H' H2 S){v:V}{d:D}(h:WD d=true)(r:V6 K H' v d):V6 K H2 v d :=
 r.lite (λb xs e=>by rw[T.1 _ λz=>by obtain⟨o,vs,e1,_⟩:=T.2 _ z;rw[e1]at e;cases e];exact e) (λb u xs e=>by rw[T.1 _ λz=>by obtain⟨o,vs,e1,_⟩:=T.2 _ z;rw[e1]at e;cases e];exact e) h
theorem bV.thaw(T:nW H' H2 S){vs:List V}{ds:List D}(h:yT ds=true)(r:bV K H' vs ds):bV K H2 vs ds :=
 r.lite (λb xs e=>by rw[T.1 _ λz=>by obtain⟨o,vs,e1,_⟩:=T.2 _ z;rw[e1]at e;cases e];exact e) (λb u xs e=>by rw[T.1 _ λz=>by obtain⟨o,vs,e1,_⟩:=T.2 _ z;rw[e1]at e;cases e];exact e) h
theorem nW.lst(T:nW H' H2 S){a:Addr}{vs:List V}(h:H' a=some (.lst vs)):a∉S/\H2 a=some (.lst vs):=by
 have n:a∉S:=λz=>by obtain⟨o,us,e,_⟩:=T.2 a z;rw[h]at e;cases e
 exact⟨n,(T.1 a n).trans h⟩
theorem nW.tup(T:nW H' H2 S){a:Addr}{vs:List V}(h:Vz K H' a vs):Vz K H2 a vs:=by
 rcases h with(e|⟨u,e⟩)|e
 . exact .inl (.inl (by rw[T.1 _ λz=>by obtain⟨o,vs,e1,_⟩:=T.2 _ z;rw[e1]at e;cases e];exact e))
 . exact .inl (.inr ⟨u,by rw[T.1 _ λz=>by obtain⟨o,vs,e1,_⟩:=T.2 _ z;rw[e1]at e;cases e];exact e⟩)
 . exact .inr e
mutual
theorem bf.thaw(T:nW H' H2 S):∀{s:Option V}(l:L),nV l=true->bf K H' s l->bf K H2 s l
 |_,.un,_,_=>by unfold bf;exact True.intro
 | _,.d x,h,q=>by
  unfold bf at q ⊢
  obtain⟨v,e,r⟩:=q
  exact⟨v,e,r.thaw T (by simpa[nV]using h)⟩
 | _,.own a xs,h,q=>by
  unfold bf at q ⊢
  obtain⟨e,vs,ha,r⟩:=q
  exact⟨e,vs,(T.lst ha).2,r.thaw T (by simpa[nV]using h)⟩
 | _,.bx none ls,h,q=>by
  unfold bf at q ⊢
  obtain⟨a,vs,e,ha,r⟩:=q
  exact⟨a,vs,e,T.tup ha,cz.thaw T ls (by simpa[nV]using h) r⟩
 | _,.bx (some a) ls,h,q=>by
  unfold bf at q ⊢
  obtain⟨e,vs,ha,r⟩:=q
  exact⟨e,vs,(T.lst ha).2,cz.thaw T ls (by simpa[nV]using h) r⟩
 | _,.dic a kvs,h,q=>by
  unfold bf at q ⊢
  obtain⟨e,vs,ha,r⟩:=q
  have h':∀p∈kvs,WD p.2=true:=by simpa[nV]using h
  refine⟨e,vs,?_,Paired.impMem r λp hp q z=>⟨z.1,z.2.thaw T (h' p hp)⟩⟩
  rw[T.1 a λz=>by obtain⟨o,us,e1,_⟩:=T.2 _ z;rw[e1]at ha;cases ha]
  exact ha
theorem cz.thaw(T:nW H' H2 S):∀{vs:List V}(ls:List L),uX ls=true->cz K H' vs ls->cz K H2 vs ls
 |_,[],_,q=>by unfold cz at q ⊢;exact q
 | _,l::ls,h,q=>by
  unfold cz at q ⊢
  simp only[uX,Z5]at h
  obtain⟨v,us,e,h1,h2⟩:=q
  exact⟨v,us,e,bf.thaw T l h.1 h1,cz.thaw T ls h.2 h2⟩
end
end
noncomputable def oS:L->Bool
 |.d _=>true
 |l=>nV l
theorem La:oS .un=true:=by simp[oS,nV]
theorem Ow(x:D):oS (.d x)=true:=rfl
theorem HS(a:Addr)(xs:List D):oS (.own a xs)=yT xs:=by simp[oS,nV]
theorem HU(a:Addr)(kvs:List (Vi×D)):oS (.dic a kvs)=kvs.all λp=>WD p.2:=by simp[oS,nV]
theorem Lb(a:Option Addr)(ls:List L):oS (.bx a ls)=uX ls:=by simp[oS,nV]
noncomputable def eH(i:Nat)(Z:Ev):Bool:=(Z.set i .un).all oS
theorem yi{K:W.Frag}{H0 H' H2:Hp}{S:List Addr}(T:nW H' H2 S)(p:ye H0 H2):∀{σ:St}{Z Z0:Ev},Z.length=Z0.length ->
  (∀(j:Nat)(l:L),Z[j]?=some l->nV l=true∨∃x,l=.d x/\Z0[j]?=some (.d x))->Paired (bf K H0) σ Z0->Paired (bf K H') σ Z->Paired (bf K H2) σ Z
 |[],[],_,_,_,_,_=>.nil
 | s::σ,l::Z,l0::Z0,hl,h,.cons q0 t0,.cons q t=>by
  refine .cons ?_ (yi T p (by simpa using hl) (λj l e=>h (j+1) l e) t0 t);rcases h 0 l rfl with hh|⟨x,rfl,e⟩
  . exact q.thaw T l hh
  .
   have e:l0=.d x:=by simpa using e
   subst e;exact q0.pres p (.d x) λa ha=>by simp[bj]at ha
 |[],_::_,_,_,_,_,t=>nomatch t
 |_::_,[],_,_,_,_,t=>nomatch t
mutual
theorem bf.lsts{K:W.Frag}{H:Hp}:∀{s:Option V}(l:L){x:D},bf K H s l->bJ l=some x->∀a∈bj l,∃vs,H a=some (.lst vs)
 |_,.un,_,_,_,a,ha=>by simp[bj]at ha
 |_,.d x,_,_,_,a,ha=>by simp[bj]at ha
 |_,.dic _ _,_,_,h,_,_=>by simp[bJ]at h
 | _,.own b xs,_,h,_,a,ha=>by
  simp only[bf]at h
  have e:a=b:=by simpa[bj]using ha
  subst e
  obtain⟨_,vs,q,_⟩:=h
  exact⟨_,q⟩
 | _,.bx none ls,_,h,hx,a,ha=>by
  simp only[bf]at h
  simp only[bJ,Option.map_eq_some_iff]at hx
  obtain⟨xs,hx,_⟩:=hx
  obtain⟨b,vs,e,_,r⟩:=h
  exact cz.lsts ls r hx a (by simpa[bj]using ha)
 | _,.bx (some b) ls,_,h,hx,a,ha=>by
  simp only[bf]at h
  simp only[bJ,Option.map_eq_some_iff]at hx
  obtain⟨xs,hx,_⟩:=hx
  obtain⟨e,vs,q,r⟩:=h
  rcases(by simpa[bj]using ha:a=b∨a∈fU ls)with z|z
  .
   subst z;exact⟨_,q⟩
  .
   exact cz.lsts ls r hx a z
theorem cz.lsts{K:W.Frag}{H:Hp}:∀{vs:List V}(ls:List L){xs:List D},cz K H vs ls->cP ls=some xs->∀a∈fU ls,∃vs,H a=some (.lst vs)
 |_,[],_,_,_,a,ha=>by simp[fU]at ha
 | _,l::ls,_,h,hx,a,ha=>by
  simp only[cz]at h
  obtain⟨v,us,e,h1,h2⟩:=h
  simp only[cP]at hx
  split at hx
  .
   rename_i x1 xs1 e1 e2
   rcases(by simpa[fU]using ha:a∈bj l∨a∈fU ls)with z|z
   .
    exact bf.lsts l h1 e1 a z
   .
    exact cz.lsts ls h2 e2 a z
  .
   cases hx
end
theorem A4{X:Cx}{ab:List (Addr×Obj)}{σ0:St}{s s1:Shared}{Pr H H1 H':Hp}{σ τ:St}{Z lam:Ev}{i:Nat}{k:L}{x:D}{v:Option V}(I:Vr X ab σ0 H s)(E:aJ X.K Pr H σ Z)(hi:Z[i]?=some k)(hSa:∀a∈bj k,∃vs,H a=some (.lst vs))(F:sP H H1 (bj k))(hfl:eH i Z=true)
  (I':Vr X ab σ0 H' s1) (E1:aJ X.K Pr H1 σ (Z.set i (.d x))) (E':aJ X.K (bD H1 (Z.set i (.d x))) H' (τ++σ) (lam++Z.set i (.d x))) (b0:τ.length=lam.length) (hr:lam.all nV=true):∃H2,Vr X ab σ0 H2 s1/\aJ X.K Pr H2 (τ++σ) (lam++Z):=by
 have hil:i<Z.length:=(so.mp hi).1;have prm:=jC hi (l:=.d x) rfl;have hnd:(bj k++owns (Z.set i (.d x))).Nodup:=prm.nodup_iff.mp E.nd;obtain⟨nd1,nd2,nd3⟩:=aaz.mp hnd;have hna:∀a∈bj k,a∉owns (Z.set i (.d x)):=λa ha z=>nd3 a ha a z rfl;have hb:∀b u,H1 b=some u->b∉owns (Z.set i (.d x))->H' b=some u:=λb u e hno=>by refine E'.sub b u ?_;unfold bD;rw[if_neg hno];exact e
 have hS:∀a∈bj k,∃o vs,H' a=some (.frz o (.lst vs)):=λa ha=>by obtain⟨vs,e⟩:=hSa a ha;obtain⟨o,eo⟩:=F.2.2 a ha vs e;exact⟨o,vs,hb a _ eo (hna a ha)⟩
 obtain⟨H2,I2,T⟩:=HR (bj k) nd1 I' hS λa ha o u e=>by have z:=I.base.frzs a o u e;obtain⟨vs,q⟩:=hSa a ha;rw[q]at z;cases z
 have back:∀a∈bj k,H2 a=H a:=λa ha=>by obtain⟨vs,e⟩:=hSa a ha;obtain⟨o,eo⟩:=F.2.2 a ha vs e;obtain⟨o',vs',e1,e2⟩:=T.2 a ha;rw[hb a _ eo (hna a ha)]at e1;cases e1;rw[e2,e]
 have P:ye H H2:=λb u hp e=>by
  have hno:b∉owns Z:=λz=>by obtain⟨ws,hz,mu⟩:=E.at_own z;rw[hz]at e;cases e;exact mu.no hp
  have hnk:b∉bj k:=λz=>hno (prm.mem_iff.mpr (aaj _ z));rw[T.1 b hnk];exact hb b u (F.1 b u hp e) λz=>hno (prm.mem_iff.mpr (aad _ z))
 obtain⟨sl1,sl2⟩:=Paired.unapp b0 E'.sl;have ndE:=E'.nd;rw[aK]at ndE;obtain⟨ne1,ne2,ne3⟩:=aaz.mp ndE
 have lamS:∀a∈owns lam,a∉bj k/\Pr a=none/\a∉owns (Z.set i (.d x)):=λa ha=>by
  obtain⟨vs,e,mu⟩:=E'.at_own (a:=a) (by rw[aK];exact aaj _ ha);have h1:a∉bj k:=λz=>by obtain⟨o,us,e1,_⟩:=T.2 _ z;rw[e1]at e;cases e;exact mu
  have h3:a∉owns (Z.set i (.d x)):=λz=>ne3 a ha a z rfl;refine⟨h1,?_,h3⟩;have hoff:=E'.off a (by rw[aK];exact aaj _ ha);unfold bD at hoff;rw[if_neg h3]at hoff
  cases ep:Pr a with
  |none=>rfl
  |some w=>rw[E1.sub a w ep]at hoff;cases hoff
 have slt:Paired (bf X.K H2) σ (Z.set i .un):=by
  have q:Paired (bf X.K H') σ (Z.set i .un):=by have:=(Paired.set_r (b:=L.un) i sl2 λ_ _=>by unfold bf;exact True.intro);rwa [abz]at this
  refine yi T P (Z0:=Z) x_ (λj l e=>?_) E.sl q;by_cases hj:j=i
  . subst hj;rw[aax hil]at e;cases e;exact .inl CQ
  .
   have h1:=aaP.mp hfl l (List.mem_of_getElem? (i:=j) e);rw[aay (abe hj)]at e
   cases l with
   |un=>exact .inl CQ
   |d y=>exact .inr ⟨y,rfl,e⟩
   |own b ys=>exact .inl h1
   |bx b ls=>exact .inl h1
   |dic b ls=>exact .inl h1
 have slr:Paired (bf X.K H2) τ lam:=Paired.impMem sl1 λl hl s q=>q.thaw T l (aaP.mp hr l hl);refine⟨H2,I2,λb u e=>?_,?_,λb hbm=>?_,Paired.app slr ?_⟩
 .
  have hno:b∉owns Z:=λz=>by have:=E.off b z;rw[e]at this;cases this
  have hnk:b∉bj k:=λz=>hno (prm.mem_iff.mpr (aaj _ z));rw[T.1 b hnk];refine hb b u ?_ λz=>hno (prm.mem_iff.mpr (aad _ z));rw[F.2.1 b hnk];exact E.sub b u e
 .
  rw[aK,aaz];refine⟨ne1,E.nd,λc hc d hd z=>?_⟩;subst z;obtain⟨h1,h2,h3⟩:=lamS c hc;rcases aap.mp (prm.mem_iff.mp hd)with z|z
  . exact h1 z
  . exact h3 z
 .
  rw[aK]at hbm;rcases aap.mp hbm with z|z
  . exact(lamS b z).2.1
  . exact E.off b z
 .
  obtain⟨sv,hs,q⟩:=E.slot hi;have:=Paired.set_r (b:=k) i slt λs es=>by rw[hs]at es;cases es;exact q.pres P k back
  rw[abz]at this
  have e2:Z.set i k=Z:=by
   refine List.ext_getElem? λj=>?_;by_cases hj:j=i
   . subst hj;rw[aax hil,hi]
   . rw[aay (abe hj)]
  rwa [e2]at this
def WE(o:Option L)(i:Nat)(t:W L)(Z:Ev)(js:L->Ev->Prop):Prop:=match o with
 |some (.own _ xs)=>eH i Z=true/\t (Z.set i (.d (.lst xs))) λr Z'=>nV r=true/\Z'=Z.set i (.d (.lst xs))/\js r Z
 |some (.bx b ls)=>eH i Z=true/\GT b ls λx=>t (Z.set i (.d x)) λr Z'=>nV r=true/\Z'=Z.set i (.d x)/\js r Z
 |_=>t Z js
def HV(i:Nat)(t:W L):W L:=λZ js=>WE Z[i]? i t Z js
theorem Ox(a:Addr)(xs:List D)(i:Nat)(t:W L)(Z:Ev)(js:L->Ev->Prop):WE (some (.own a xs)) i t Z js=(eH i Z=true/\t (Z.set i (.d (.lst xs))) λr Z'=>nV r=true/\Z'=Z.set i (.d (.lst xs))/\js r Z):=rfl
theorem Rb(b:Option Addr)(ls:List L)(i:Nat)(t:W L)(Z:Ev)(js:L->Ev->Prop):WE (some (.bx b ls)) i t Z js=(eH i Z=true/\GT b ls λx=>t (Z.set i (.d x)) λr Z'=>nV r=true/\Z'=Z.set i (.d x)/\js r Z):=rfl
theorem SH(x:D)(i:Nat)(t:W L)(Z:Ev)(js:L->Ev->Prop):WE (some (.d x)) i t Z js=t Z js:=rfl
theorem HW{X:Cx}{ab:List (Addr×Obj)}{s:Shared}{σ:St}{H Pr:Hp}{Z:Ev}{i:Nat}{k:L}{x:D}(I:Vr X ab σ H s)(E:aJ X.K Pr H σ Z)(hi:Z[i]?=some k)(hx:bJ k=some x):∃H1,Vr X ab σ H1 s/\aJ X.K Pr H1 σ (Z.set i (.d x))/\sP H H1 (bj k)/\∀a∈bj k,∃vs,H a=some (.lst vs):=by obtain⟨sv,hs,sl⟩:=E.slot hi;obtain⟨H1,I1,E1,F⟩:=QM k I (E.outL hi hs) hx;have hil:i<Z.length:=(so.mp hi).1;have E2:=E1.back (i:=i) (by rw[aax hil]) hs;rw[abz]at E2;exact⟨H1,I1,E2,F,sl.lsts k hx⟩
theorem HX{X:Cx}{e:Expr}(i:Nat){t:W L}(h:PL X e t):PL X e (HV i t):=by
 intro ab s σ H Pr Z js I E hw;have go:∀(k:L)(x:D),Z[i]?=some k->bJ k=some x->eH i Z=true->(t (Z.set i (.d x)) λr Z'=>nV r=true/\Z'=Z.set i (.d x)/\js r Z)->wpAny (model X.prog X.w) X.A (eval e X.env) (EL X ab σ Pr js) X.xe s:=by intro k x hi hx hfl hw;obtain⟨H1,I1,E1,F,Sa⟩:=HW I E hi hx;refine Vv (h ab s σ _ _ _ _ I1 E1.wide hw) λu s1 ⟨v,H',r,Z',I',rv,E',hr,eρ,hp⟩=>?_;subst eρ;obtain⟨H2,I2,E2⟩:=A4 (τ:=[some v]) (lam:=[r]) (v:=some v) I E hi Sa F hfl I' E1 E' rfl (by simpa using hr);exact⟨v,H2,r,Z,I2,rv,E2,hp⟩
 unfold HV WE at hw;split at hw
 . rename_i a xs hi;exact go _ _ hi rfl hw.1 hw.2
 . rename_i b ls hi;obtain⟨x,hx,hw'⟩:=yN hw.2;exact go _ _ hi hx hw.1 hw'
 . exact h ab s σ H Pr Z js I E hw
def WG(o:Option L)(i:Nat)(t:W Bool)(Z:Ev)(js:Bool->Ev->Prop):Prop:=match o with
 |some (.own _ xs)=>eH i Z=true/\t (Z.set i (.d (.lst xs))) λr Z'=>Z'=Z.set i (.d (.lst xs))/\js r Z
 |some (.bx b ls)=>eH i Z=true/\GT b ls λx=>t (Z.set i (.d x)) λr Z'=>Z'=Z.set i (.d x)/\js r Z
 |_=>t Z js
def Ey(i:Nat)(t:W Bool):W Bool:=λZ js=>WG Z[i]? i t Z js
theorem Oy(a:Addr)(xs:List D)(i:Nat)(t:W Bool)(Z:Ev)(js:Bool->Ev->Prop):WG (some (.own a xs)) i t Z js=(eH i Z=true/\t (Z.set i (.d (.lst xs))) λr Z'=>Z'=Z.set i (.d (.lst xs))/\js r Z):=rfl
theorem Rc(b:Option Addr)(ls:List L)(i:Nat)(t:W Bool)(Z:Ev)(js:Bool->Ev->Prop):WG (some (.bx b ls)) i t Z js=(eH i Z=true/\GT b ls λx=>t (Z.set i (.d x)) λr Z'=>Z'=Z.set i (.d x)/\js r Z):=rfl
theorem SI(x:D)(i:Nat)(t:W Bool)(Z:Ev)(js:Bool->Ev->Prop):WG (some (.d x)) i t Z js=t Z js:=rfl
theorem Oz{X:Cx}{e:Expr}(i:Nat){t:W Bool}(h:PB X e t):PB X e (Ey i t):=by
 intro ab s σ H Pr Z js I E hw;have go:∀(k:L)(x:D),Z[i]?=some k->bJ k=some x->eH i Z=true->(t (Z.set i (.d x)) λr Z'=>Z'=Z.set i (.d x)/\js r Z)->wpAny (model X.prog X.w) X.A (isTrue e X.env (eval e X.env)) (EB X ab σ Pr js) X.xe s:=by intro k x hi hx hfl hw;obtain⟨H1,I1,E1,F,Sa⟩:=HW I E hi hx;refine Vv (h ab s σ _ _ _ _ I1 E1.wide hw) λu s1 ⟨H',Z',I',E',eρ,hp⟩=>?_;subst eρ;obtain⟨H2,I2,E2⟩:=A4 (τ:=[]) (lam:=[]) (v:=none) I E hi Sa F hfl I' E1 E' rfl rfl;exact⟨H2,Z,I2,E2,hp⟩
 unfold Ey WG at hw;split at hw
 . rename_i a xs hi;exact go _ _ hi rfl hw.1 hw.2
 . rename_i b ls hi;obtain⟨x,hx,hw'⟩:=yN hw.2;exact go _ _ hi hx hw.1 hw'
 . exact h ab s σ H Pr Z js I E hw
variable{X:Cx}
def Re(neg:Bool):Wd:=λx y k=>dN x/\(Wo x).depth<=62/\oM y λys=>(∀z∈ys,dN z)/\k (.d (.bl (if neg then !Hv x ys else Hv x ys)))
open Classical in
noncomputable def eS(h:Heap)(dx:PyData)(u:Value):Bool:=decide (∃d as,Reads h u d as/\d.canLay0=true/\PyData.eqv d dx=true)
open Classical in
theorem SJ{h:Heap}{dx d:PyData}{u:Value}{as:List Addr}(r:Reads h u d as)(hc:d.canLay0=true):eS h dx u=PyData.eqv d dx:=by
 unfold eS;cases e:PyData.eqv d dx
 . refine ZP ?_;rintro⟨d',as',r',hc',e'⟩;have:=SeqAt.Reads.unique _ _ _ _ _ hc r r';subst this;rw[e]at e';cases e'
 . exact aaa ⟨d,as,r,hc,e⟩
theorem CS{A:Around}{s:Shared}{v:Value}{dx:D}{as:List Addr}(rx:Reads s.heap v (Wo dx) as)(hx:dN dx)(hd:(Wo dx).depth<=62)(hu:A.units+64<cLine):∀{ds:List D}{us:List Value}{bs:List Addr},ReadsAll s.heap us (gT ds) bs->(∀z∈ds,dN z)->(∀u∈us,SeqAt.EqAt A.in1 s u v (eS s.heap (Wo dx) u))/\us.any (eS s.heap (Wo dx))=Hv dx ds
 |[],_,_,r,_=>by cases r;exact⟨λu hm=>by simp at hm,rfl⟩
 | d::ds,_,_,r,hs=>by
  cases r with
  | cons r0 rs =>
   obtain⟨i1,i2⟩:=CS (A:=A) rx hx hd hu rs λz hz=>hs z (fI _ hz);have h0:=hs d k4;have e0:=SJ (dx:=Wo dx) r0 (aaI h0);refine⟨λu hu'=>?_,?_⟩
   .
    rcases ZU.mp hu' with rfl|hu'
    . rw[e0];refine SeqAt.eqAt_reads _ _ _ _ _ _ _ _ r0 rx (aaI h0) (aaI hx) ?_;have:min (Wo d).depth (Wo dx).depth<=(Wo dx).depth:=Nat.min_le_right _ _;simp only[Around.in1_units];omega
    . exact i1 u hu'
   . rw[List.any_cons,e0,i2];rfl
theorem rh:∀{ds:List D},(∀z∈ds,dN z)->PyData.canLayAll0 (gT ds)=true
 |[],_=>rfl
 | d::ds,h=>by show((Wo d).canLay0 && PyData.canLayAll0 (gT ds))=true;rw[aaI (h d k4),rh λz hz=>h z (fI _ hz)];rfl
theorem HY(hu:X.A.units+64<cLine):We X (compareOp .NotIn) (Re true):=by
 intro ab s σ H Pr Z x y v u dx dy js I rx ry E px py ⟨h1,h2,h⟩;obtain⟨as,ra⟩:=m9 I dx x v rx px (aaI h1)
 cases py with
 | lst hz rs =>
  obtain⟨hs,ho⟩:=h;cases ry;obtain⟨its,r,pl,hz'⟩:=I.list hz.l;obtain⟨bs,rb⟩:=gU I _ _ _ r rs (rh hs);obtain⟨i1,i2⟩:=CS (A:=X.A) ra h1 h2 hu rb hs;refine SeqAt.notIn_listAt (eS s.heap (Wo dx)) pl.isList (λw hw=>i1 w (by simpa using hw)) ⟨.bl _,H,_,I,rfl,E.cons_d (.bl _),?_⟩;rw[show its.toArray.any (eS s.heap (Wo dx))=its.any (eS s.heap (Wo dx)) by simp,i2];exact ho
 | tup hz rs =>
  obtain⟨hs,ho⟩:=h;cases ry;obtain⟨its,r,pl,hz'⟩:=I.tuple hz;obtain⟨bs,rb⟩:=gU I _ _ _ r rs (rh hs);obtain⟨i1,i2⟩:=CS (A:=X.A) ra h1 h2 hu rb hs;refine SeqAt.notIn_tupleAt (eS s.heap (Wo dx)) pl (λw hw=>i1 w (by simpa using hw)) ⟨.bl _,H,_,I,rfl,E.cons_d (.bl _),?_⟩;rw[show its.toArray.any (eS s.heap (Wo dx))=its.any (eS s.heap (Wo dx)) by simp,i2];exact ho
 |_=>exact h.elim
variable{X:Cx}
theorem ur:∀{ns:List Int}{us:List Value},dA (ns.map V.int) us->IntsAre us ns
 |[],_,r=>by cases r;exact .nil
 | n::ns,_,r=>by
  cases r with
  | cons r0 rs =>
   obtain⟨t,rfl⟩:=r0;exact .cons n t (ur rs)
theorem Ib:∀{ns:List Int}{us:List Value},IntsAre us ns->dA (ns.map V.int) us
 |_,_,.nil=>.nil
 |_,_,.cons n t r=>.cons ⟨t,rfl⟩ (Ib r)
theorem A5(hc:X.calm=true):lJ X (.builtin "sum") (λxs H Q=>∃(p:Addr)(ns:List Int),xs=[.ref p]/\Vy X.K H p (ns.map V.int)/\Q (.int ns.sum) H):=by
 intro ab s σ H xs us Q I r h;obtain⟨p,ns,rfl,hq,q⟩:=h;obtain⟨u,rfl,rx⟩:=xj r;cases rx;obtain⟨its,r',pl,hz⟩:=I.list hq;have hi:=ur r';obtain⟨xs,hx⟩:=hi.allInts.items;have hl':s.heap.IsList p (intItems xs):=hx ▸ pl.isList;refine sum_intListG (I.ok.hd hc) hl' λh' tk t' hk=>?_;have e1:ns=xs.toList.map (·.1):=by rw[<- nums_intItems,<- hx];exact(show numsOf its.toArray.toList=ns from hi.numsOf).symm
 have e2:preSum (numAt xs) xs.size=ns.sum:=by rw[preSum_eq,aas x_,e1]
 rw[e2];exact⟨.int ns.sum,H,I.kept hk,⟨_,rfl⟩,q⟩
theorem CT{h:Heap}{vs:List Value}{out:Array Value}:(∀ b o,h.get? b=some o->(sortedAll h vs out).get? b=some o)/\∃ c,(sortedAll h vs out).get? (h.objs.size+1)=some {cls:=.type "list",dict:=none,data:=.seq out c,slots:=#[] }:=by
 refine⟨λb o e=>sortedAll_old e,?_⟩;have hsz:((h.push (seqObj "list" #[] 0)).update h.objs.size (Obj.mapSeq (·++vs.toArray))).objs.size=h.objs.size+1:=by rw[Heap.size_update,size_push']
 have hoL:(((h.push (seqObj "list" #[] 0)).update h.objs.size (Obj.mapSeq (·++vs.toArray))).push (seqObj "list" vs.toArray 0)).get? (h.objs.size+1)=some (seqObj "list" vs.toArray 0):=by rw[<- hsz];exact aah _ rfl
 obtain⟨c,hc⟩:=sortedHeap_at (out:=out) hoL;exact⟨c,hc⟩
theorem uY:lJ X (.builtin "sorted") (λxs H Q=>∃(p:Addr)(ns:List Int),xs=[.ref p]/\Vy X.K H p (ns.map V.int)/\ns.length < 64/\∀ l,H l=none->Q (.ref l) (Vj H l (.lst ((W.sortI ns).map V.int)))):=by
 intro ab s σ H xs us Q I r h;obtain⟨p,ns,rfl,hq,h64,q⟩:=h;obtain⟨u,rfl,rx⟩:=xj r;cases rx;obtain⟨its,r',pl,hz⟩:=I.list hq;have hi:=ur r';have b0:its.length=ns.length:=by have:=r'.length;simpa using this.symm
 refine sorted_ints pl.isList hi xL λout ns' a1 a2 a3=>?_;have e:=W.eq_sortI a2 a3;subst e;obtain⟨k1,c,k2⟩:=CT (h:=s.heap) (vs:=its) (out:=out);refine⟨.ref (s.heap.objs.size+1),_,I.laid (t':=s.toks) k1 (Nat.le_succ _) (show jd X.prog X.w _ _ _ (.lst ((W.sortI ns).map V.int))from⟨?_,out.toList,c,Ib a1,by simpa using k2⟩),rfl,q _ (I.hok.fresh (Nat.le_succ _))⟩;rw[ZL,(W.sortI_perm ns).length_eq];exact ZR (aa1 h64) xp
theorem iM{K:W.Frag}{H:Hp}:∀{vs:List V}{ns:List Int},bV K H vs (ns.map D.int)->vs=ns.map V.int
 |_,[],r=>by cases r;rfl
 | _,n::ns,r=>by
  cases r with
  | cons r0 rs =>
   obtain rfl:=V6.inv_int r0;rw[iM rs];rfl
def OA:Wq:=λds k=>∃ns:List Int,ds=[.lst (ns.map D.int)]/\k (.d (.int ns.sum))
theorem Na(hc:X.calm=true):gJ X (.builtin "sum") OA:=gJ.of (A5 hc) λσ H Pr Z vs ds js E ps ⟨ns,e,h⟩=>by subst e;obtain⟨v,rfl,r⟩:=tU ps;obtain⟨_,_,rfl,hz,rs⟩:=V6.inv_lst r;have:=iM rs;subst this;exact⟨_,ns,rfl,hz.l,_,E.cons_d (.int _),h⟩
def Ez:Wq:=λds k=>∃ns:List Int,ds=[.lst (ns.map D.int)]/\ns.length<64/\∀a,k (.own a ((W.sortI ns).map D.int))
theorem Ic:gJ X (.builtin "sorted") Ez:=gJ.of uY λσ H Pr Z vs ds js E ps ⟨ns,e,h64,h⟩=>by subst e;obtain⟨v,rfl,r⟩:=tU ps;obtain⟨_,_,rfl,hz,rs⟩:=V6.inv_lst r;have:=iM rs;subst this;exact⟨_,ns,rfl,hz.l,h64,λl hl=>⟨_,E.cons_own hl (qj _),h l⟩⟩
variable{X:Cx}
section
variable{X:Cx}{e a b c:Expr}{es:List Expr}{pos p p2:Pos}{ta:W L}{x y:Str}
def sQ:List (Wd×W L)->D->W L
 |[],_=>λ_ _=>False
 |[(o,t)],dx=>λZ js=>t Z λy Z1=>Wc y λdy=>o dx dy λr=>FW r λk=>js (.d (.bl k)) Z1
 |(o,t)::q::r,dx=>λZ js=>t Z λy Z1=>Wc y λdy=>o dx dy λz=>FW z λk=>if k=true then sQ (q::r) dy Z1 js else js (.d (.bl false)) Z1
def uZ(ta:W L)(ls:List (Wd×W L)):W L:=λZ js=>ta Z λx Z1=>Wc x λdx=>sQ ls dx Z1 js
inductive qk (X:Cx):List CmpOp->List Expr->List (Wd×W L)->Prop where
 |one {op:CmpOp} {e:Expr} {o:Wd} {t:W L} (ho:We X (compareOp op) o) (h:PL X e t):qk X [op] [e] [(o,t)]
 |cons {op:CmpOp} {e:Expr} {o:Wd} {t:W L} {ops:List CmpOp} {es:List Expr} {ls:List (Wd×W L)} (ho:We X (compareOp op) o) (h:PL X e t) (r:qk X ops es ls):qk X (op::ops) (e::es) ((o,t)::ls)
theorem yU{op:CmpOp}{o:Wd}{ab:List (Addr×Obj)}{s:Shared}{σ:St}{H Pr:Hp}{Z:Ev}{v:V}{u:Value}{dx:D}{R:Bool->D->Ev->Prop}{t:W L}{Q:Value->Value->Shared->Prop}(ho:We X (compareOp op) o)(h:PL X e t)
  (I:Vr X ab σ H s) (rv:cO v u) (E:aJ X.K Pr H (some v::σ) (.d dx::Z)) (ht:t Z λy Z1=>Wc y λdy=>o dx dy λr=>FW r λk=>R k dy Z1)
  (hQ:∀u2 s3 w2 dy H3 Z1 k,Vr X ab σ H3 s3->cO w2 u2->aJ X.K Pr H3 (some w2::σ) (.d dy::Z1)->R k dy Z1->Q u2 (.bool k) s3) :
  wpAny (model X.prog X.w) X.A (eval e X.env) (λb s₁=>wpAny (model X.prog X.w) X.A (compareOp op u b) (λc s₂=>Q b c s₂) X.xe s₁) X.xe s:=by
 refine Vv (h ab s σ H _ Z _ I E.tail.wide ht) λu2 s2 q=>?_;obtain⟨y,H2,dy,Z2,I2,r2,E2,q2⟩:=EL.frz (js:=λdy Z1=>o dx dy λr=>FW r λk=>R k dy Z1) q;have E3:aJ X.K Pr H2 (some y::some v::σ) (.d dy::.d dx::Z2):=aJ.step (τ:=[some v]) (lam:=[.d dx]) (w:=[some y]) (μ:=[.d dy]) E rfl E2 rfl;obtain⟨_,e1,p1⟩:=E3.head_d;obtain⟨_,e2,p2⟩:=E3.tail.head_d;cases e1;cases e2;have E4:aJ X.K Pr H2 σ Z2:=E3.tail.tail;have E5:aJ X.K Pr H2 (some y::σ) (.d dy::Z2):=E4.cons_d p1;have E5w:=E5;refine Vv (ho ab s2 σ H2 (bD H2 Z2) Z2 v y u u2 dx dy _ I2 rv r2 E4.wide p2 p1 q2) λw s3 ⟨z,H3,r,I3,rz,E6,pp⟩=>?_;obtain⟨k,rfl,pp⟩:=yO pp;obtain⟨_,e3,p3⟩:=E6.head_d;cases e3;obtain rfl:=V6.inv_bl p3;cases rz;have P3:ye H2 H3:=yM E4 E6.sub;have E7:aJ X.K Pr H3 σ Z2:=E4.narrow E6.tail;exact hQ u2 s3 y dy H3 Z2 k I3 r2 (E7.cons_d (p1.pres P3)) pp
theorem Lc{ops:List CmpOp}{es:List Expr}{ls:List (Wd×W L)}(h:qk X ops es ls):∀(ab:List (Addr×Obj))(s:Shared)(σ:St)(H Pr:Hp)(Z:Ev)(js:L->Ev->Prop)(v:V)(u:Value)(dx:D)(pos:Pos),Vr X ab σ H s->cO v u->aJ X.K Pr H (some v::σ) (.d dx::Z)->sQ ls dx Z js ->
  wpAny (model X.prog X.w) X.A (compareChain pos u ops (evalEach es X.env)) (EL X ab σ Pr js) X.xe s:=by
 induction h with
 | one ho h =>
  intro ab s σ H Pr Z js v u dx pos I rv E hl;refine chain_last ?_;exact yU (R:=λk _ Z1=>js (.d (.bl k)) Z1) (Q:=λ_ c s=>EL X ab σ Pr js c s) ho h I rv E hl λu2 s3 w2 dy H3 Z1 k I3 r3 E3 q=>⟨.bl k,H3,_,Z1,I3,rfl,E3.tail.cons_d (.bl k),q⟩
 | @cons op e o t ops es ls ho h r ih =>
  intro ab s σ H Pr Z js v u dx pos I rv E hl
  cases r with
  | one ho2 h2 =>
   refine chain_link (yU (R:=λk dy Z1=>if k=true then sQ [_] dy Z1 js else js (.d (.bl false)) Z1) (Q:=λb c s=>wpAny (model X.prog X.w) X.A (truthy c) (λt s₃=>if t then _ else EL X ab σ Pr js c s₃) X.xe s) ho h I rv E hl λu2 s3 w2 dy H3 Z1 k I3 r3 E3 q=>?_)
   refine aa0 ?_
   cases k with
   |false=>exact ite_ff ⟨.bl false,H3,_,Z1,I3,rfl,E3.tail.cons_d (.bl false),q⟩
   |true=>exact ite_tt (ih ab s3 σ H3 Pr Z1 js w2 u2 dy pos I3 r3 E3 q)
  | cons ho2 h2 r2 =>
   cases r2 with
   | one ho3 h3 =>
    refine chain_link (yU (R:=λk dy Z1=>if k=true then sQ (_::_::_) dy Z1 js else js (.d (.bl false)) Z1) (Q:=λb c s=>wpAny (model X.prog X.w) X.A (truthy c) (λt s₃=>if t then _ else EL X ab σ Pr js c s₃) X.xe s) ho h I rv E hl λu2 s3 w2 dy H3 Z1 k I3 r3 E3 q=>?_)
    refine aa0 ?_
    cases k with
    |false=>exact ite_ff ⟨.bl false,H3,_,Z1,I3,rfl,E3.tail.cons_d (.bl false),q⟩
    |true=>exact ite_tt (ih ab s3 σ H3 Pr Z1 js w2 u2 dy pos I3 r3 E3 q)
   | cons ho3 h3 r3 =>
    refine chain_link (yU (R:=λk dy Z1=>if k=true then sQ (_::_::_) dy Z1 js else js (.d (.bl false)) Z1) (Q:=λb c s=>wpAny (model X.prog X.w) X.A (truthy c) (λt s₃=>if t then _ else EL X ab σ Pr js c s₃) X.xe s) ho h I rv E hl λu2 s3 w2 dy H3 Z1 k I3 r3 E3 q=>?_)
    refine aa0 ?_
    cases k with
    |false=>exact ite_ff ⟨.bl false,H3,_,Z1,I3,rfl,E3.tail.cons_d (.bl false),q⟩
    |true=>exact ite_tt (ih ab s3 σ H3 Pr Z1 js w2 u2 dy pos I3 r3 E3 q)
theorem u5{op op':CmpOp}{ops:List CmpOp}{r1 r2:Expr}{rs:List Expr}{ls:List (Wd×W L)}(ha:PL X a ta)(h:qk X (op::op'::ops) (r1::r2::rs) ls)(hm:lastMarks (op::op'::ops) (r1::r2::rs)=false:=by with_unfolding_all rfl):PL X (.Compare a (op::op'::ops) (r1::r2::rs) pos) (uZ ta ls):=by intro ab s σ H Pr Z js I E ht;refine Compare_chain (Vv (ha ab s σ H Pr Z _ I E ht) λu s1 q=>?_) hm;obtain⟨v,H1,dx,Z1,I1,rv,E1,q1⟩:=EL.frz (js:=λdx Z1=>sQ ls dx Z1 js) q;exact Lc h ab s1 σ H1 Pr Z1 js v u dx pos I1 rv E1 q1
theorem u6{prog:Program}{w:World}{A:Around}{ks:List Bool}{us:List Value}(h:us=ks.map Value.bool):TruthOf prog w A (λi v=>us.toArray[i]?=some v) (λi=>ks.getD i true):=λi v s Q E hv hQ=>by
 subst h;rw[List.getElem?_toArray,ZZ]at hv
 cases q:ks[i]? with
 |none=>rw[q]at hv;cases hv
 | some k =>
  rw[q]at hv;cases hv;refine aa0 ?_;have:ks.getD i true=k:=by rw[tu,q];rfl
  have hQ':Q (ks.getD i true) s:=hQ;rw[this]at hQ';exact hQ'
theorem Ie(ks:List Bool):(List.range ks.length).all (λi=>ks.getD i true)=ks.all id:=by
 apply Bool.eq_iff_iff.mpr;simp only[aaP,ZT,id];constructor
 . intro h x hx;obtain⟨i,hi,e⟩:=aaZ hx;have:=h i hi;rw[tu,gV hi]at this;simpa[e]using this
 . intro h i hi;rw[tu,gV hi];exact h _ (ZM hi)
theorem Ig(ks:List Bool):(List.range ks.length).any (λi=>ks.getD i true)=ks.any id:=by
 apply Bool.eq_iff_iff.mpr;simp only[List.any_eq_true,ZT,id];constructor
 . rintro⟨i,hi,e⟩;rw[tu,gV hi]at e;exact⟨_,ZM hi,e⟩
 . rintro⟨x,hx,e⟩;obtain⟨i,hi,e2⟩:=aaZ hx;refine⟨i,hi,?_⟩;rw[tu,gV hi];simpa[e2]using e
theorem rj:∀{ks:List Bool}{us:List Value},dA (ks.map V.bl) us->us=ks.map Value.bool
 |[],_,.nil=>rfl
 | k::ks,_,.cons r t=>by have e:=rj t;subst e;cases r;rfl
theorem A6(hc:X.calm=true):lJ X (.builtin "all") (λxs H Q=>∃(p:Addr)(ks:List Bool),xs=[.ref p]/\Vy X.K H p (ks.map V.bl)/\Q (.bl (ks.all id)) H):=by
 intro ab s σ H xs us Q I r ⟨p,ks,e,hq,q⟩;subst e;obtain⟨u,rfl,r1⟩:=xj r;cases r1;obtain⟨its,rv,pl,hz⟩:=I.list hq;have e:=rj rv;refine call_all_walk (wpAny_pyIter_list pl.isList ?_);have hne:p≠s.heap.objs.size:=λz=>by obtain⟨o,n,eo,_⟩:=pl;have:=ZV eo;rw[z]at this;exact absurd this (abf _)
 refine⟨s.heap.objs.size,_,_,_,_,_,(λi=>ks.getD i true),rfl,Walks.list (A:=X.A.in1) (I.ok.hd hc) _ p hne its.toArray,⟨⟨_,aah _ rfl,rfl,rfl⟩,pl.isList.at λo eo=>ZO _ eo⟩,u6 e,λh' tk hk=>?_⟩;have hl:its.toArray.size=ks.length:=by rw[e];simp
 rw[hl,Ie];refine⟨.bl _,H,I.kept (h':=h') (t':=tk) λb o eb=>hk b o (λhm=>?_) (ZO _ eb),rfl,q⟩;have e2:b=s.heap.objs.size:=by simpa using hm
 have:=ZV eb;rw[e2]at this;exact absurd this (abf _)
theorem A7(hc:X.calm=true):lJ X (.builtin "any") (λxs H Q=>∃(p:Addr)(ks:List Bool),xs=[.ref p]/\Vy X.K H p (ks.map V.bl)/\Q (.bl (ks.any id)) H):=by
 intro ab s σ H xs us Q I r ⟨p,ks,e,hq,q⟩;subst e;obtain⟨u,rfl,r1⟩:=xj r;cases r1;obtain⟨its,rv,pl,hz⟩:=I.list hq;have e:=rj rv;refine call_any_walk (wpAny_pyIter_list pl.isList ?_);have hne:p≠s.heap.objs.size:=λz=>by obtain⟨o,n,eo,_⟩:=pl;have:=ZV eo;rw[z]at this;exact absurd this (abf _)
 refine⟨s.heap.objs.size,_,_,_,_,_,(λi=>ks.getD i true),rfl,Walks.list (A:=X.A.in1) (I.ok.hd hc) _ p hne its.toArray,⟨⟨_,aah _ rfl,rfl,rfl⟩,pl.isList.at λo eo=>ZO _ eo⟩,u6 e,λh' tk hk=>?_⟩;have hl:its.toArray.size=ks.length:=by rw[e];simp
 rw[hl,Ig];refine⟨.bl _,H,I.kept (h':=h') (t':=tk) λb o eb=>hk b o (λhm=>?_) (ZO _ eb),rfl,q⟩;have e2:b=s.heap.objs.size:=by simpa using hm
 have:=ZV eb;rw[e2]at this;exact absurd this (abf _)
theorem kb{K:W.Frag}{H:Hp}:∀{vs:List V}{ks:List Bool},bV K H vs (ks.map D.bl)->vs=ks.map V.bl
 |[],[],_=>rfl
 | _::_,k::ks,.cons r t=>by obtain rfl:=V6.inv_bl r;rw[kb t];rfl
 |[],_::_,r=>nomatch r
 |_::_,[],r=>nomatch r
def OB:Wq:=λds k=>∃ks:List Bool,ds=[.lst (ks.map D.bl)]/\k (.d (.bl (ks.all id)))
def Rf:Wq:=λds k=>∃ks:List Bool,ds=[.lst (ks.map D.bl)]/\k (.d (.bl (ks.any id)))
theorem Nc(hc:X.calm=true):gJ X (.builtin "all") OB:=gJ.of (A6 hc) λσ H Pr Z vs ds js E ps ⟨ks,e,h⟩=>by subst e;obtain⟨v,rfl,r⟩:=tU ps;obtain⟨_,_,rfl,hz,rs⟩:=V6.inv_lst r;have e:=kb rs;subst e;exact⟨_,ks,rfl,hz.l,_,E.cons_d (.bl _),h⟩
theorem Rg(hc:X.calm=true):gJ X (.builtin "any") Rf:=gJ.of (A7 hc) λσ H Pr Z vs ds js E ps ⟨ks,e,h⟩=>by subst e;obtain⟨v,rfl,r⟩:=tU ps;obtain⟨_,_,rfl,hz,rs⟩:=V6.inv_lst r;have e:=kb rs;subst e;exact⟨_,ks,rfl,hz.l,_,E.cons_d (.bl _),h⟩
end
end L2
set_option exponentiation.threshold 2000
namespace L2
open PySem PySem.Spec PyProof.Rows
section
variable{e a:Expr}{x:Str}
mutual
noncomputable def iN:D->Bool
 |.int i=>decide (i.natAbs<2^1900)
 |.tup xs=>kc xs
 |.lst xs=>kc xs
 |_=>true
noncomputable def kc:List D->Bool
 |[]=>true
 |x::xs=>iN x && kc xs
end
theorem OC:(2:Nat)^1900<10^600:=by decide +kernel
theorem Ih{i:Int}(h:i.natAbs<2^1900):(PyData.shown (.int i)).length<=601:=by have e:=PySem.int_text_length_le10 (k:=600) xp (Nat.lt_trans h OC);show(Str.ofString (toString i)).length<=601;rw[PySem.ofString_length];exact e
mutual
theorem uu:∀d:D,iN d=true->(Wo d).intsShort 601=true/\(Wo d).showable=true
 |.non,_=>⟨rfl,rfl⟩
 |.bl _,_=>⟨rfl,rfl⟩
 |.str _,_=>⟨rfl,rfl⟩
 |.dct _,_=>⟨rfl,rfl⟩
 |.exc _ _ _,_=>⟨rfl,rfl⟩
 |.fn _ _,_=>⟨rfl,rfl⟩
 |.dk _ _,_=>⟨rfl,rfl⟩
 |.gf _,_=>⟨rfl,rfl⟩
 | .int i,h=>by
  have h':i.natAbs<2^1900:=by simpa only[iN,ZX]using h
  refine⟨by simp only[Wo,PyData.intsShort,ZX];exact Ih h',?_⟩
  simp only[Wo,PyData.showable,ZX]
  by_cases h0:i.natAbs=0
  .
   rw[h0];decide
  .
   exact(Nat.log2_lt h0).mpr (k5 h' (ZN xp xp))
 | .tup xs,h=>by
  obtain⟨h1,h2⟩:=u7 xs (by simpa only[iN]using h)
  exact⟨by simpa only[Wo,PyData.intsShort]using h1,by simpa only[Wo,PyData.showable]using h2⟩
 | .lst xs,h=>by
  obtain⟨h1,h2⟩:=u7 xs (by simpa only[iN]using h)
  exact⟨by simpa only[Wo,PyData.intsShort]using h1,by simpa only[Wo,PyData.showable]using h2⟩
theorem u7:∀ds:List D,kc ds=true->PyData.intsShortAll 601 (gT ds)=true/\PyData.showableAll (gT ds)=true
 |[],_=>⟨rfl,rfl⟩
 | d::ds,h=>by
  simp only[kc,Z5]at h
  obtain⟨h1,h2⟩:=uu d h.1
  obtain⟨h3,h4⟩:=u7 ds h.2
  exact⟨by simp only[gT,PyData.intsShortAll,h1,h3,Bool.and_self],by simp only[gT,PyData.showableAll,h2,h4,Bool.and_self]⟩
end
structure EC (d:D):Prop where
 ok:WA 40 d=true
 sh:iN d=true
 wt:(Wo d).weight<=20000
theorem EC.len{d:D}(h:EC d):(Wo d).shown.length<=sizeLine:=by
 have h1:=PyData.shown_le 601 xp (Wo d) (PyData.leavesShort_of_canLay0 601 _ (uU 40 d h.ok).1 (uu d h.sh).1);have h2:=h.wt;have e:sizeLine=16777216:=by decide
 rw[e];omega
def WH(f:Fl)(o:Option L)(j:Nat)(Z1:Ev)(js:Fl->Ev->Prop):Prop:=match f with
 | .nx=>(match o with
  |some (.own _ xs)=>js .nx (Z1.set j (.d (.lst xs)))
  |_=>js .nx Z1)
 |f=>js f Z1
theorem OD(a:Addr)(xs:List D)(j:Nat)(Z1:Ev)(js:Fl->Ev->Prop):WH .nx (some (.own a xs)) j Z1 js=js .nx (Z1.set j (.d (.lst xs))):=rfl
theorem SK(x:D)(j:Nat)(Z1:Ev)(js:Fl->Ev->Prop):WH .nx (some (.d x)) j Z1 js=js .nx Z1:=rfl
end
theorem aJ.closeT{K:W.Frag}{Pr H:Hp}{σ:St}{Z:Ev}{a:Addr}{vs:List V}{ls:List L}(hl:vs.length=ls.length)(h:Vz K H a vs)(E:aJ K Pr H (vs.map some++σ) (ls++Z)):aJ K Pr H (some (.ref a)::σ) (.bx none ls::Z):=by
 obtain⟨s1,s2⟩:=Paired.unapp (by simp[hl]) E.sl;have ow:owns (.bx none ls::Z)=owns (ls++Z):=by rw[aT,aK];simp only[bj,Option.toList,aa5,fV]
 refine⟨E.sub,by rw[ow];exact E.nd,λb hb=>E.off b (by rw[<- ow];exact hb),.cons ?_ s2⟩;unfold bf;exact⟨a,vs,rfl,h,eB.mpr s1⟩
section
variable{X:Cx}{e b:Expr}{es:List Expr}{pos:Pos}
def Ii(t:W (List L)):W L:=λZ js=>t Z λls Z1=>ls.length<=sizeLine/\js (.bx none ls) Z1
theorem CU {x1} {bs:List (Option Nat)} {t:W (List L)} (h:V8 X es bs t):PL X (.Tuple es x1 pos) (Ii t):=by intro ab s σ H Pr Z js I E hq;refine wpAny_Tuple_spliced (Vv (h pos ab s σ H Pr Z _ I E hq) λus s1 ⟨vs,H1,ls,Z1,I1,r,hl,hb,E1,hv,z,q⟩=>?_);refine⟨by rw[<- r.length,hl];exact z,?_⟩;have hf:H1 s1.heap.objs.size=none:=I1.hok.fresh (ZY _);have E2:aJ X.K Pr (Vj H1 s1.heap.objs.size (.tup vs)) (vs.map some++σ) (ls++Z1):=E1.new hf;refine⟨.ref s1.heap.objs.size,Vj H1 s1.heap.objs.size (.tup vs),_,Z1,I1.laid (t':=s1.toks) (λb u e=>ZO _ e) (ZY _) ?_,rfl,E2.closeT hl (Vz.of bu),q⟩;exact⟨by rw[hl];exact z,us,r,⟨_,aah _ rfl,rfl,_,rfl⟩⟩
end
structure FX (K:W.Frag) (mg:Str->Option Value) (g:Str) (st:Stmt) (a:Addr) (fd:FuncData) (P:List Str):Prop where
 f:V4 K g g st a fd
 b:Cw K fd P []
 m:mg g=some (.ref a)
noncomputable abbrev WI(g:Str)(st:Stmt)(md:Value)(c:Nat):FuncData:=W.fnOf g g (qW st) (gv st) (ao st) .none .none .none md none (.ref c) .none
theorem FX.mk'{K:W.Frag}{mg:Str->Option Value}{h:Heap}(X:K.In h)(G:h.Ns mainGlobals mg){g:Str}{st:Stmt}{a:Addr}{c:Nat}{md:Value}{P:List Str}(e1:W.nsIn K mainGlobals g=some (some (.ref a)))
  (e2:K.lookup a=some ⟨.type "function",none,.func (WI g st md c),#[]⟩) (e3:W.codeIn K (.ref c) g=true) (e4:W.keepIn K (.ref a)=true)
  (e5:∀(kV doc pm:Value)(an:Option Addr)(cdv ct:Value)(us:List Value),us.length=P.length->bindArgs (W.fnOf g g (qW st) (gv st) (ao st) .none kV doc pm an cdv ct) ⟨us,[]⟩=pure (P.zip us)):FX K mg g st a (WI g st md c) P :=
 ⟨M0 e2 e3 e4,(M0 e2 e3 e4).binds e5,W.mg_of X G e1⟩
section
variable{X:Cx}{k k' n:Nat}{f:Addr}{fd:FuncData}{ps:List Str}{fs:FS}{g:Str}{st:Stmt}{e:Expr}{es:List Expr}{bs:List (Option Nat)}{t:W (List L)}{p pos:Pos}
theorem ay(F:FnOk X.prog X.w X.K X.mg X.base CX0 k f fd ps (spF X.K n fs))(T:FX X.K X.mg g st f fd ps)(hr:oI k' X.A)(ha:V8 X (e::es) bs t)(hk:k<=k':=by decide)(hg:Gl X g:=by rfl)(hn:bs.length=n:=by rfl) (hdb:aet g:=by decide) (he:starEach (e::es) X.env=(false,eval e X.env)::starEach es X.env:=by rfl) (hpl:(backTo pos (starEach es X.env)).any (·.1)=false:=by rfl) :
  PL X (.Call (.Name g p) (e::es) [] pos) (av fs t):=N7 F (hr.mono hk) hg T.m T.f.kp T.b QJ ha hn hdb he hpl
theorem ED(F:FnOk X.prog X.w X.K X.mg X.base CX0 k f fd ps (spF X.K n fs))(T:FX X.K X.mg g st f fd ps)(hr:oI k' X.A)(j i:Nat)(ha:V8 X (e::es) bs t)(hk:k<=k':=by decide)(hg:Gl X g:=by rfl)(hj:bs[j]?=some (some i):=by rfl)(hn:bs.length=n:=by rfl) (hdb:aet g:=by decide) (he:starEach (e::es) X.env=(false,eval e X.env)::starEach es X.env:=by rfl) (hpl:(backTo pos (starEach es X.env)).any (·.1)=false:=by rfl) :
  PL X (.Call (.Name g p) (e::es) [] pos) (uP fs j i t):=KU F (hr.mono hk) hg T.m T.f.kp T.b QJ j i ha hj hn hdb he hpl
end
section
variable{X:Cx}
theorem Ld:VG X (binaryOp .Add) (λx y H Q=>∃l b xs zs,x=.ref l/\y=.ref b/\Vz X.K H l xs/\Vz X.K H b zs/\xs≠[]/\zs≠[]/\xs.length+zs.length<=sizeLine/\∀p,H p=none->Q (.ref p) (Vj H p (.tup (xs++zs)))):=by
 intro ab s σ H x y v u Q I rx ry h;obtain⟨l,b,xs,zs,rfl,rfl,hH,hB,n1,n2,hz,q⟩:=h;cases rx;cases ry;obtain⟨its,r,⟨o,e,c,n,f⟩,z⟩:=I.tuple hH;obtain⟨its2,r2,⟨o2,e2,c2,m,f2⟩,z2⟩:=I.tuple hB;obtain⟨cl,dd,dt,sl⟩:=o;obtain⟨cl2,dd2,dt2,sl2⟩:=o2;simp only at c f c2 f2;subst c f c2 f2;have hl:=r.length;have hl2:=r2.length;have k1:its≠[]:=λe=>n1 (abu.mp (by rw[hl,e];rfl));have k2:its2≠[]:=λe=>n2 (abu.mp (by rw[hl2,e];rfl));refine concat_meets ⟨_,e,rfl⟩ ⟨_,e2,rfl⟩ noFill_tuple_add seq_tuple_add PySem.F.slot_tuple_add PySem.F.entry_tuple_add (PySem.F.args_tuple_add_2 _ _) (tuple_addW2 l b its.toArray its2.toArray n m dd dd2 sl sl2 (by simpa using k1) (by simpa using k2) (by rw[aab,aab];omega)) ⟨e,e2,?_⟩;have ea:its.toArray++its2.toArray=(its++its2).toArray:=by simp
 rw[ea];exact⟨.ref _,Vj H s.heap.objs.size (.tup (xs++zs)),I.laid (o:=.tup (xs++zs)) (λ_ _ q=>ZO _ q) (ZY _) ⟨by rw[aaK];omega,its++its2,r.append r2,⟨_,aah _ rfl,rfl,_,rfl⟩⟩,rfl,q _ I.fresh⟩
def EE:Wd:=λx y k=>match x,y with
 |.tup xs,.tup ys=>xs≠[]/\ys≠[]/\xs.length+ys.length<=sizeLine/\k (.d (.tup (xs++ys)))
 |_,_=>False
theorem OE:We X (binaryOp .Add) EE:=(We.of Ld (op:=λx y k=>∃xs ys,x=.tup xs/\y=.tup ys/\xs≠[]/\ys≠[]/\xs.length+ys.length<=sizeLine/\k (.d (.tup (xs++ys)))) (λσ H Pr Z x y dx dy js E px py ⟨xs,ys,e1,e2,m1,m2,z,h⟩=>by
  subst e1 e2;obtain⟨_,_,rfl,h1,r1⟩:=V6.inv_tup px
  cases py with
  | tup h2 r2 =>
   refine⟨_,_,_,_,rfl,rfl,h1,h2,λe=>m1 ?_,λe=>m2 ?_,by rw[r1.length,r2.length];exact z,λp hp=>⟨_,E.cons_tup hp (r1.append r2),h⟩⟩
   . exact abu.mp (by rw[<- r1.length,e];rfl)
   .
    exact abu.mp (by rw[<- r2.length,e];rfl))).imp λx y k h=>by
 unfold EE at h;split at h
 . exact⟨_,_,rfl,rfl,h⟩
 . exact h.elim
def SL:Wd:=λx y k=>match x,y with
 |.bl b,.bl c=>k (.d (.bl (b == c)))
 |_,_=>False
def EF:Wd:=λx y k=>match x,y with
 |.bl b,.bl c=>k (.d (.bl (!(b == c))))
 |_,_=>False
theorem Ij:We X (compareOp .IsNot) EF:=by
 intro ab s σ H Pr Z x y v u dx dy js I rx ry E px py ho
 cases px with
 | bl b =>
  cases py with
  | bl c =>
   cases rx;cases ry;exact isnot_bool ⟨.bl (!(b == c)),H,.d (.bl (!(b == c))),I,rfl,E.cons_d (.bl _),ho⟩
  |_=>exact ho.elim
 |_=>cases py<;>exact ho.elim
end
mutual
noncomputable def Gf:D->Nat
 |.tup xs=>CV xs+1
 |.lst xs=>CV xs+1
 |_=>0
noncomputable def CV:List D->Nat
 |[]=>0
 |x::xs=>max (Gf x) (CV xs)
end
theorem EG{n:Nat}:∀{xs:List D},(∀x∈xs,Gf x<=n)->CV xs<=n
 |[],_=>aaN _
 | y::ys,h=>by simp only[CV];have:=h y k4;have:=EG (xs:=ys) λx hx=>h x (fI _ hx);omega
end L2
namespace L2
open PySem PySem.Spec PyProof.Rows PySem.Builtin.Str
inductive Sk where
 |l|t
noncomputable abbrev Zi:=Sk×Addr×Addr
noncomputable def Sk.nm:Sk->String
 |.l=>"list_iterator"
 |.t=>"tuple_iterator"
def WJ(K:W.Frag)(H:Hp):Sk->Addr->List V->Prop
 |.l,a,xs=>Vy K H a xs
 |.t,a,xs=>Vz K H a xs
def WL(K:W.Frag)(H:Hp):Sk->Addr->List V->Prop
 |.l,a,xs=>V5 K H a xs
 |.t,a,xs=>Vz K H a xs
theorem WL.pres{K:W.Frag}{H H':Hp}{k:Sk}{a:Addr}{xs:List V}(p:ye H H')(h:WL K H k a xs):WJ K H' k a xs:=by
 cases k with
 |l=>exact(V5.pres p h).l
 |t=>exact Vz.pres p h
theorem u9(xs ys:List D):((List.range (min xs.length ys.length)).map λi=>D.tup [xs.getD i .non,ys.getD i .non])=Gd xs ys:=by
 refine aa9 (by simp[Gd]) λi h1 h2=>?_;have:i<min xs.length ys.length:=by simpa using h1
 simp only[abR,List.getElem_range,Gd,abp];rw[tu,tu,gV xL,gV xL];rfl
end L2
namespace L2
open PySem PySem.Spec PyProof.Rows
section
variable{X:Cx}{e:Expr}{pos:Pos}{t:W Fl}
theorem Rh{body:List Stmt}{h0:ExceptHandler}{hs:List ExceptHandler}(hx:∀e s,X.xe e s->False)(hb:Wb X body t):PM X (.Try body (h0::hs) [] [] pos) t:=λab s σ H Pr Z js I E ht =>
 wpAny_Try_except (abn (hb ab s σ H Pr Z js I E ht) (λf s1 q=>by
  cases f with
  |next=>exact wpAny_execs_nil q
  |brk=>exact q
  |cont=>exact q
  |ret v=>exact q) λe s z=>(hx e s z).elim)
end
end L2
namespace L2
open PySem PySem.Spec PyProof.Rows PySem.W
section
structure WM (h:Heap) (e:Addr) (cls:Value) (dx T:Option Addr):Prop where
 ex:∃vs sl,h.get? e=some ⟨cls,dx,.fields vs,sl⟩/\1<vs.size/\(match T with
  |none=>vs[1]?=some .none
  |some t=>vs[1]?=some (.ref t)/\t≠e/\∃ot ts,h.get? t=some ot/\ot.data=.fields ts/\ts[3]?=some .none)
end
noncomputable def WN(H:Hp)(e:Addr):Hp:=λb=>if b=e then none else H b
theorem sR{H:Hp}{e b:Addr}(h:b≠e):WN H e b=H b:=by unfold WN;rw[if_neg h]
theorem EH{H:Hp}{e:Addr}:WN H e e=none:=by unfold WN;rw[if_pos rfl]
section
variable{X:Cx}{ab:List (Addr×Obj)}{σ:St}{H:Hp}{s:Shared}
theorem Vr.track{e:Addr}{o:HO}(I:Vr X ab σ H s)(hn:H e=none)(h0:X.s₀.heap.objs.size<=e)(hL:e≠X.env.locals)(hc:∀x c,X.env.cells.lookup x=some c->c≠e)(hp:∀p∈X.pn++ab,p.1≠e)
  (new:jd X.prog X.w (Vj H e o) s.heap e o):Vr X ab σ (Vj H e o) s:=by
 have ne:∀b u,H b=some u->b≠e:=λb u q z=>by subst z;rw[hn]at q;cases q
 refine⟨I.ok,I.os,I.bare,⟨I.base.keep,I.base.slot,λb u e1 n hx=>?_,I.base.there,λb xs q=>?_,λb u z q=>?_,λb ps q=>?_⟩,I.loc,I.cell,?_,λx c q=>?_,λp hq=>?_,λb u q=>?_,I.len⟩
 . rw[aH (λz=>by subst z;exact absurd (ZV e1) (Nat.not_lt.mpr h0))];exact I.base.free b u e1 n hx
 . have z:=I.base.tups b xs q;rw[aH (ne b _ z)];exact z
 . have z:=I.base.frzs b _ _ q;rw[aH (ne b _ z)];exact z
 . have z:=I.base.tbls b ps q;rw[aH (ne b _ z)];exact z
 . rw[aH (abe hL)];exact I.free
 . rw[aH (hc x c q)];exact I.freeC x c q
 . obtain⟨a1,a2,a3⟩:=I.pin p hq;exact⟨a1,by rw[aH (hp p hq)];exact a2,a3⟩
 .
  by_cases hb:b=e
  . subst hb;rw[bu]at q;cases q;exact new
  . rw[aH hb]at q;exact(I.hok b u q).stay (λc v _ z=>z) (λc z=>by rw[aH (ne c _ z)];exact z) (λc xs z=>by rw[aH (ne c _ z)];exact z) λc ob _ _ z=>by rw[aH (ne c _ z)];exact z
end
section
variable{K:Frag}{Pr H H':Hp}{σ:St}{Z:Ev}
theorem aJ.exten(E:aJ K Pr H σ Z)(h:∀b o,H b=some o->H' b=some o):aJ K Pr H' σ Z :=
 ⟨λb o e=>h b o (E.sub b o e),E.nd,E.off,Paired.impMem E.sl λl hl s q=>q.pres (λb u _ e=>h b u e) l λa e=>by
  obtain⟨vs,e,_⟩:=E.at_own (j5.mpr ⟨l,hl,e⟩)
  rw[h _ _ e,e]⟩
end
theorem WM.at{h h':Heap}{e:Addr}{cls:Value}{dx:Option Addr}(f:WM h e cls dx none)(k:∀o,h.get? e=some o->h'.get? e=some o):WM h' e cls dx none:=by obtain⟨vs,sl,he,hz,h1⟩:=f;exact⟨vs,sl,k _ he,hz,h1⟩
noncomputable def XO(e:Addr)(cls:Value)(dx:Option Addr):HO:=.ext λh=>WM h e cls dx none
noncomputable def XD(d:Addr)(fs:List (Str×V)):HO:=.ext λh=>∃mA,h.Ns1 d mA/\(∀f,Sf (fs.lookup f) (mA f))/\PySem.Within mA (fs.map (·.1))
theorem XO.ok{P:Program}{w:World}{H:Hp}{h:Heap}{e:Addr}{cls:Value}{dx:Option Addr}(f:WM h e cls dx none):jd P w H h e (XO e cls dx):=by obtain⟨vs,sl,he,hz,h1⟩:=f;exact⟨⟨vs,sl,he,hz,h1⟩,⟨_,he⟩,λh1 h2 p k=>p.at k⟩
theorem XD.ok{P:Program}{w:World}{H:Hp}{h:Heap}{d:Addr}{fs:List (Str×V)}{mA:Str->Option Value}(n:h.Ns1 d mA)(r:∀f,Sf (fs.lookup f) (mA f))(wi:PySem.Within mA (fs.map (·.1))):jd P w H h d (XD d fs) :=
 ⟨⟨mA,n,r,wi⟩,let ⟨o,_,_,e,_⟩:=n;⟨o,e⟩,λh1 h2 ⟨mA,n,r⟩ k=>⟨mA,n.at k,r⟩⟩
structure Xc where
 c:Str
 ns:List Str
 ds:List D
def SN(K:Frag)(H:Hp)(cls:Value)(dx:Option Addr)(x:Xc):Prop:=∃C vs,cls=.ref C/\yd K x.c C=true/\(∀f∈x.ns,findIn K (.ref C) f=some none)/\XF H dx x.ns vs/\bV K H vs x.ds
theorem SN.ext{K:Frag}{H H':Hp}{cls:Value}{dx:Option Addr}{x:Xc}(f:SN K H cls dx x)(h:∀b o,H b=some o->H' b=some o):SN K H' cls dx x:=by obtain⟨C,vs,e,s,fq,a,r⟩:=f;exact⟨C,vs,e,s,fq,a.pres λb o _ q=>h b o q,r.pres λb o _ q=>h b o q⟩
section
variable{X:Cx}{ab:List (Addr×Obj)}{σ:St}{H:Hp}{s:Shared}
theorem Vk.there{P:Program}{w:World}{H:Hp}{h:Heap}(x:Vk P w H h){b:Addr}{o:HO}(e:H b=some o):∃u,h.get? b=some u:=by
 have lt:=x.lt e
 cases o with
 |lst xs=>obtain⟨_,_,_,_,e⟩:=x b _ e;exact⟨_,e⟩
 |tup xs=>obtain⟨_,_,_,o,e,_⟩:=x b _ e;exact⟨_,e⟩
 |dK kvs=>obtain⟨_,_,_,_,o,_,_,e,_⟩:=x b _ e;exact⟨_,e⟩
 |dT kvs=>obtain⟨_,_,_,_,o,_,_,e,_⟩:=x b _ e;exact⟨_,e⟩
 |set S n=>obtain⟨o,_,_,_,e,_⟩:=x b _ e;exact⟨_,e⟩
 |ins C dx fs=>obtain⟨_,_,_,e,_⟩:=x b _ e;exact⟨_,e⟩
 |own y=>obtain⟨_,e⟩:=x b _ e;exact⟨_,e⟩
 |xd fs=>obtain⟨_,⟨_,_,_,e,_⟩,_⟩:=x b _ e;exact⟨_,e⟩
 |rng lo hi=>obtain⟨_,_,_,e⟩:=x b _ e;exact⟨_,e⟩
 |frz ob u=>obtain⟨e,_⟩:=x b _ e;exact⟨_,e⟩
 |tbl t=>obtain⟨_,e,_⟩:=x b _ e;exact⟨_,e⟩
 |met f y=>exact⟨_,(show h.get? b=some _ from x b _ e)⟩
 |ext φ=>obtain⟨_,⟨_,e⟩,_⟩:=x b _ e;exact⟨_,e⟩
structure WO (X:Cx) (ab:List (Addr×Obj)) (b:Addr):Prop where
 s0:X.s₀.heap.objs.size<=b
 loc:b≠X.env.locals
 cel:∀x c,X.env.cells.lookup x=some c->c≠b
 pin:∀p∈X.pn++ab,p.1≠b
theorem Vr.newer(I:Vr X ab σ H s){b:Addr}(h:s.heap.objs.size<=b):WO X ab b:=by
 refine⟨ZR I.sz h,λz=>?_,λx c e z=>?_,λp hp z=>?_⟩
 . have:=I.lt;rw[<- z]at this;exact absurd this (Nat.not_lt.mpr h)
 . obtain⟨v,o,ho,_⟩:=I.cell x c e;have:=ZV ho;rw[z]at this;exact absurd this (Nat.not_lt.mpr h)
 . have:=ZV (I.pin p hp).1;rw[z]at this;exact absurd this (Nat.not_lt.mpr h)
end
abbrev WQ:=List D->(L->Prop)->(Xc->Prop)->Prop
theorem aJ.ds{K:Frag}{H:Hp}:∀{vs:List V}{ds:List D},bV K H vs ds->Paired (bf K H) (vs.map some) (ds.map .d)
 |_,_,.nil=>.nil
 |_,_,.cons h t=>.cons ⟨_,rfl,h⟩ (aJ.ds t)
end L2
namespace L2
open PySem PySem.Spec PyProof.Rows
section
variable{κ:Type}[DecidableEq κ]
theorem KV.length{kvs:List (κ×V)}{vs:List (κ×Value)}(r:KV kvs vs):kvs.length=vs.length:=Paired.length r
end
abbrev DR(K:W.Frag)(H:Hp):List (Vi×V)->List (Vi×D)->Prop:=Paired λ(p:Vi×V) (q:Vi×D)=>p.1=q.1/\V6 K H p.2 q.2
theorem DR.pres{K:W.Frag}{H H':Hp}(p:ye H H'){vs:List (Vi×V)}{kvs:List (Vi×D)}(h:DR K H vs kvs):DR K H' vs kvs:=Paired.mapP h λ_ _ z=>⟨z.1,z.2.pres p⟩
section
variable{X:Cx}
noncomputable def Ri:D->Bool
 |.int _=>true
 |.str _=>true
 |.bl _=>true
 |.non=>true
 |_=>false
inductive WR (X:Cx):List (Option Expr)->List Expr->List (Vi×D)->Prop where
 |nil:WR X [] [] []
 |int {k v:Expr} {ks:List (Option Expr)} {vs:List Expr} {i:Int} {d:D} {kvs:List (Vi×D)} (hk:PL X k (wC (.int i))) (hv:PL X v (wC d)) (hf:Ri d=true) (t:WR X ks vs kvs):WR X (some k::ks) (v::vs) ((.inl i,d)::kvs)
 |str {k v:Expr} {ks:List (Option Expr)} {vs:List Expr} {y:Str} {d:D} {kvs:List (Vi×D)} (hk:PL X k (wC (.str y))) (hv:PL X v (wC d)) (hf:Ri d=true) (t:WR X ks vs kvs):WR X (some k::ks) (v::vs) ((.inr y,d)::kvs)
theorem WR.len:∀{ks:List (Option Expr)}{vs:List Expr}{kvs:List (Vi×D)},WR X ks vs kvs->ks.all (·.isSome)=true/\ks.length=vs.length/\ks.length=kvs.length
 |_,_,_,.nil=>⟨rfl,rfl,rfl⟩
 | _,_,_,.int _ _ _ t=>by obtain⟨h1,h2,h3⟩:=t.len;simp[h1,h2,<- h3]
 | _,_,_,.str _ _ _ t=>by obtain⟨h1,h2,h3⟩:=t.len;simp[h1,h2,<- h3]
end
end L2
namespace L2
open PySem PySem.Spec PyProof.Rows PySem.SeqAt
mutual
noncomputable def Ik:Nat->D->Bool
 |_,.non=>true
 |_,.bl _=>true
 |_,.int _=>true
 |_,.str _=>true
 |n+1,.tup xs=>CW n xs
 |n+1,.lst xs=>CW n xs
 |n+1,.dct m=>m == 0
 |_,_=>false
noncomputable def CW:Nat->List D->Bool
 |_,[]=>true
 |n,x::xs=>Ik n x && CW n xs
end
mutual
noncomputable def Gg:D->Nat
 |.int _=>602
 |.str x=>10*x.length+2
 |.tup xs=>A8 xs+3
 |.lst xs=>A8 xs+3
 |_=>6
noncomputable def A8:List D->Nat
 |[]=>0
 |x::xs=>Gg x+2+A8 xs
end
mutual
theorem Il:∀d:D,(Wo d).leavesShort 601=true->(Wo d).shown.length<=Gg d
 |.non,_=>by decide
 |.bl b,_=>by cases b<;>decide
 | .int i,h=>by
  have e:(PyData.shown (.int i)).length<=601:=by simpa only[Wo,PyData.leavesShort,ZX]using h
  exact Nat.le_succ_of_le e
 | .str x,h=>by
  have hx:∀c∈x.cps.toList,c<16^8:=by simpa only[Wo,PyData.leavesShort,aaP,ZX]using h
  have e:=PySem.StrLaws.reprText_len x hx
  simp only[Wo,PyData.shown,Gg]
  omega
 | .tup xs,h=>by
  have h1:=CY xs (by simpa only[Wo,PyData.leavesShort]using h)
  have h2:=tupleText_len_le (PyData.shownAll (gT xs))
  have h3:=PyData.shownAll_length (gT xs)
  simp only[Wo,PyData.shown,Gg]
  omega
 | .lst xs,h=>by
  have h1:=CY xs (by simpa only[Wo,PyData.leavesShort]using h)
  have h2:=listText_len_le (PyData.shownAll (gT xs))
  have h3:=PyData.shownAll_length (gT xs)
  simp only[Wo,PyData.shown,Gg]
  omega
 |.dct _,_=>by simp only[Wo,Gg];decide
 |.exc _ _ _,_=>by simp only[Wo,Gg];decide
 |.fn _ _,_=>by simp only[Wo,Gg];decide
 |.dk _ _,_=>by simp only[Wo,Gg];decide
 |.gf _,_=>by simp only[Wo,Gg];decide
theorem CY:∀ds:List D,PyData.leavesShortAll 601 (gT ds)=true->((PyData.shownAll (gT ds)).map (·.length)).sum+2*(gT ds).length<=A8 ds
 |[],_=>by simp only[gT,PyData.shownAll,List.map_nil,List.sum_nil,List.length_nil,A8];omega
 | d::ds,h=>by
  have h':(Wo d).leavesShort 601=true/\PyData.leavesShortAll 601 (gT ds)=true:=by simpa only[gT,PyData.leavesShortAll,Z5]using h
  have h1:=Il d h'.1
  have h2:=CY ds h'.2
  simp only[gT,PyData.shownAll,aae,abO,aa8,A8]
  omega
end
structure SO (d:D):Prop where
 ok:WA 40 d=true
 sh:iN d=true
 ln:(Wo d).shown.length<=sizeLine
theorem EC.l{d:D}(h:EC d):SO d:=⟨h.ok,h.sh,h.len⟩
end L2
namespace L2
open PySem PySem.Spec PyProof.Rows
end L2
namespace L2
open PySem PySem.Spec PyProof.Rows PySem.W
end L2
namespace L2
open PySem PySem.Spec PyProof.Rows
end L2
namespace L2
open PySem PySem.Spec PyProof.Rows PySem.SeqAt
mutual
noncomputable def WS:D->Bool
 |.dct n=>n == 0
 |.exc _ _ _=>false
 |.fn _ _=>false
 |.dk _ _=>false
 |.gf _=>false
 |.tup xs=>OF xs
 |.lst xs=>OF xs
 |.str x=>PyData.strOk x
 |_=>true
noncomputable def OF:List D->Bool
 |[]=>true
 |x::xs=>WS x && OF xs
end
mutual
theorem va:∀d:D,WS d=true->iN d=true->(Wo d).leavesShort 601=true
 |.non,_,_=>rfl
 |.bl _,_,_=>rfl
 |.dct _,_,_=>rfl
 |.exc _ _ _,h,_=>by simp[WS]at h
 |.fn _ _,h,_=>by simp[WS]at h
 |.dk _ _,h,_=>by simp[WS]at h
 |.gf _,h,_=>by simp[WS]at h
 | .int i,_,h=>by
  have:=(uu (.int i) h).1
  simpa only[Wo,PyData.leavesShort,PyData.intsShort]using this
 |.str x,h,hs=>PyData.leavesShort_of_canLay0 601 (.str x) (by simpa only[WS,PyData.canLay0]using h) (uu (.str x) hs).1
 | .tup xs,h,hs=>by
  have:=rk xs (by simpa only[WS]using h) (by simpa only[iN]using hs)
  simpa only[Wo,PyData.leavesShort]using this
 | .lst xs,h,hs=>by
  have:=rk xs (by simpa only[WS]using h) (by simpa only[iN]using hs)
  simpa only[Wo,PyData.leavesShort]using this
theorem rk:∀ds:List D,OF ds=true->kc ds=true->PyData.leavesShortAll 601 (gT ds)=true
 |[],_,_=>rfl
 | d::ds,h,hs=>by
  simp only[OF,Z5]at h
  simp only[kc,Z5]at hs
  simp only[gT,PyData.leavesShortAll,va d h.1 hs.1,rk ds h.2 hs.2,Bool.and_self]
end
structure Um (d:D):Prop where
 ok:WS d=true
 sh:iN d=true
 dp:(Wo d).depth<=40
 sg:Gg d<=16777216
 ni:∀i,d≠.int i
theorem Um.len{d:D}(h:Um d):(Wo d).shown.length<=sizeLine:=by
 have e:sizeLine=16777216:=by decide
 rw[e];exact ZR (Il d (va d h.ok h.sh)) h.sg
end L2
namespace L2
open PySem PySem.Spec PyProof.Rows
section
def Rj(o:Option L)(i k:Nat)(Z:Ev)(js:L->Ev->Prop):Prop:=match o with
 |some (.bx none ls)=>∃l,ls[k]?=some l/\js l (Z.set i (.bx none (ls.set k .un)))
 |some (.d (.tup ds))=>∃d,ds[k]?=some d/\js (.d d) Z
 |_=>False
theorem Le(ls:List L)(i k:Nat)(Z:Ev)(js:L->Ev->Prop):Rj (some (.bx none ls)) i k Z js=∃l,ls[k]?=some l/\js l (Z.set i (.bx none (ls.set k .un))):=rfl
theorem OG(ds:List D)(i k:Nat)(Z:Ev)(js:L->Ev->Prop):Rj (some (.d (.tup ds))) i k Z js=∃d,ds[k]?=some d/\js (.d d) Z:=rfl
end
section
def SQ(r:L)(Z:Ev)(js:L->Ev->Prop):Prop:=match r with
 |.bx (some _) ls=>js (.bx none ls) Z
 |_=>False
theorem Lf(a:Addr)(ls:List L)(Z:Ev)(js:L->Ev->Prop):SQ (.bx (some a) ls) Z js=js (.bx none ls) Z:=rfl
end
end L2
namespace L2
open PySem PySem.Spec PyProof.Rows PySem.W
theorem yV{p:Pos}{a b:Int}{c cv:Value}(l:List Value)(h:TriplesOk l)(e:codeAmong p (l++[rawInt a,rawInt b,c])=some cv):codeAmong p l=some cv∨cv=c:=by
 fun_induction TriplesOk l with
 | case1 =>
  simp only[aa5,codeAmong,rawInt]at e;split at e
  . cases e;exact .inr rfl
  . cases e
 | case2 a' t b' u x rest ih =>
  simp only[abV,codeAmong]at e ⊢;split at e
  . rename_i hc;rw[if_pos hc];exact .inl e
  . rename_i hc;rw[if_neg hc];exact ih h e
 |case3 l h1 h2=>exact h.elim
theorem A9{cells:List (Str×Addr)}:∀(names:List (Str×NameKind))(acc:List (Str×Addr)),(names.filter λp=>p.2 == .free)=[]->AV cells names acc=acc
 |[],_,_=>rfl
 | (n,k)::r,acc,h=>by
  rw[aao]at h;unfold AV;by_cases hk:(k == NameKind.free)=true
  . rw[if_pos hk]at h;cases h
  . rw[if_neg hk]at h;rw[if_neg hk];exact A9 r acc h
theorem EJ{cells:List (Str×Addr)}{y:Str}{c:Addr}(hc:cells.lookup y=some c):∀(names:List (Str×NameKind))(acc:List (Str×Addr)),(names.filter λp=>p.2 == .free)=[(y,.free)]->AV cells names acc=(y,c)::acc
 |[],_,h=>by cases h
 | (n,k)::r,acc,h=>by
  rw[aao]at h;unfold AV;by_cases hk:(k == NameKind.free)=true
  . rw[if_pos hk]at h;simp only[List.cons.injEq,Prod.mk.injEq]at h;obtain⟨⟨h1,h2⟩,h3⟩:=h;subst h1;rw[if_pos hk,hc];exact A9 r _ h3
  . rw[if_neg hk]at h;rw[if_neg hk];exact EJ hc r acc h
section
variable{X:Cx}{ab:List (Addr×Obj)}{σ:St}{H:Hp}{s:Shared}
theorem Lg{x:Str}{c0 P c:Addr}{y:Str}{pr:Arguments}{bd:Expr}{sc:Scope}{pos:Pos}{Q:Value->Shared->Prop}{E:Value->Shared->Prop}{A:Around}
  (I:Vr X ab σ H s) (hx:x∈lamNames) (ht:tabIn X.K x=some (c0,P)) (hcode:X.env.code=.ref c0) (hq:X.env.qual++"<lambda>"=ya x) (hcl:closureFor sc X.env=pure [(y,c)]) (hdef:defaultsOf pr X.env=([],[]))
  (h:∀(f c':Addr)(oq:Obj)(H':Hp)(s':Shared)(ctv pm:Value),Vr X ab σ H' s'->(∀ b o,H b=some o->H' b=some o)->s'.heap.get? f=some (kla_obj "<lambda>" (ya x) pr bd sc [(y,c)] pm c' ctv)->H' f=none->s.heap.objs.size<=f ->
   H' c'=some (.frz oq (.own c'))->uE oq (ya x)->Q (.ref f) s'):wpAny (model X.prog X.w) A (eval (.Lambda pr bd sc pos) X.env) Q E s:=by
 have hP:=I.tbs x hx c0 P ht;obtain⟨ps,eP,tr,among⟩:=id (I.hok P _ hP);have C:CodeHd s.heap c0 P:=(I.ok.mod.cds x hx c0 P ht).keeps I.bk;have hg:s.heap.Ns mainGlobals X.mg:=I.ok.mod.glob.keeps I.bk;obtain⟨bm,ob,b1,b2,b3,b4,b5,b6⟩:=I.ok.mod.bmn;have hbk:=I.bk bm ob b3;have hgP:mainGlobals≠P:=λz=>by obtain⟨o,es,ep,e,hd,_⟩:=hg;rw[z,eP]at e;cases e;cases hd
 have hbP:bm≠P:=λz=>by rw[z,eP]at hbk;cases hbk;cases b4
 have hbG:bm≠mainGlobals:=λz=>by obtain⟨o,es,ep,e,hd,_⟩:=hg;rw[z,e]at hbk;cases hbk;rw[hd]at b6;cases b6
 refine kla_eval hdef ?_;rw[hq]
 cases q:codeAmong pos ps.toList with
 | none =>
  refine kla_makeFunction (mg:=X.mg) hcl I.ok.glob hg hcode C eP tr q hgP ⟨bm,ob,b1,b2,hbG,hbP,hbk,b4,b5,b6⟩ λc' ctv h' tk hx' hge hlt hrec htb=>?_;obtain⟨c2,oq,vs,t,e2,hoc,hd,hv⟩:=hrec;cases e2;have hn:H c'=none:=I.hok.fresh hge;have nP:∀b,H b=none->b≠P:=λb n z=>by rw[z,hP]at n;cases n
  have old:∀ b o,b≠P->s.heap.get? b=some o->(h'.push (kla_obj "<lambda>" (ya x) pr bd sc [(y,c)] ((X.mg "__name__").getD .none) c' ctv)).get? b=some o:=λb o nb e=>ZO _ (hx' b o nb e);have up:∀b u,H b=some u->Vj H c' (.frz oq (.own c')) b=some u:=λb u e=>by rw[aH (bC e hn)];exact e
  have co:uE oq (ya x):=⟨vs,t,hd,hv⟩
  have J:Vr X ab σ (Vj H c' (.frz oq (.own c'))) {s with heap:=h'.push (kla_obj "<lambda>" (ya x) pr bd sc [(y,c)] ((X.mg "__name__").getD .none) c' ctv),toks:=tk}:=by
   refine I.un ⟨λb o e n _ _=>old b o (nP b n) e,λb o e n _ _=>⟨o.slots,old b o (nP b n) e⟩,λb o e n _=>?_,λb o e _=>?_,λb xs e=>up b _ e,λb o u e=>up b _ e,λb t e=>up b _ e⟩ λb u e=>?_
   . rw[aH (aar (k5 (ZV e) hge))];exact n
   .
    by_cases z:b=P
    . subst z;exact⟨_,ZO _ htb⟩
    . exact⟨o,old b o z e⟩
   .
    by_cases z:b=c'
    . subst z;rw[bu]at e;cases e;exact⟨ZO _ hoc,⟨_,ZO _ hoc⟩⟩
    .
     rw[aH z]at e;by_cases zP:b=P
     .
      subst zP;rw[hP]at e;cases e;refine⟨_,ZO _ htb,?_,λpos' cv hc'=>?_⟩
      . rw[Array.toList_append];exact TriplesOk_snoc _ _ _ _ tr
      .
       rw[Array.toList_append]at hc';rcases yV _ tr hc' with z1|z1
       . obtain⟨c3,o3,a1,a2,a3⟩:=among pos' cv z1;exact⟨c3,o3,a1,up _ _ a2,a3⟩
       . exact⟨c',oq,z1,bu,co⟩
     .
      refine(I.hok b u e).stay (λd v hd z2=>old d v ?_ z2) (λd z2=>up d _ z2) (λd xs z2=>up d _ z2) λd od _ _ z2=>up d _ z2;rcases hd with rfl|hd
      . exact zP
      . intro z3;rw[z3,hP]at hd;cases hd
  exact h _ c' oq _ _ ctv _ J up (aah _ rfl) (by rw[aH (Nat.ne_of_gt hlt)];exact I.hok.fresh (ZR hge (aa1 hlt))) (ZR hge (aa1 hlt)) bu co
 | some cv =>
  obtain⟨c',oq,rfl,hz,co⟩:=among pos cv q;refine kla_makeFunctionHit (mg:=X.mg) hcl I.ok.glob hg hcode C eP tr q ⟨bm,ob,b1,b2,hbG,hbP,hbk,b4,b5,b6⟩ λctv h' tk hk hsz=>?_;exact h _ c' oq H _ ctv _ (I.kept λb o e=>ZO _ (hk b o e)) (λ_ _ e=>e) (aah _ rfl) (I.hok.fresh hsz) hsz hz co
end
def Rk(K:Frag)(H:Hp)(h:Heap)(f:Addr)(x:Str)(d:D):Prop:=∃(c c':Addr)(oc oq:Obj)(y:Str)(pr:Arguments)(bd:Expr)(sc:Scope)(pos:Pos)(pm ctv u:Value)(v:V),
 FT K x=some (pr,bd,sc,pos)/\h.get? f=some (kla_obj "<lambda>" (ya x) pr bd sc [(y,c)] pm c' ctv)/\h.get? c'=some oq/\uE oq (ya x)/\h.get? c=some oc/\(H c=none∨∃ o,H c=some (.frz o (.own c)))/\oc.data=.cell (some u)/\cO v u/\(y,NameKind.free)∈sc.names/\V6 K H v d
noncomputable def OH(P:Program)(w:World)(K:Frag)(mg:Str->Option Value)(base:Heap)(p y:Str)(qual:Str)(sc:Scope)(f c':Addr)(cl:List (Str×Addr))(A:Around)(outer:List Env)(s:Shared)(H:Hp):Cx where
 prog:=P
 w:=w
 K:=K
 mg:=mg
 base:=base
 A:=A.deeper (envX qual sc s.heap.objs.size f (.ref c') cl)
 N:=[p,y]
 s₀:=s
 H₀:=H
 env:=envX qual sc s.heap.objs.size f (.ref c') cl
 outer:=outer
 stack:=envX qual sc s.heap.objs.size f (.ref c') cl::outer
 ex:=[]
 calm:=true
 fn:=λ_=>false
 pn:=[]
 xe:=λ_ _=>False
structure OI (p y:Str) (pr:Arguments) (bd:Expr) (sc:Scope):Prop where
 par:sc.names.lookup p=some .local
 fre:sc.names.lookup y=some .free
 nc:∀z∈sc.names,z.2≠.cell
 one:∀z,(z,NameKind.free)∈sc.names->z=y
 co:sc.isCoroutine=false
 gen:sc.isGenerator=false
 kind:sc.kind=.function
 bind:∀(q:Str)(cl:List (Str×Addr))(pm cdv ct u:Value),bindArgs (kla_fn "<lambda>" q pr bd sc cl pm cdv ct) ⟨[u],[]⟩=pure [(p,u)]
def Sn(r:L)(k:D->Prop):Prop:=match r with
 |.d z=>k z
 |_=>False
theorem OJ{r:L}{k:D->Prop}(h:Sn r k):∃z,r=.d z/\k z:=by
 cases r with
 |d z=>exact⟨z,rfl,h⟩
 |_=>exact h.elim
structure OK (P:Program) (w:World) (K:Frag) (mg:Str->Option Value) (base:Heap) (k:Nat) (x:Str) (fs:FS):Prop where
 run:∀(A:Around)(outer:List Env)(s:Shared)(H:Hp)(f:Addr)(u:Value)(v:V)(a d:D)(js:D->Prop),oI k A->KD P w K mg base A outer s H->cO v u->V6 K H v a->Rk K H s.heap f x d->fs [.d a,.d d] (λr _=>Sn r js) ->
  codeAny (model P w) A (.call (.ref f) ⟨[u],[]⟩) (CR CX0 outer P w H s (λv H'=>(∀b o,H b=some o->H' b=some o)/\∃z,V6 K H' v z/\js z) E0) s
theorem OL{P:Program}{w:World}{K:Frag}{mg:Str->Option Value}{base:Heap}{p y:Str}{qual:Str}{pr:Arguments}{bd:Expr}{sc:Scope}{f c c':Addr}{A:Around}{outer:List Env}{s:Shared}{H:Hp}{h1:Heap}{tk:Nat}{u u':Value}{v v':V}{oc:Obj}
  (S:OI p y pr bd sc) (hd:A.handled=none) (e0:KD P w K mg base A outer s H) (r:cO v u) (r':cO v' u') (gc:s.heap.get? c=some oc) (dc:oc.data=.cell (some u')) (hc:H c=none∨∃o,H c=some (.frz o (.own c)))
  (hns:h1.Ns s.heap.objs.size λz=>[(p,u)].reverse.lookup z) (k:∀b o,s.heap.get? b=some o->h1.get? b=some o) :
  Vr (OH P w K mg base p y qual sc f c' [(y,c)] A outer s H) [] [some v,some v'] H {s with heap:=h1,toks:=tk}:=by
 have hpy:p≠y:=λz=>by have:=S.par;rw[z,S.fre]at this;cases this
 have one:∀z d,([(y,c)]:List (Str×Addr)).lookup z=some d->z=y/\d=c:=λz d e=>by
  rw[aaA]at e
  cases q:z == y with
  |true=>rw[q]at e;cases e;exact⟨eq_of_beq q,rfl⟩
  |false=>rw[q]at e;cases e
 have at_y:([(y,c)]:List (Str×Addr)).lookup y=some c:=by rw[aaA,beq_self_eq_true]
 have noA:∀b:Addr,b∉(OH P w K mg base p y qual sc f c' [(y,c)] A outer s H).ex:=λb z=>absurd (show b∈([]:List Addr)from z) x_
 refine⟨⟨e0.mod,S.kind,rfl,rfl,ZY _,λa b d h1 h2=>?_,λz hz=>?_,λz d hf _=>absurd (show false=true from hf) xp,λ_=>hd,Around.frames_deeper e0.frames,.inr ⟨rfl,rfl⟩,λb z=>absurd z (noA b),e0.bs,e0.bsz,λb _ _=>noA b,λb z=>absurd z (noA b),e0.funs,e0.frf,e0.tbs⟩,
  rfl,e0.bare,Un.kept k,⟨_,hns,λi z v2 h1 h2 h3=>?_⟩,λz d h=>?_,e0.hok.fresh (ZY _),λz d h=>?_,λq hq=>absurd (show q∈([]:List (Addr×Obj))from hq) x_,e0.hok.kept k,rfl⟩
 . exact(one a d h1).1.trans (one b d h2).1.symm
 .
  have hz:sc.names.lookup z=some .cell∨sc.names.lookup z=some .free:=hz;rcases hz with hz|hz
  . exact absurd rfl (S.nc _ (abd hz))
  . rw[S.one z (abd hz)];exact⟨c,at_y⟩
 .
  match i,h1,h2 with
  | 0,h1,h2 =>
   have e1:p=z:=aaf h1;have e2:v=v2:=by simpa using h2
   subst e1 e2;exact⟨u,r,.inl ⟨S.par,x_⟩⟩
  | 1,h1,h2 =>
   have e1:y=z:=aaf h1;have e2:v'=v2:=by simpa using h2
   subst e1 e2;exact⟨u',r',.inr ⟨.inr S.fre,c,at_y,oc,k c oc gc,dc⟩⟩
  |n+2,h1,h2=>simp at h2
 . obtain⟨_,rfl⟩:=one z d h;exact⟨_,oc,k d oc gc,dc⟩
 . obtain⟨_,rfl⟩:=one z d h;exact hc.imp id λz=>⟨rfl,z⟩
theorem Rl{P:Program}{w:World}{K:Frag}{mg:Str->Option Value}{base:Heap}{k:Nat}{x p y:Str}{pr:Arguments}{bd:Expr}{sc:Scope}{pos:Pos}{fs:FS}(hl:FT K x=some (pr,bd,sc,pos))(S:OI p y pr bd sc)(t:W L)
  (hbody:∀(A:Around)(outer:List Env)(s:Shared)(H:Hp)(f c c':Addr),oI k (A.deeper (envX (ya x) sc s.heap.objs.size f (.ref c') [(y,c)]))->PL (OH P w K mg base p y (ya x) sc f c' [(y,c)] A outer s H) bd t)
  (h:∀a d js,fs [.d a,.d d] js->t [.d a,.d d] λr _=>js r []):OK P w K mg base (k+1) x fs:=by
 refine⟨λA outer s H f u v a d js hr e0 rv ra la hf=>?_⟩;obtain⟨c,c',oc,oq,y',pr',bd',sc',pos',pm,ctv,u',v',hl',gf,gq,hq,gc,hc,dc,rv',hm,rd⟩:=la;rw[hl]at hl';cases hl';obtain rfl:=S.one y' hm;obtain⟨vs,tq,hd1,hd2⟩:=hq;have lim:s.heap.NoLimit:=e0.mod.nolimit.keeps λb o e=>(e0.bs b o e).1;refine kla_callFunE hr.depth gf rfl S.co S.gen rfl ⟨c',oq,vs,tq,rfl,gq,hd1,hd2⟩ ?_;rw[S.bind]
 refine aai (wpAny_newFunctionEnv S.nc (λz hz=>by
  have:z=(p,u):=by simpa using hz
  subst this;exact S.par) (λh₁ hns hsb=>⟨lim.fresh _ hsb,?_⟩) S.kind)
 have hk₁:∀b o,s.heap.get? b=some o->h₁.get? b=some o:=λb o e=>hsb.extBut b o (aar (ZV e)) (ZO _ e);show codeAny _ _ (.expr bd (envX (ya x) sc s.heap.objs.size f (.ref c') [(y',c)])) _ _;have I:=OL (P:=P) (w:=w) (K:=K) (mg:=mg) (base:=base) (qual:=ya x) (f:=f) (c':=c') (tk:=s.toks+[(p,u)].length) S hr.hd e0 rv rv' gc dc hc hns hk₁;have E:aJ K H H [some v,some v'] [.d a,.d d]:=⟨λ_ _ e=>e,List.nodup_nil,λa ha=>absurd (show a∈([]:List Addr)from ha) x_,.cons ⟨v,rfl,ra⟩ (.cons ⟨v',rfl,rd⟩ .nil)⟩;refine kla_codeExpr (abn (hbody A outer s H f c c' (hr.deeper _) [] _ _ H H _ (λr _=>Sn r js) I E (h a d _ hf)) (λv2 s' hs=>?_) λe s' hs=>(show False from hs).elim);obtain⟨v3,H',r,Z',J,rv3,E',q⟩:=hs;obtain⟨z,rfl,hp⟩:=OJ q;obtain⟨w3,e3,rz⟩:=E'.head_d;cases e3;exact⟨v3,H',J.os,J.bare,J.base,J.hok,rv3,E'.sub,z,rz,hp⟩
def SR(i:Nat)(Z:Ev)(k:D->Prop):Prop:=match Z[i]? with
 |some (.d x)=>k x
 |_=>False
theorem OM{i:Nat}{Z:Ev}{k:D->Prop}(h:SR i Z k):∃x,Z[i]?=some (.d x)/\k x:=by
 unfold SR at h;split at h
 . rename_i x q;exact⟨x,q,h⟩
 . exact h.elim
theorem Un.one{P:Program}{w:World}{fs:List Addr}{H H':Hp}{h h':Heap}{c:Addr}{oc:Obj}(hc:H c=none)(gc:h.get? c=some oc)(cc:∀q,¬uE oc q)(u:Un fs [] (Vj H c (.frz oc (.own c))) H' h h')(ok:Vk P w H' h') :
  Un fs [] H (WN H' c) h h'/\Vk P w (WN H' c) h':=by
 have zc:H' c=some (.frz oc (.own c)):=u.frzs c oc _ bu;have gc':h'.get? c=some oc:=(ok c _ zc).1;have nz:∀b o,H' b=some o->o≠.frz oc (.own c)->b≠c:=λb o e n z=>by subst z;rw[zc]at e;cases e;exact n rfl
 refine⟨⟨λb o e n hb hx=>?_,λb o e n hb hx=>?_,λb o e n hx=>?_,λb o e hx=>u.there b o e hx,λb xs e=>?_,λb o v e=>?_,λb t e=>?_⟩,λb o e=>?_⟩
 .
  by_cases z:b=c
  . subst z;rw[gc]at e;cases e;exact gc'
  . exact u.keep b o e (by rw[aH z];exact n) hb hx
 .
  by_cases z:b=c
  . subst z;rw[gc]at e;cases e;exact⟨oc.slots,gc'⟩
  . exact u.slot b o e (by rw[aH z];exact n) hb hx
 .
  by_cases z:b=c
  . subst z;exact EH
  . rw[sR z];exact u.free b o e (by rw[aH z];exact n) hx
 . have z:=bC e hc;rw[sR z];exact u.tups b xs (by rw[aH z];exact e)
 . have z:=bC e hc;rw[sR z];exact u.frzs b o v (by rw[aH z];exact e)
 . have z:=bC e hc;rw[sR z];exact u.tbls b t (by rw[aH z];exact e)
 .
  have hb:b≠c:=λz=>by subst z;rw[EH]at e;cases e
  rw[sR hb]at e;refine(ok b o e).stay (λ_ _ _ z=>z) (λd z=>?_) (λd xs z=>?_) λd od q co z=>?_
  . rw[sR (nz d _ z λy=>nomatch y)];exact z
  . rw[sR (nz d _ z λy=>nomatch y)];exact z
  . rw[sR (nz d _ z λy=>by cases y;exact cc q co)];exact z
structure Rm (X:Cx) (x y:Str) (i:Nat) (pr:Arguments) (bd:Expr) (sc:Scope) (pos:Pos):Prop where
 mem:x∈lamNames
 tab:∃c0 P,tabIn X.K x=some (c0,P)/\X.env.code=.ref c0
 lam:FT X.K x=some (pr,bd,sc,pos)
 qual:X.env.qual++"<lambda>"=ya x
 deft:defaultsOf pr X.env=([],[])
 fre:(sc.names.filter λp=>p.2 == .free)=[(y,.free)]
 at_i:X.N[i]?=some y
 cel:X.env.scope.names.lookup y=some .cell
 fn:X.fn y=true
structure Rn (K:Frag) (x:Str) (fd:FuncData) (st:Stmt):Prop where
 tab:∃c0 P,tabIn K x=some (c0,P)/\fd.code=.ref c0
 lam:FT K x=Hj (gv st)
theorem Rn.mk'{K:Frag}{x:Str}{fd:FuncData}{st:Stmt}{c0:Addr}(h1:(tabIn K x).map (·.1)=some c0)(h2:fd.code=.ref c0)(h3:FT K x=Hj (gv st)):Rn K x fd st:=by
 refine⟨?_,h3⟩
 cases z:tabIn K x with
 |none=>rw[z]at h1;cases h1
 |some p=>rw[z]at h1;cases h1;exact⟨p.1,p.2,rfl,h2⟩
theorem Ro{X:Cx}{x y:Str}{i:Nat}{pr:Arguments}{bd:Expr}{sc:Scope}{pos:Pos}{fd:FuncData}{st:Stmt}(T:Rn X.K x fd st)(hc:fd.code=X.env.code)(h1:Hj (gv st)=some (pr,bd,sc,pos))(mem:x∈lamNames) (qual:X.env.qual++"<lambda>"=ya x) (deft:defaultsOf pr X.env=([],[]))
  (fre:(sc.names.filter λp=>p.2 == .free)=[(y,.free)]) (at_i:X.N[i]?=some y) (cel:X.env.scope.names.lookup y=some .cell) (fn:X.fn y=true):Rm X x y i pr bd sc pos :=
 ⟨mem,let ⟨c0,P,a,b⟩:=T.tab;⟨c0,P,a,by rw[<- hc];exact b⟩,T.lam.trans h1,qual,deft,fre,at_i,cel,fn⟩
theorem SS{p y:Str}{pr:Arguments}{bd:Expr}{sc:Scope}(par:sc.names.lookup p=some .local)(fre:(sc.names.filter λp=>p.2 == .free)=[(y,.free)])(fr1:sc.names.lookup y=some .free)(nc:(sc.names.all λz=>z.2 != .cell)=true)(co:sc.isCoroutine=false)(gk:(sc.isGenerator,sc.kind)=(false,.function))
  (bind:∀(q:Str)(cl:List (Str×Addr))(pm cdv ct u:Value),bindArgs (kla_fn "<lambda>" q pr bd sc cl pm cdv ct) ⟨[u],[]⟩=pure [(p,u)]):OI p y pr bd sc where
 par:=par
 fre:=fr1
 nc:=λz hz q=>by have:=aaP.mp nc z hz;rw[q]at this;exact absurd this xp
 one:=λz hz=>by have:(z,NameKind.free)∈sc.names.filter λp=>p.2 == .free:=aam.mpr ⟨hz,rfl⟩;rw[fre]at this;simpa using this
 co:=co
 gen:=(Prod.mk.inj gk).1
 kind:=(Prod.mk.inj gk).2
 bind:=bind
section
variable{X:Cx}{ab:List (Addr×Obj)}{σ:St}{H:Hp}{s:Shared}
theorem WO.nofs{b:Addr}(I:Vr X ab σ H s)(n:WO X ab b):b∉Vo X.stack:=λhb=>by
 rcases ZU.mp (I.stkSub b hb)with z|z
 . exact n.loc z
 . obtain⟨_,o,ho,_⟩:=I.ok.funs.mem z;exact absurd (k5 (ZV ho) n.s0) (abf _)
theorem Vr.two{h':Heap}{t':Nat}{c d:Addr}(I:Vr X ab σ H s)(nc:WO X ab c)(nd:WO X ab d)(hc:H c=none)(hd:H d=none)(k:∀b o,b≠X.env.locals->b≠c->b≠d->s.heap.get? b=some o->h'.get? b=some o)
  (ns:∀m,s.heap.Ns X.env.locals m->h'.Ns X.env.locals m):Vr X ab σ H {s with heap:=h',toks:=t' }:=by
 have nit:∀b u,H b=some u->b≠X.env.locals/\b≠c/\b≠d:=λb u e=>⟨λz=>(by rw[z,I.free]at e;cases e),λz=>(by rw[z,hc]at e;cases e),λz=>(by rw[z,hd]at e;cases e)⟩
 refine I.step (g':=s.gens) (d':=s.drawn) (ch:=[c,d]) (λb hb=>?_) (λb o hL _ hb e _=>k b o hL (λz=>hb (by simp[z])) (λz=>hb (by simp[z])) e) (λb o hL _ hb e _=>⟨o.slots,k b o hL (λz=>hb (by simp[z])) (λz=>hb (by simp[z])) e⟩) (λ_ _ _ _ n=>n)
  (λb o hb e=>?_) (λ_ _ e=>e) (λ_ _ _ e=>e) (λ_ _ e=>e) ns (λb u e=>?_) I.bare
 .
  have:b=c∨b=d:=by simpa using hb
  rcases this with rfl|rfl
  . exact⟨.inr nc.s0,nc.loc,nc.cel,nc.pin⟩
  . exact⟨.inr nd.s0,nd.loc,nd.cel,nd.pin⟩
 .
  by_cases hL:b=X.env.locals
  . obtain⟨m,hn,_⟩:=I.loc;obtain⟨o2,_,_,e2,_⟩:=ns m hn;rw[hL];exact⟨o2,e2⟩
  . exact⟨o,k b o hL (λz=>hb (by simp[z])) (λz=>hb (by simp[z])) e⟩
 .
  refine(I.hok b u e).stay (λx v hx q=>?_) (λ_ q=>q) (λ_ _ q=>q) λ_ _ _ _ q=>q
  have:∃u,H x=some u:=by
   rcases hx with rfl|hx
   . exact⟨u,e⟩
   . exact⟨_,hx⟩
  obtain⟨u2,e2⟩:=this;obtain⟨n1,n2,n3⟩:=nit x u2 e2;exact k x v n1 n2 n3 q
def WT(X:Cx)(ab:List (Addr×Obj))(σ:St)(H:Hp)(kS a:Addr)(s:Shared):Prop:=∃H',Vr X ab σ H' s/\(∀b o,H b=some o->H' b=some o)/\H' kS=none/\H' a=none/\(∃o,s.heap.get? kS=some o)/\∃o,s.heap.get? a=some o
def WU(X:Cx)(ab:List (Addr×Obj))(σ:St)(H:Hp)(a:Addr)(s:Shared):Prop:=∃H',Vr X ab σ H' s/\(∀b o,H b=some o->H' b=some o)/\H' a=none
variable{kS a:Addr}{vs:List Value}{kz:List Int}{e1:Nat}{f:Value}{A':Around}{P:PySem.Fin->Shared->Prop}{E:Value->Shared->Prop}
theorem Lh(J0:WT X ab σ H kS a s)(nk:WO X ab kS)(na:WO X ab a)(hka:kS≠a) (gk:s.heap.get? kS=some (seqObj "list" #[] 0)) (ga:s.heap.get? a=some (seqObj "list" #[] e1)) (b0:kz.length=vs.length) (h64:vs.length < 64)
  (turn:∀(i:Nat)(v:Value)(k:Int),vs[i]?=some v->kz[i]?=some k->∀s',WT X ab σ H kS a s' ->
   wpAny (model X.prog X.w) A' (call f [v]) (λr s''=>∃t,r=.int k t/\WT X ab σ H kS a s''/\(∀o,s'.heap.get? kS=some o->s''.heap.get? kS=some o)/\∀o,s'.heap.get? a=some o->s''.heap.get? a=some o) (λ_ _=>False) s')
  (h:∀ s' out c,WU X ab σ H a s'->s'.heap.get? a=some (seqObj "list" out c)->KskOut false kz vs out.toList->P (.done (.ret .none)) s') :
  wpAny (model X.prog X.w) A' (ksk_rest a f false vs.toArray e1 (.ref kS)) P E s:=by
 unfold ksk_rest;refine ZQ (wpAny_rule ?_)
 first
  |rw[List.forIn_toArray]
  |(rw[<- Array.forIn_toList];simp only[List.toList_toArray])
  |rw[<- Array.forIn_toList]
 refine ZQ (ksk_fold (λi s'=>∃ kA e,WT X ab σ H kS a s'/\s'.heap.get? kS=some (seqObj "list" kA e)/\s'.heap.get? a=some (seqObj "list" #[] e1)/\IntsAre kA.toList (kz.take i)) vs 0 s
  ⟨#[],0,J0,gk,ga,by simpa using IntsAre.nil⟩ ?step ?done)
 case step =>
  rintro j x s' hx ⟨kA,e,J,g1,g2,hk⟩;simp only[Nat.zero_add]at hk ⊢;have hj:j<vs.length:=(so.mp hx).1;obtain⟨k,hkj⟩:∃k,kz[j]?=some k:=⟨_,gV xL⟩;have hz:kA.size<=vs.length:=by have h1:=hk.length;rw[Array.length_toList,abS]at h1;omega
  refine ZQ (wpAny_attempt (abn (turn j x k hx hkj s' J) (λv s'' he=>?_) λ_ _ hF=>hF.elim));obtain⟨t2,rfl,⟨H',I,up,hn1,hn2,_,_⟩,k1,k2⟩:=he
  try dsimp only
  have q1:=k1 _ g1;have q2:=k2 _ g2;have s1:=Heap.SameBut.update s''.heap kS (Obj.mapSeq (·.push (.int k t2)));obtain⟨c2,hc2⟩:∃ c2,(s''.heap.update kS (Obj.mapSeq (·.push (.int k t2)))).get? kS=some (seqObj "list" (kA.push (.int k t2)) c2):=⟨_,get?_update_seq q1 (·.push (.int k t2))⟩;have ek:kz.take (j+1)=kz.take j++[k]:=by rw[List.take_add_one,hkj];simp
  have ea:(kA.push (Value.int k t2)).toList=kA.toList++[Value.int k t2]:=by simp
  refine ZQ (listUpdate_at q1 rfl ?_ (by rw[sizeLine_eq];omega) (ZR (Nat.le_of_eq (Array.size_push ..)) (by rw[sizeLine_eq];omega)));refine aai ⟨rfl,kA.push (.int k t2),c2,⟨H',?_,up,hn1,hn2,⟨_,hc2⟩,⟨_,(s1.2 a hka.symm).trans q2⟩⟩,hc2,(s1.2 a hka.symm).trans q2,by rw[ea,ek];exact ksk_snoc hk⟩;exact I.two (t':=s''.toks) nk na hn1 hn2 (λb o _ n1 _ q=>(s1.2 b n1).trans q) λm hm=>hm.sameBut s1 (abe nk.loc)
 case done =>
  rintro s' ⟨kA,e,⟨H',I,up,hn1,hn2,_,_⟩,g1,g2,hk⟩;have hk':IntsAre kA.toList kz:=by have e3:kz.take (0+vs.length)=kz:=aas xL;rw[e3]at hk;exact hk
  try dsimp only
  refine ZQ (listItems_at g1 rfl ?_);obtain⟨m,hn,_⟩:=id I.loc;have F:Fr (Att.noObjs s'.heap) X.env.locals s'.heap m:=⟨hn,λb o z=>(by rw[Att.noObjs_get]at z;cases z),aaN _⟩;refine ksk_end_ (b:=false) (e:=e) (h₀:=Att.noObjs s'.heap) (L:=X.env.locals) (m:=m) (news:=(uF (Att.noObjs s'.heap) s'.heap X.env.locals).filter λp=>decide (p.1≠kS) && decide (p.1≠a)) F (λp hp=>?_) hka (λp hp=>?_) (λp hp=>?_) hk' b0 h64 λh3 tk3 out c F3 N3 k3=>?_
  .
   rcases aap.mp hp with hp|hp
   . exact Kz p (aam.mp hp).1
   .
    rcases ZU.mp hp with rfl|hp
    . exact⟨g1,nk.loc,Att.noObjs_get _ _⟩
    . rw[aaS.mp hp];exact⟨g2,na.loc,Att.noObjs_get _ _⟩
  . have:=(aam.mp hp).2;simp only[Z5,ZX]at this;exact this.1
  . have:=(aam.mp hp).2;simp only[Z5,ZX]at this;exact this.2
  .
   refine h _ out c ⟨H',?_,up,hn2⟩ (N3 _ (.head _)).1 k3;refine I.two (h':=h3) (t':=tk3) nk na hn1 hn2 (λb o n0 n1 n2 q=>?_) λm2 hm2=>?_
   . exact(N3 (b,o) (.tail _ (aam.mpr ⟨Cu n0 (Att.noObjs_get _ _) q,by simp[n1,n2]⟩))).1
   . have e1:=hm2.eq_nsMap;have e2:=hn.eq_nsMap;rw[e1,<- e2];exact F3.ns
theorem Gh{l q:Addr}{Q:Value->Shared->Prop}(I:Vr X ab σ H s)(hl:s.heap.IsList l vs.toArray)(b0:kz.length=vs.length)(h64:vs.length<64)
  (turn:∀kS a,WO X ab kS->WO X ab a->∀(i:Nat)(v:Value)(k:Int),vs[i]?=some v->kz[i]?=some k->∀s',WT X ab σ H kS a s' ->
   wpAny (model X.prog X.w) X.A.in1.in1 (call (.ref q) [v]) (λr s''=>∃t,r=.int k t/\WT X ab σ H kS a s''/\(∀o,s'.heap.get? kS=some o->s''.heap.get? kS=some o)/\∀o,s'.heap.get? a=some o->s''.heap.get? a=some o) (λ_ _=>False) s')
  (h:∀ a s' out c,WO X ab a->WU X ab σ H a s'->s'.heap.get? a=some (seqObj "list" out c)->KskOut false kz vs out.toList->Q (.ref a) s') :
  wpAny (model X.prog X.w) X.A (call (.builtin "sorted") [.ref l] [(Str.ofString "key",.ref q)]) Q E s:=by
 refine call_function_entry_kw kind_sorted plain_sorted entry_sorted (ksk_s1 _ _) ?_;unfold Builtin.«sorted»;refine ZQ (m:=checkCount "sorted" 1 1 _) (aai ?_);refine ZQ (collect_list hl ?_ (by rw[sizeLine_eq];omega));refine ZQ (wpAny_newList ?_ (by rw[sizeLine_eq];omega));have hsz:((s.heap.push (seqObj "list" #[] 0)).update s.heap.objs.size (Obj.mapSeq (·++vs.toArray))).objs.size=s.heap.objs.size+1:=by rw[Heap.size_update,size_push']
 have hoL:(((s.heap.push (seqObj "list" #[] 0)).update s.heap.objs.size (Obj.mapSeq (·++vs.toArray))).push (seqObj "list" vs.toArray 0)).get? (s.heap.objs.size+1)=some (seqObj "list" vs.toArray 0):=by rw[<- hsz];exact aah _ rfl
 have keep:∀ b o,s.heap.get? b=some o->(((s.heap.push (seqObj "list" #[] 0)).update s.heap.objs.size (Obj.mapSeq (·++vs.toArray))).push (seqObj "list" vs.toArray 0)).get? b=some o:=λb o q=>by have hlt:b<s.heap.objs.size:=ZV q;rw[Heap.get?_push_ne _ _ _ (by rw[hsz];exact aar (Nat.lt_succ_of_lt hlt)),Heap.get?_update_ne _ _ _ _ (aar hlt),Heap.get?_push_ne _ _ _ (aar hlt)];exact q
 show wpAny _ _ _ _ _ {s with heap:=((s.heap.push (seqObj "list" #[] 0)).update s.heap.objs.size (Obj.mapSeq (·++vs.toArray))).push (seqObj "list" vs.toArray 0) };rw[hsz];generalize hhp:((s.heap.push (seqObj "list" #[] 0)).update s.heap.objs.size (Obj.mapSeq (·++vs.toArray))).push (seqObj "list" vs.toArray 0)=hp at hoL keep;generalize ha:s.heap.objs.size+1=a at hoL;have sa:s.heap.objs.size<=a:=by omega
 refine ZQ (abr (wpAny_call_entry_kw slot_list_sort ⟨_,hoL,rfl⟩ entry_list_sort ?body (ksk_l1 _ _)))
 case body =>
  show wpAny (model X.prog X.w) X.A.in1.in1 (Builtin.«list.sort» ⟨[.ref a],[(Str.ofString "key",.ref q)]⟩) _ _ _;rw[ksk_t1];have s1:=Heap.SameBut.update hp a (Obj.mapSeq λ_=>(#[]:Array Value));obtain⟨e1,ho1⟩:∃ e1,(hp.update a (Obj.mapSeq λ_=>(#[]:Array Value))).get? a=some (seqObj "list" #[] e1):=⟨_,get?_update_seq hoL λ_=>#[]⟩;have la:a<hp.objs.size:=ZV hoL;have hkS:((hp.update a (Obj.mapSeq λ_=>(#[]:Array Value))).push (seqObj "tuple" vs.toArray 0)).objs.size=hp.objs.size+1:=by rw[size_push',Heap.size_update]
  unfold ksk_tree;refine ZQ (listItems_at hoL rfl ?_);refine ZQ (listUpdate_at hoL rfl ?_ (by rw[aab,sizeLine_eq];omega) (aaN _));refine ZQ (seqEpoch_at ho1 rfl ?_);refine ZQ (wpAny_newTuple ?_ (by show vs.length<=_;rw[sizeLine_eq];omega));refine ZQ (wpAny_newList ?_ (aaN _));refine abr ?_;have sk:s.heap.objs.size<=((hp.update a (Obj.mapSeq λ_=>(#[]:Array Value))).push (seqObj "tuple" vs.toArray 0)).objs.size:=by rw[hkS]; omega
  have nka:((hp.update a (Obj.mapSeq λ_=>(#[]:Array Value))).push (seqObj "tuple" vs.toArray 0)).objs.size≠a:=by rw[hkS]; omega
  have nk:WO X ab ((hp.update a (Obj.mapSeq λ_=>(#[]:Array Value))).push (seqObj "tuple" vs.toArray 0)).objs.size:=I.newer sk;have na:WO X ab a:=I.newer sa
  refine Lh (s:={s with heap:=((hp.update a (Obj.mapSeq λ_=>(#[]:Array Value))).push (seqObj "tuple" vs.toArray 0)).push (seqObj "list" #[] 0) }) (kS:=((hp.update a (Obj.mapSeq λ_=>(#[]:Array Value))).push (seqObj "tuple" vs.toArray 0)).objs.size) (a:=a) (H:=H)
   ⟨H,I.kept (t':=s.toks) (λb o z=>ZO _ (ZO _ ((s1.2 b (aar (k5 (ZV z) sa))).trans (keep b o z)))),λ_ _ z=>z,I.hok.fresh sk,I.hok.fresh sa,⟨_,aah _ rfl⟩,⟨_,ZO _ (ZO _ ho1)⟩⟩ nk na nka
   (aah _ rfl) (ZO _ (ZO _ ho1)) b0 h64 (turn _ a nk na) λs' out c J g k=>⟨_,rfl,?_⟩
  exact aai ⟨_,rfl,h a s' out c na J g k⟩
end
noncomputable def yj:Value->Int
 |.int n _=>n
 |_=>0
theorem yW:∀{us:List Value}{ns:List Int},IntsAre us ns->us.map yj=ns/\∀u∈us,∃t,u=.int (yj u) t
 |_,_,.nil=>⟨rfl,λu h=>by simp at h⟩
 | _,_,.cons n t h=>by
  obtain⟨h1,h2⟩:=yW h;refine⟨by rw[aae,h1];rfl,λu hu=>?_⟩;rcases ZU.mp hu with rfl|hu
  . exact⟨t,rfl⟩
  . exact h2 u hu
theorem Li{us:List Value}{ns:List Int}{g:Int->Int}{out:List Value}(hi:IntsAre us ns)(h:KskOut false (ns.map g) us out):(out.map yj).Perm ns/\(out.map yj).Pairwise (λa b=>g a<=g b)/\dA ((out.map yj).map V.int) out:=by
 obtain⟨e1,e2⟩:=yW hi;obtain⟨ps,hp,rfl,hs⟩:=h
 have hz:∀p∈(ns.map g).zip us,p.1=g (yj p.2)/\p.2∈us:=λp hp=>by
  obtain⟨j,hj,rfl⟩:=aaZ hp;rw[abp];rw[aaH]at hj;refine⟨?_,ZM _⟩;simp only[abR]
  congr 1
  have:(us.map yj)[j]?=ns[j]?:=by rw[e1]
  rw[ZZ,gV xL,gV (by simpa using(show j<(ns.map g).length by omega))]at this;simpa using this.symm
 have hz':∀p∈ps,p.1=g (yj p.2)/\p.2∈us:=λp h=>hz p (hp.mem_iff.mp h);have hm:(ps.map Prod.snd).map yj=ps.map λp=>yj p.2:=by rw[aag];rfl
 refine⟨?_,?_,?_⟩
 .
  rw[hm];refine(hp.map _).trans ?_;have:((ns.map g).zip us).map (λp=>yj p.2)=ns:=by rw[show(λp:Int×Value=>yj p.2)=yj ∘ Prod.snd from rfl,<- aag,List.map_snd_zip,e1];have:=hi.length;rw[ZL];omega
  rw[this]
 . rw[hm,List.pairwise_map];refine List.Pairwise.imp_of_mem (λ{a b} ha hb q=>?_) hs;rw[<- (hz' a ha).1,<- (hz' b hb).1];simpa using q
 .
  have all:∀l:List Value,(∀u∈l,∃t,u=.int (yj u) t)->dA ((l.map yj).map V.int) l:=by
   intro l
   induction l with
   |nil=>exact λ_=>.nil
   |cons u l ih=>exact λh=>.cons (h u k4) (ih λv hv=>h v (fI _ hv))
  refine all _ λu hu=>?_;obtain⟨p,hpm,rfl⟩:=ZW.mp hu;exact e2 _ (hz' p hpm).2
def Nd(fs:FS)(i:Nat)(t:W L):W L:=λZ js=>t Z λr Z1=>Wc r λd=>∃(ns:List Int)(g:Int->Int),d=.lst (ns.map .int)/\ns.length<64/\SR i Z1 λv=>(∀n∈ns,fs [.d (.int n),.d v] λr _=>Sn r λz=>z=.int (g n)) /\
 ∀(a:Addr)(out:List Int),out.Perm ns->out.Pairwise (λa b=>g a<=g b)->js (.own a (out.map .int)) Z1
section
variable{X:Cx}{k k':Nat}{x y:Str}{p cpos pos kpos:Pos}{e:Expr}{t:W L}{fs:FS}{pr:Arguments}{bd:Expr}{sc:Scope}
theorem Lj(LO:OK X.prog X.w X.K X.mg X.base k x fs)(hr:oI k' X.A)(i:Nat)(LI:Rm X x y i pr bd sc pos)(ha:PL X e t) (hm:X.mg "sorted"=none) (hk:k+2<=k':=by decide) (hg:Gl X "sorted":=by rfl)
  (he:starEach [e] X.env=(false,eval e X.env)::starEach [] X.env:=by rfl) :
  PL X (.Call (.Name "sorted" p) [e] [⟨some "key",.Lambda pr bd sc pos,kpos⟩] cpos) (Nd fs i t):=by
 intro ab s σ H Pr Z js I E0 h;obtain⟨c0,P,tab,code⟩:=LI.tab;refine abF (p9 I hg hm (u:=.builtin "sorted") y_ ?_);refine callWith_kw (e:=e) (rest:=[]) (kws:=[⟨some "key",.Lambda pr bd sc pos,kpos⟩]) ?_ (by rw[he]; rfl) (by rw[he]; rfl) rfl rfl;rw[he];show wpAny _ _ (spliced ((false,eval e X.env)::backTo cpos (starEach [] X.env))) _ _ s;refine Calls.spliced_cons (Vv (ha ab s σ H Pr Z _ I E0 h) λu1 s1 hq=>?_);obtain⟨v1,H1,d,Z1,I1,rv1,E1,ns,g,rfl,h64,q1⟩:=EL.frz hq;refine Calls.spliced_nil ?_;obtain⟨dv,qi,hkey,q1⟩:=OM q1
 show wpAny _ _ (evalAll [(do let v <- eval (.Lambda pr bd sc pos) X.env;standAt cpos;pure v)]) _ _ s1
 obtain⟨c,hcl⟩:=I1.ok.has y (.inl LI.cel);have fr:∀z,(z,NameKind.free)∈sc.names->z=y:=λz hz=>by have:(z,NameKind.free)∈sc.names.filter λp=>p.2 == .free:=aam.mpr ⟨hz,rfl⟩;rw[LI.fre]at this;simpa using this
 have hm':(y,NameKind.free)∈sc.names:=by
  have:(y,NameKind.free)∈sc.names.filter λp=>p.2 == .free:=by rw[LI.fre];simp
  exact(aam.mp this).1
 have hclo:closureFor sc X.env=pure [(y,c)]:=by
  rw[qg λz hz hf=>by
   obtain⟨z1,z2⟩:=z;cases hf
   rw[fr z1 hz];exact⟨c,hcl⟩,EJ hcl _ _ LI.fre]
 refine wpAny_evalAll_cons (ZQ (Lg I1 LI.mem tab code LI.qual hclo LI.deft λfa c' oq H2 s2 ctv pm I2 ext gf nf zf zq co=>ZQ (wpAny_standAt (aai ?_))));refine wpAny_evalAll_nil ?_;show wpAny (model X.prog X.w) X.A (call (.builtin "sorted") [u1] [(Str.ofString "key",.ref fa)]) _ _ s2;have nfa:WO X ab fa:=I1.newer zf;generalize hfo:kla_obj "<lambda>" (ya x) pr bd sc [(y,c)] pm c' ctv=fo at gf;have I3:Vr X ab σ (Vj H2 fa (.frz fo (.own fa))) s2:=I2.track nf nfa.s0 nfa.loc nfa.cel nfa.pin ⟨gf,_,gf⟩;have up3:∀b o,H2 b=some o->Vj H2 fa (.frz fo (.own fa)) b=some o:=λb o z=>by rw[aH (bC z nf)];exact z
 have E3:=(E1.exten ext).exten up3;obtain⟨_,e5,ra⟩:=E3.head_d;cases e5;have E4:=E3.tail;obtain⟨sv,hsl,v',rfl,rd⟩:=E4.slot qi;obtain⟨_,_,rfl,hz,rs⟩:=V6.inv_lst ra;have evs:=iM rs;subst evs;cases rv1;obtain⟨its,r',pl,hzz⟩:=I3.list hz.l;have hi:=ur r';have b0:=hi.length;refine Gh (kz:=ns.map g) I3 pl.isList (by rw[ZL];exact b0.symm) xL (λkS a nk na j v kv hv hkv s' J=>?_) λa s' out cc na J ga ko=>?_
 .
  obtain⟨H',I',up,n1,n2,⟨ok1,gk1⟩,⟨ok2,gk2⟩⟩:=J;have hj:j<ns.length:=by have:=(so.mp hkv).1;simpa using this
  have ekv:kv=g ns[j]:=by rw[ZZ,gV hj]at hkv;exact(aaf hkv).symm
  obtain⟨en,ev⟩:=yW hi;obtain⟨tv,hv2⟩:=ev v (List.mem_of_getElem? hv)
  have ejn:yj v=ns[j]:=by
   have:(its.map yj)[j]?=ns[j]?:=by rw[en]
   rw[ZZ,hv,gV hj]at this;simpa using this
  obtain⟨m,_,hloc⟩:=I'.loc;obtain⟨u',rv',lk⟩:=hloc i y v' LI.at_i hsl (.inr (.inl LI.cel))
  obtain⟨oc,gc,dc⟩:s'.heap.IsCell c (some u'):=by
   rcases lk with⟨z,_⟩|⟨_,c2,e2,z⟩
   . rw[show X.env.kindOf y=some .cell from LI.cel]at z;cases z
   . rw[hcl]at e2;cases e2;exact z
  have nc:H' c=none:=(I'.freeC y c hcl).resolve_right λz=>by rw[LI.fn]at z;exact absurd z.1 xp
  have la:Rk X.K H' s'.heap fa x dv:=by refine⟨c,c',oc,oq,y,pr,bd,sc,pos,pm,ctv,u',v',LI.lam,?_,(I'.hok c' _ (up _ _ (up3 _ _ zq))).1,co,gc,.inl nc,dc,rv',hm',rd.pres λb o _ z=>up b o z⟩;rw[hfo];exact(I'.hok fa _ (up _ _ bu)).1
  have rr:oI k X.A.in1.in1:=oI.in1 (oI.in1 (hr.mono (j:=k+2) hk));have hfs:=hkey ns[j] (ZM hj);refine wpAny_call (codeAny_mono (LO.run X.A.in1.in1 X.stack s' H' fa v (.int ns[j]) (.int ns[j]) dv (λz=>z=.int (g ns[j])) rr I'.env0.in1.in1 ⟨tv,by rw[hv2,ejn]⟩ (.int _) la hfs) λres s'' hres=>?_)
  cases res with
  |error ee=>exact(show False from hres).elim
  | ok fl =>
   cases fl with
   | ret u2 =>
    obtain⟨v3,H3,os,bare,un,hok,rv3,ext3,z,rz,pz⟩:=hres;subst pz;obtain rfl:=V6.inv_int rz;obtain⟨t3,rfl⟩:=rv3;have I4:Vr X ab σ H3 s'':=I'.call' (ch:=[]) os un hok bare (λb z=>absurd z x_);have kk1:∀o,s'.heap.get? kS=some o->s''.heap.get? kS=some o:=λo z=>un.keep kS o z n1 (nk.nofs I') x_;have kk2:∀o,s'.heap.get? a=some o->s''.heap.get? a=some o:=λo z=>un.keep a o z n2 (na.nofs I') x_;exact⟨t3,by rw[ekv],⟨H3,I4,λb o z=>ext3 b o (up b o z),un.free kS ok1 gk1 n1 x_,un.free a ok2 gk2 n2 x_,⟨ok1,kk1 _ gk1⟩,⟨ok2,kk2 _ gk2⟩⟩,kk1,kk2⟩
   |next=>exact False.elim hres
   |brk=>exact False.elim hres
   |cont=>exact False.elim hres
 .
  obtain⟨H',I',up,n2⟩:=J;obtain⟨op,os,ov⟩:=Li hi ko;have lo:(out.toList.map yj).length=ns.length:=op.length_eq;have I5:Vr X ab σ (Vj H' a (.lst ((out.toList.map yj).map V.int))) s':=by refine I'.track n2 na.s0 na.loc na.cel na.pin ⟨?_,out.toList,cc,ov,by simpa using ga⟩;rw[ZL,lo];exact ZR (aa1 h64) xp
  exact⟨.ref a,_,.own a ((out.toList.map yj).map .int),Z1,I5,rfl,(E4.exten up).cons_own n2 (qj _),q1 a _ op os⟩
end
theorem Rp{P:Program}{w:World}{K:Frag}{mg:Str->Option Value}{base:Heap}{x qual:Str}{st:Stmt}{f:Addr}{fd:FuncData}{N ps:List Str}{k:Nat}{fs:FS}(F:V4 K x qual st f fd)(S:ax N ps (ao st))(t:W Fl)
  (hbody:∀(cdv:Value)(A:Around)(outer:List Env)(s:Shared)(H:Hp)(E:XK),fd.code=cdv->oI k (A.deeper (envOfC qual (ao st) s.heap.objs.size f cdv))->Wb (MX CX0 P w K mg base N qual (ao st) f cdv A outer s H E).nox (gv st) t)
  (h:∀ls js,ls.length=ps.length->fs ls js->t (ls++List.replicate (N.length-ps.length) .un) (aL ls js)):FnOk P w K mg base CX0 (k+1) f fd ps (spF K ps.length fs):=by
 obtain⟨oc,od,kV,doc,pm,an,cdv,ct,osl,rfl,lk,hcd⟩:=F.ex;refine QB lk hcd S (λvs H Q E q=>q.1) λA outer s H vs Q E hr q=>?_;obtain⟨hl,Pr,ls,js,E0,hf,q⟩:=q;refine⟨_,(hbody cdv A outer s H E rfl hr).pss.nox,bD H ls,ls++List.replicate (N.length-ps.length) .un,aL ls js,?_,h ls js (by rw[<- hl];have:=E0.len;simpa using this.symm) hf,λσ' H' Z' E' p=>?_,λ_ _ _ _ p=>p.elim,λ_ _ _ _ p=>p.elim,λv τ H' r Z' E' p=>?_⟩
 . unfold xk;rw[hl];exact E0.wide.uns _
 . obtain⟨ls',B,p⟩:=p;exact q .non H' (.d .non) ls' (ui E0 (E'.cons_d .non) B) p
 . obtain⟨ls',B,p⟩:=p;exact q v H' r ls' (ui E0 E' B) p
end L2
namespace L2
open PySem PySem.W
section
variable{X:Cx}{es:List Expr}{pos:Pos}
def OO(i:Nat)(t:W (List L)):W L:=λZ js=>t Z λls Z1=>ls.length<=sizeLine/\ls[0]?=some .un/\Qc Z1[i]? i Z1 λl Z2=>(∃a ys,l=.own a ys)/\js (.bx none (l::ls.tail)) Z2
theorem OP {x1} (i:Nat) {bs:List (Option Nat)} {t:W (List L)} (h:V8 X es (some i::bs) t):PL X (.Tuple es x1 pos) (OO i t):=by
 intro ab s σ H Pr Z js I E hq;refine wpAny_Tuple_spliced (Vv (h pos ab s σ H Pr Z _ I E hq) λus s1 ⟨vs,H1,ls,Z1,I1,r,hl,hb,E1,hv,z,z0,q⟩=>?_);refine⟨by rw[<- r.length,hl];exact z,?_⟩
 cases qi:Z1[i]? with
 |none=>rw[qi]at q;exact q.elim
 |some l =>
 rw[qi]at q
 cases l with
 |un=>exact q.elim
 |dic _ _=>exact q.elim
 |d y=>obtain⟨⟨_,_,z⟩,_⟩:=q;cases z
 |bx _ _=>obtain⟨⟨_,_,z⟩,_⟩:=q;cases z
 |own a ys =>
 obtain⟨_,q⟩:=q;obtain⟨_,v,hv1,hv2⟩:=hv 0 i rfl
 cases ls with
 |nil=>cases z0
 |cons l ls =>
 cases vs with
 |nil=>simp at hl
 |cons w vs =>
 have hl':vs.length=ls.length:=by simpa using hl
 have E2:aJ X.K Pr H1 (vs.map some++σ) (ls++Z1):=aJ.tail (v:=some w) (l:=l) E1;have qi2:(ls++Z1)[ls.length+i]?=some (.own a ys):=by rw[aal (aba _ _),aaq];exact qi
 have wv:w=v:=by simpa using hv1
 subst wv;have hs2:(vs.map some++σ)[ls.length+i]?=some (some w):=by rw[aal (by rw[ZL,hl'];exact aba _ _),ZL,hl',aaq];exact hv2
 have E3:=E2.outL qi2 hs2;rw[abG _ _ (aba _ _),aaq]at E3;have hf:H1 s1.heap.objs.size=none:=I1.hok.fresh (ZY _);have E4:aJ X.K Pr (Vj H1 s1.heap.objs.size (.tup (w::vs))) ((w::vs).map some++σ) ((.own a ys::ls)++Z1.set i .un):=aJ.new E3 hf;have hl2:(w::vs).length=(L.own a ys::ls).length:=by simpa using hl'
 refine⟨.ref s1.heap.objs.size,Vj H1 s1.heap.objs.size (.tup (w::vs)),_,Z1.set i .un,I1.laid (t':=s1.toks) (λb u e=>ZO _ e) (ZY _) ?_,rfl,E4.closeT hl2 (Vz.of bu),q⟩;exact⟨by rw[hl];exact z,us,r,⟨_,aah _ rfl,rfl,_,rfl⟩⟩
end
end L2
namespace L2
open PySem PySem.Spec PyProof.Rows PySem.SeqAt
structure Uo (d:D):Prop where
 ok:WS d=true
 sh:iN d=true
 dp:(Wo d).depth<=40
 sg:Gg d<=16777216
theorem Uo.len{d:D}(h:Uo d):(Wo d).shown.length<=sizeLine:=by
 have e:sizeLine=16777216:=by decide
 rw[e];exact ZR (Il d (va d h.ok h.sh)) h.sg
end L2
namespace L2
open PySem PySem.Spec PyProof.Rows
def WV(o q:Option L)(i j:Nat)(t:W L)(Z:Ev)(js:L->Ev->Prop):Prop:=match o,q with
 |some (.own _ xs),some (.own b _)=>i≠j/\eH i Z=true/\t (Z.set i (.d (.lst xs))) λr Z'=>nV r=true/\∃zs,yT zs=true/\Z'=(Z.set i (.d (.lst xs))).set j (.own b zs)/\js r (Z.set j (.own b zs))
 |_,_=>False
theorem OQ(a b:Addr)(xs ys:List D)(i j:Nat)(t:W L)(Z:Ev)(js:L->Ev->Prop):WV (some (.own a xs)) (some (.own b ys)) i j t Z js=(i≠j/\eH i Z=true/\t (Z.set i (.d (.lst xs))) λr Z'=>nV r=true/\∃zs,yT zs=true/\Z'=(Z.set i (.d (.lst xs))).set j (.own b zs)/\js r (Z.set j (.own b zs))):=rfl
def UX(o:Option L)(Z:Ev)(js:Bool->Ev->Prop):Prop:=match o with
 |some (.d (.lst xs))=>js (!xs.isEmpty) Z
 |_=>False
theorem Lk(xs:List D)(Z:Ev)(js:Bool->Ev->Prop):UX (some (.d (.lst xs))) Z js=js (!xs.isEmpty) Z:=rfl
end L2
namespace HT
open PySem PySem.Spec PyProof.Rows
end HT
namespace L2
open PySem PySem.Spec PyProof.Rows
end L2
namespace L2
open PySem PySem.Spec PyProof.Rows PySem.W
end L2
namespace L2
open PySem PySem.Spec PyProof.Rows PySem.SeqAt
end L2
namespace PySem
open PySem.Spec
namespace F
end F
end PySem
namespace L2
open PySem PySem.Spec PyProof.Rows PySem.W
section
variable{key:Nat->Int}{n:Nat}{I:Shared->Prop}{cmp:Nat->Nat->(Bool->Shared->Prop)->Shared->Prop}
def Ll(I:Shared->Prop)(cmp:Nat->Nat->(Bool->Shared->Prop)->Shared->Prop){α:Type}(t:KasT α)(P:α->Prop):Prop:=∀(Q:α->Shared->Prop)(s:Shared),I s->(∀a s',I s'->P a->Q a s')->t.kasWp cmp Q s
def Up(key:Nat->Int)(n:Nat)(I:Shared->Prop)(cmp:Nat->Nat->(Bool->Shared->Prop)->Shared->Prop):Prop:=∀(i j:Nat)(C:Bool->Shared->Prop)(s:Shared),i<n->j<n->i≠j->I s->(∀s',I s'->C (decide (key i<key j)) s')->cmp i j C s
noncomputable def kk(key:Nat->Int)(p:Array Nat)(i:Nat):Int:=key (p.getD i 0)
structure Im (n:Nat) (p:Array Nat):Prop where
 sz:p.size=n
 pm:p.toList.Perm (List.range n)
theorem Im.lt{p:Array Nat}(g:Im n p){i:Nat}(h:i<n):p.getD i 0<n:=by
 have hs:i<p.size:=by rw[g.sz];exact h
 have e:p.getD i 0=p[i]:=by simp[Array.getD,hs]
 rw[e];exact ZT.mp (g.pm.mem_iff.mp (by rw[<- Array.getElem_toList];exact ZM _))
theorem Im.ne{p:Array Nat}(g:Im n p){i j:Nat}(hi:i<n)(hj:j<n)(h:i≠j):p.getD i 0≠p.getD j 0:=by
 have hs:i<p.size:=by rw[g.sz];exact hi
 have ht:j<p.size:=by rw[g.sz];exact hj
 have nd:p.toList.Nodup:=g.pm.nodup_iff.mpr List.nodup_range;have e1:p.getD i 0=p.toList[i]'(by simpa using hs):=by simp[Array.getD,hs]
 have e2:p.getD j 0=p.toList[j]'(by simpa using ht):=by simp[Array.getD,ht]
 rw[e1,e2];intro z;exact h ((List.getElem_inj nd).mp z)
theorem Ll.ask{α:Type}{i j:Nat}{k:Bool->KasT α}{P:α->Prop}(hc:Up key n I cmp)(hi:i<n)(hj:j<n)(hn:i≠j)(h1:key i<key j->Ll I cmp (k true) P)(h2:¬key i<key j->Ll I cmp (k false) P):Ll I cmp (.ask i j k) P:=λQ s hI hq=>by
 refine hc i j _ s hi hj hn hI λs' hI'=>?_;by_cases c:key i<key j
 . rw[aaa c];exact h1 c Q s' hI' hq
 . rw[ZP c];exact h2 c Q s' hI' hq
theorem Ll.at{α:Type}{p:Array Nat}{i j:Nat}{k:Bool->KasT α}{P:α->Prop}(hc:Up key n I cmp)(hq:∀a b,a<n->b<n->key a=key b->a=b)(g:Im n p)(hi:i<n)(hj:j<n)(hn:i≠j)(h1:kk key p i<kk key p j->Ll I cmp (k true) P)(h2:kk key p j<kk key p i->Ll I cmp (k false) P):Ll I cmp (.ask (p.getD i 0) (p.getD j 0) k) P:=by refine Ll.ask hc (g.lt hi) (g.lt hj) (g.ne hi hj hn) h1 λc=>h2 ?_;have:kk key p i≠kk key p j:=λz=>g.ne hi hj hn (hq _ _ (g.lt hi) (g.lt hj) z);unfold kk at this ⊢;omega
end
theorem bV.at{K:Frag}{H:Hp}{vs:List V}{ds:List D}(r:bV K H vs ds){i:Nat}(h1:i<vs.length)(h2:i<ds.length):V6 K H vs[i] ds[i]:=by obtain⟨v,e1,e2⟩:=r.get (gV h2);rw[gV h1]at e1;cases e1;exact e2
end L2
namespace L2
open PySem
theorem cJ{g:Tg}{b:W Fl}{js:Fl->Ev->Prop}:∀(xs:List D)(I:Nat->Ev->Prop)(Z:Ev),I 0 Z ->
  (∀j x Z,xs[j]?=some x->I j Z->∀Q:Fl->Ev->Prop,(∀Z',I (j+1) Z'->Q .nx Z')->(∀Z',I (j+1) Z'->Q .ct Z')->(∀Z',js .nx Z'->Q .bk Z')->(∀r Z',js (.rt r) Z'->Q (.rt r) Z')->g x Z λZ1=>b Z1 Q) ->
  (∀Z,I xs.length Z->js .nx Z)->fW g b xs Z js
 |[],I,Z,h0,_,Vx=>Vx Z h0
 | x::xs,I,Z,h0,step,Vx=>by
  unfold fW;refine step 0 x Z rfl h0 _ (λZ' h=>?_) (λZ' h=>?_) (λZ' h=>h) (λr Z' h=>h)
  . exact cJ xs (λj=>I (j+1)) Z' h (λj y Z e hi=>step (j+1) y Z e hi) Vx
  . exact cJ xs (λj=>I (j+1)) Z' h (λj y Z e hi=>step (j+1) y Z e hi) Vx
theorem eI{α:Type}{enc:α->D}{g:Tg}{b:W Fl}{js:Fl->Ev->Prop}(as:List α)(I:List α->Ev->Prop)(Z:Ev)(h0:I [] Z)
  (step:∀pre a suf Z,as=pre++a::suf->I pre Z->∀Q:Fl->Ev->Prop,(∀Z',I (pre++[a]) Z'->Q .nx Z')->(∀Z',I (pre++[a]) Z'->Q .ct Z')->(∀Z',js .nx Z'->Q .bk Z')->(∀r Z',js (.rt r) Z'->Q (.rt r) Z')->g (enc a) Z λZ1=>b Z1 Q)
  (Vx:∀Z,I as Z->js .nx Z):fW g b (as.map enc) Z js:=by
 refine cJ _ (λj Z=>I (as.take j) Z) Z h0 (λj x Z e hi Q h1 h2 h3 h4=>?_) λZ h=>Vx Z (by simpa using h);rw[ZZ]at e
 cases ea:as[j]? with
 |none=>rw[ea]at e;cases e
 | some a =>
  rw[ea]at e;cases e;obtain⟨hj,ea'⟩:=so.mp ea;have es:as.take (j+1)=as.take j++[a]:=by rw[List.take_succ,ea];rfl
  have ed:as=as.take j++a::as.drop (j+1):=by have:=(List.take_append_drop j as).symm;rw[aaB hj,ea']at this;exact this
  rw[es]at h1 h2;exact step _ a _ Z ed hi Q h1 h2 h3 h4
theorem fZ{α:Type}{enc:α->D}{h:α->Option D}{caps:Ev}{ti:W Bool}{te:W L}{k:List D->Ev->Prop}:∀(as:List α)(acc:List D)(l:L),
  (∀a∈as,∀Q:Ev->Option D->Prop,Q (.d (enc a)::caps) (h a)->ti (.d (enc a)::caps) λb Z2=>if b=true then te Z2 λr Z3=>Wc r λy=>Q Z3 (some y)else Q Z2 none) ->
  (∀l',k (acc++as.filterMap h) (l'::caps))->de (aU 0) ti te (as.map enc) (l::caps) acc k
 |[],acc,l,_,Vx=>by have:=Vx l;simpa[de]using this
 | a::as,acc,l,step,Vx=>by
  show de (aU 0) ti te (enc a::as.map enc) (l::caps) acc k;unfold de;show ti (.d (enc a)::caps) _
  refine step a k4 (λZ o=>match o with|some y=>de (aU 0) ti te (as.map enc) Z (acc++[y]) k|none=>de (aU 0) ti te (as.map enc) Z acc k) ?_
  cases e:h a with
  |none=>exact fZ as acc _ (λb hb=>step b (fI _ hb)) (by simpa[aaE,e]using Vx)
  |some y=>exact fZ as (acc++[y]) _ (λb hb=>step b (fI _ hb)) (by simpa[aaE,e]using Vx)
theorem df{α:Type}{enc:α->D}{h:α->D}{caps:Ev}{te:W L}{k:List D->Ev->Prop}(as:List α)(acc:List D)(l:L)
  (step:∀a∈as,∀Q:Ev->D->Prop,Q (.d (enc a)::caps) (h a)->te (.d (enc a)::caps) λr Z3=>Wc r λy=>Q Z3 y)
  (Vx:∀l',k (acc++as.map h) (l'::caps)):de (aU 0) dO te (as.map enc) (l::caps) acc k:=by
 refine fZ (h:=λa=>some (h a)) as acc l (λa ha Q q=>?_) (by simpa using Vx);simp only[dO,aaX];exact step a ha (λZ y=>Q Z (some y)) q
theorem rl{α:Type}{e1 e2:α->D}{h:α->Option D}{caps:Ev}{ti:W Bool}{te:W L}{k:List D->Ev->Prop}:∀(as:List α)(acc:List D)(l m:L),
  (∀a∈as,∀Q:Ev->Option D->Prop,Q (.d (e1 a)::.d (e2 a)::caps) (h a)->ti (.d (e1 a)::.d (e2 a)::caps) λb Z2=>if b=true then te Z2 λr Z3=>Wc r λy=>Q Z3 (some y)else Q Z2 none) ->
  (∀l' m',k (acc++as.filterMap h) (l'::m'::caps))->de (eF [0,1]) ti te (as.map λa=>D.tup [e1 a,e2 a]) (l::m::caps) acc k
 |[],acc,l,m,_,Vx=>by have:=Vx l m;simpa[de]using this
 | a::as,acc,l,m,step,Vx=>by
  show de (eF [0,1]) ti te (D.tup [e1 a,e2 a]::as.map λa=>D.tup [e1 a,e2 a]) (l::m::caps) acc k;unfold de;show ti (.d (e1 a)::.d (e2 a)::caps) _
  refine step a k4 (λZ o=>match o with|some y=>de (eF [0,1]) ti te (as.map λa=>D.tup [e1 a,e2 a]) Z (acc++[y]) k|none=>de (eF [0,1]) ti te (as.map λa=>D.tup [e1 a,e2 a]) Z acc k) ?_
  cases e:h a with
  |none=>exact rl as acc _ _ (λb hb=>step b (fI _ hb)) (by simpa[aaE,e]using Vx)
  |some y=>exact rl as (acc++[y]) _ _ (λb hb=>step b (fI _ hb)) (by simpa[aaE,e]using Vx)
theorem vb{α:Type}{e1 e2:α->D}{h:α->D}{caps:Ev}{te:W L}{k:List D->Ev->Prop}(as:List α)(acc:List D)(l m:L)
  (step:∀a∈as,∀Q:Ev->D->Prop,Q (.d (e1 a)::.d (e2 a)::caps) (h a)->te (.d (e1 a)::.d (e2 a)::caps) λr Z3=>Wc r λy=>Q Z3 y)
  (Vx:∀l' m',k (acc++as.map h) (l'::m'::caps)):de (eF [0,1]) dO te (as.map λa=>D.tup [e1 a,e2 a]) (l::m::caps) acc k:=by
 refine rl (h:=λa=>some (h a)) as acc l m (λa ha Q q=>?_) (by simpa using Vx);simp only[dO,aaX];exact step a ha (λZ y=>Q Z (some y)) q
theorem CZ{α:Type}{x:α}{xs:List α}:VT (x::xs) 0=some x:=j4 (j:=0) rfl
theorem C0{α:Type}{x y:α}{xs:List α}:VT (x::y::xs) 1=some y:=j4 (j:=1) rfl
theorem Rq{α:Type}{x y z:α}{xs:List α}:VT (x::y::z::xs) 2=some z:=j4 (j:=2) rfl
theorem Rr{α:Type}{x y z w:α}{xs:List α}:VT (x::y::z::w::xs) 3=some w:=j4 (j:=3) rfl
theorem SU{α:Type}{x y z w v:α}{xs:List α}:VT (x::y::z::w::v::xs) 4=some v:=j4 (j:=4) rfl
theorem Rt{α:Type}{xs:List α}{i:Int}{x:α}(h0:0<=i)(h:xs[i.toNat]?=some x):VT xs i=some x:=by have:=j4 h;rwa [Int.toNat_of_nonneg h0]at this
theorem aW{α:Type}{f:α->D}{xs:List α}{k:Nat}(h:k<xs.length):VT (xs.map f) (k:Int)=some (f xs[k]):=j4 (by rw[ZZ,gV h];rfl)
theorem UY:VS 3 0=some 0:=by decide
theorem UZ:VS 3 1=some 1:=by decide
theorem U0:VS 3 2=some 2:=by decide
theorem iO(n:Nat):q5 0 n=(List.range n).map λ(i:Nat)=>D.int (i:Int):=by unfold q5;simp
theorem Lm{g:Tg}{b:W Fl}{js:Fl->Ev->Prop}(lo:Int)(n:Nat)(I:Nat->Ev->Prop)(Z:Ev)(h0:I 0 Z)
  (step:∀j Z,j<n->I j Z->∀Q:Fl->Ev->Prop,(∀Z',I (j+1) Z'->Q .nx Z')->(∀Z',I (j+1) Z'->Q .ct Z')->(∀Z',js .nx Z'->Q .bk Z')->(∀r Z',js (.rt r) Z'->Q (.rt r) Z')->g (.int (lo+(j:Int))) Z λZ1=>b Z1 Q)
  (Vx:∀Z,I n Z->js .nx Z):fW g b (q5 lo n) Z js:=by
 have hl:(q5 lo n).length=n:=by simp[q5]
 refine cJ _ I Z h0 (λj x Z hj hi Q h1 h2 h3 h4=>?_) λZ h=>Vx Z (by rwa [hl]at h);have hj':j<n:=by rw[<- hl];exact(so.mp hj).1
 have e:x=.int (lo+(j:Int)):=by unfold q5 at hj;rw[ZZ,aau hj']at hj;exact(aaf hj).symm
 subst e;exact step j Z hj' hi Q h1 h2 h3 h4
theorem qm{g:Tg}{b:W Fl}{js:Fl->Ev->Prop}(n:Nat)(I:Nat->Ev->Prop)(Z:Ev)(h0:I 0 Z)
  (step:∀j Z,j<n->I j Z->∀Q:Fl->Ev->Prop,(∀Z',I (j+1) Z'->Q .nx Z')->(∀Z',I (j+1) Z'->Q .ct Z')->(∀Z',js .nx Z'->Q .bk Z')->(∀r Z',js (.rt r) Z'->Q (.rt r) Z')->g (.int (j:Int)) Z λZ1=>b Z1 Q)
  (Vx:∀Z,I n Z->js .nx Z):fW g b (q5 0 n) Z js :=
 Lm 0 n I Z h0 (λj Z hj hi Q h1 h2 h3 h4=>by rw[Int.zero_add];exact step j Z hj hi Q h1 h2 h3 h4) Vx
theorem dg{i:Int}(h:i.natAbs<2^200):cI i:=k5 h (ZN xp xp)
theorem qn{i:Int}{n:Nat}(h:i.natAbs<2^n)(hn:n<=1000000):cI i:=k5 h (ZN xp hn)
theorem qo(x:Int){m:Int}(h:0<m):0<=x.fmod m/\x.fmod m<m:=by rw[aaQ _ xL];exact⟨Int.emod_nonneg _ xL,Int.emod_lt_of_pos _ h⟩
theorem C1{i:Int}{n:Nat}(h0:0<=i)(h:i<2^n)(hn:n<=1000000):cI i:=by
 have:i.natAbs<2^n:=by
  have e:((2^n:Nat):Int)=(2:Int)^n:=by simp
  omega
 exact k5 this (ZN xp hn)
theorem SV:(10:Int)^60<2^200:=by decide
theorem Io{i:Int}(h0:0<=i)(h:i<=10^60):i.natAbs<2^9000:=by
 have:i.natAbs<2^200:=by
  have:=SV;have e:((2^200:Nat):Int)=(2:Int)^200:=by decide
  omega
 exact k5 this (ZN xp xp)
theorem RB.sub{m n:Nat}{p q:Rat}(hp:RB m p)(hq:RB n q):RB (m+n+1) (p-q):=by rw[aa4];exact hp.add hq.neg
theorem Ip(p q:Rat):Rat.divInt (p.num*q.num) ((p.den:Int)*(q.den:Int))=p*q:=by rw[<- Rat.divInt_mul_divInt,aaL,aaL]
theorem RB.of_divInt{t b:Int}{n:Nat}(h:b≠0)(ht:t.natAbs<2^n)(hb:b.natAbs<2^n):RB n (Rat.divInt t b):=⟨ZS (M7 h) ht,ZS (Eu h) hb⟩
theorem oT(p q:Rat):((p.den:Int)*(q.den:Int))≠0:=by have dp:=den_pos p;have dq:=den_pos q;exact abw xL xL
theorem kd(p q:Rat):((p.den:Int)*(q.den:Int)).natAbs=p.den*q.den:=by rw[aaV,Z4,Z4]
theorem RB.mul{m n:Nat}{p q:Rat}(hp:RB m p)(hq:RB n q):RB (m+n) (p*q):=by rw[<- Ip];exact RB.of_divInt (oT p q) (by rw[aaV];exact bc hp.1 hq.1) (by rw[kd];exact bc hp.2 hq.2)
theorem Ba{q:Rat}(h:q≠0):q.num≠0:=λz=>h (Rat.num_eq_zero.mp z)
theorem lU(q:Rat):(q.den:Int)≠0:=by have:=den_pos q;omega
theorem EK(p:Rat){q:Rat}(h:q≠0):Rat.divInt (p.num*(q.den:Int)) ((p.den:Int)*q.num)=p / q:=by
 rw[Rat.div_def,<- Rat.divInt_mul_divInt,aaL]
 congr 1
 conv=>rhs;rw[<- aaL q,Rat.inv_divInt]
theorem RB.div{m n:Nat}{p q:Rat}(hp:RB m p)(hq:RB n q)(h:q≠0):RB (m+n) (p / q):=by
 rw[<- EK p h];refine RB.of_divInt (abw (lU p) (Ba h)) ?_ ?_
 . rw[aaV];exact bc hp.1 (by simpa using hq.2)
 . rw[aaV];exact bc (by simpa using hp.2) hq.1
theorem RB.zero:RB 1 0:=⟨xp,xp⟩
theorem Ru(p q:Rat):decide (p.num*(q.den:Int)<q.num*(p.den:Int))=decide (p<q):=by rw[abb,Rat.lt_iff]
structure WW where
 nm:Str
 one:Nat
 other:Nat
 size:Rat
structure aB where
 rooms:List Rat
 asks:List WW
noncomputable def aB.n(R:aB):Nat:=R.rooms.length
noncomputable def lV(a:WW):D:=.tup [.str a.nm,.int a.one,.int a.other,Wz a.size]
noncomputable def aI(R:aB):D:=.tup [.lst (R.rooms.map Wz),.lst (R.asks.map lV)]
theorem Ng(q:Rat):(q.num:Rat)=q*(q.den:Rat):=by
 have h:=aaL q;have hd:(q.den:Rat)≠0:=λw=>by have:=abi.mpr q.den_pos;rw[w]at this;exact absurd this xp
 rw[abN]at h;have e:(((q.den:Nat):Int):Rat)=(q.den:Rat):=rfl;rw[e]at h;have e2:q*(q.den:Rat)=(q.num:Rat) / (q.den:Rat)*(q.den:Rat):=by rw[h]
 rw[e2,Rat.div_mul_cancel hd]
theorem Bb{q:Rat}{V:Nat}(h0:0<=q)(hv:q<(V:Rat)):q.num.natAbs<V*q.den:=by
 have hd:(0:Rat)<(q.den:Rat):=abi.mpr q.den_pos;have h1:q*(q.den:Rat)<(V:Rat)*(q.den:Rat):=Rat.mul_lt_mul_of_pos_right hv hd;rw[<- Ng]at h1
 have h2:((q.num:Int):Rat)<(((V*q.den:Nat):Int):Rat):=by
  have e:(((V*q.den:Nat):Int):Rat)=(V:Rat)*(q.den:Rat):=by push_cast;rfl
  rw[e];exact h1
 have h3:q.num<((V*q.den:Nat):Int):=Rat.intCast_lt_intCast.mp h2;have h4:0<=q.num:=Rat.num_nonneg.mpr h0;omega
theorem RB.of_val{q:Rat}{d v:Nat}(h0:0<=q)(hd:q.den<2^d)(hv:q<((2^v:Nat):Rat)):RB (v+d) q:=by refine⟨k5 (Bb h0 hv) ?_,k5 hd (ZN xp xL)⟩;rw[abJ];exact Nat.mul_le_mul_left _ (aa1 hd)
structure ke (n:Nat) (a:WW):Prop where
 one:a.one<n
 other:a.other<n
 ne:a.one≠a.other
 size:0<=a.size
 lt:a.size<((2^300:Nat):Rat)
 nm:PyData.strOk a.nm=true
structure aB.Ok (R:aB):Prop where
 lo:2<=R.n
 hi:R.n<=12
 few:R.asks.length<=20
 room:∀q∈R.rooms,0<q/\RB 60 q
 ask:∀a∈R.asks,ke R.n a
 cd:∃D:Nat,0<D/\D<2^1240/\∀a∈R.asks,a.size.den∣D
theorem aB.Ok.rb{R:aB}(h:R.Ok){a:WW}(ha:a∈R.asks):RB 1540 a.size:=by obtain⟨D,d0,d1,hd⟩:=h.cd;exact RB.of_val (v:=300) (d:=1240) (h.ask a ha).size (ZS (aaY d0 (hd a ha)) d1) (h.ask a ha).lt
theorem uv{α:Type}{n:Nat}{f:α->D}:∀xs:List α,(∀x∈xs,WA n (f x)=true)->yh n (xs.map f)=true
 |[],_=>rfl
 |x::xs,h=>by simp[yh,h x k4,uv xs λy hy=>h y (fI _ hy)]
theorem yk(n:Nat)(q:Rat):WA (n+1) (Wz q)=true:=by cases n<;>simp[Wz,WA,yh]
theorem OR{n:Nat}{a:WW}(h:ke n a):WA 2 (lV a)=true:=by simp[lV,WA,yh,h.nm,yk]
theorem vc(qs:List Rat):dN (.lst (qs.map Wz)):=bZ (n:=2) (by simp only[WA];exact uv _ λq _=>yk 0 q) xp
def Rv(xs:List D):Prop:=∃(c sd:Int)(t:Bool),xs=[.int c,.int sd,.bl t]/\0<=sd/\sd<2147483647
theorem EM{t b g:Int}(h:b≠0)(e:g=dC t b):D.tup [.int (t.fdiv g),.int (b.fdiv g)]=Wz (Rat.divInt t b):=by subst e;rw[HJ h,Os h];rfl
noncomputable def Cr(qs:List Rat):Nat:=(qs.map (·.den)).foldr (·*·) 1
theorem uw:∀qs:List Rat,0<Cr qs
 |[]=>Nat.one_pos
 |a::t=>Nat.mul_pos (den_pos a) (uw t)
noncomputable def lL(qs:List Rat):Rat:=qs.foldl (·+·) 0
theorem Iq(qs:List Rat):∀acc:Rat,qs.foldl (·+·) acc=acc+lL qs:=by
 unfold lL
 induction qs with
 |nil=>intro acc;simp[Rat.add_zero]
 |cons q qs ih=>intro acc;rw[aaU,aaU,ih,ih (0+q),Rat.zero_add,Rat.add_assoc]
theorem bo(q:Rat)(qs:List Rat):lL (q::qs)=q+lL qs:=by show(q::qs).foldl (·+·) 0=_;rw[aaU,Iq,Rat.zero_add]
theorem Ln(as bs:List Rat):lL (as++bs)=lL as+lL bs:=by
 induction as with
 |nil=>rw[aa5];show _=(0:Rat)+_;rw[Rat.zero_add]
 |cons a as ih=>rw[abV,bo,bo,ih,Rat.add_assoc]
theorem Lo{α β:Type}(f:α->β)(xs:List α)(l u:Option Int):HD (xs.map f) l u=(HD xs l u).map f:=by unfold HD;rw[ZL,<- List.map_drop,<- List.map_take]
theorem Lp{xs:List D}{i:Int}{k:L->Prop}:aE (.lst xs) (.int i) k=∃v,VT xs i=some v/\k (.d v):=rfl
theorem Lq{xs:List D}{i:Int}{k:L->Prop}:aE (.tup xs) (.int i) k=∃v,VT xs i=some v/\k (.d v):=rfl
theorem Lr{z:Str}{i:Int}{k:L->Prop}:aE (.str z) (.int i) k=(z.length<=sizeLine/\∃c,VT z.cps.toList i=some c/\k (.d (.str ⟨#[c]⟩))):=rfl
theorem Ls{R:aB}{k:L->Prop}:aE (aI R) (.int 0) k=k (.d (.lst (R.rooms.map Wz))):=by show(∃v,VT _ _=some v/\_)=_;simp only[CZ,aat,aaT]
theorem Lu{R:aB}{k:L->Prop}:aE (aI R) (.int 1) k=k (.d (.lst (R.asks.map lV))):=by show(∃v,VT _ _=some v/\_)=_;simp only[C0,aat,aaT]
theorem OS{a:WW}{k:L->Prop}:aE (lV a) (.int 0) k=k (.d (.str a.nm)):=by show(∃v,VT _ _=some v/\_)=_;simp only[CZ,aat,aaT]
theorem OT{a:WW}{k:L->Prop}:aE (lV a) (.int 1) k=k (.d (.int a.one)):=by show(∃v,VT _ _=some v/\_)=_;simp only[C0,aat,aaT]
theorem OU{a:WW}{k:L->Prop}:aE (lV a) (.int 2) k=k (.d (.int a.other)):=by show(∃v,VT _ _=some v/\_)=_;simp only[Rq,aat,aaT]
theorem OV{a:WW}{k:L->Prop}:aE (lV a) (.int 3) k=k (.d (Wz a.size)):=by show(∃v,VT _ _=some v/\_)=_;simp only[Rr,aat,aaT]
theorem Rw{q:Rat}{k:L->Prop}:aE (Wz q) (.int 0) k=k (.d (.int q.num)):=by show(∃v,VT _ _=some v/\_)=_;simp only[CZ,aat,aaT]
theorem Rx{q:Rat}{k:L->Prop}:aE (Wz q) (.int 1) k=k (.d (.int (q.den:Int))):=by show(∃v,VT _ _=some v/\_)=_;simp only[C0,aat,aaT]
theorem Nh(q:Rat):WD (Wz q)=true:=by simp[Wz,WD,yT]
theorem uy{α:Type}{f:α->D}:∀(xs:List α),(∀x∈xs,WD (f x)=true)->yT (xs.map f)=true
 |[],_=>rfl
 |x::xs,h=>by simp[yT,h x k4,uy xs λy hy=>h y (fI _ hy)]
theorem EN(qs:List Rat):yT (qs.map Wz)=true:=uy _ λq _=>Nh q
theorem Ir{α:Type}(f:α->Int)(xs:List α):yT (xs.map λx=>D.int (f x))=true:=uy _ λ_ _=>rfl
theorem Iu(R:aB):R.rooms.length=R.n:=rfl
noncomputable def jh(w:Bool):Str:=if w then "on" else "back"
theorem EO:dN (.str "on"):=bZ (n:=0) y_ xp
theorem yl:dN (.str "back"):=bZ (n:=0) y_ xp
theorem gY(w:Bool):dN (.str (jh w)):=by
 cases w
 . exact yl
 . exact EO
theorem Ry(w:Bool):(jh w="on")=(w=true):=by cases w <;> simp[jh] <;> decide
theorem Lv(w:Bool):(jh w="back")=(w=false):=by cases w <;> simp[jh] <;> decide
theorem Bc{is:List Nat}{xs:List D}{Z:Ev}{k:Ev->Prop}:eF is (.tup xs) Z k=j7 is xs Z k:=rfl
theorem Iv{is:List Nat}{a:WW}{Z:Ev}{k:Ev->Prop}:eF is (lV a) Z k=j7 is [.str a.nm,.int a.one,.int a.other,Wz a.size] Z k:=rfl
theorem Lw{is:List Nat}{q:Rat}{Z:Ev}{k:Ev->Prop}:eF is (Wz q) Z k=j7 is [.int q.num,.int (q.den:Int)] Z k:=rfl
theorem Lx{α:Type}{xs:List α}{k:Nat}(h:k<=xs.length):HD xs (some (k:Int)) none=xs.drop k:=by unfold HD HT.sIx;simp only[if_neg (show ¬((k:Int)<0) by omega),aak,Nat.min_eq_left h];rw[aas];rw[abB];exact ZY _
theorem C2{xs:List D}{k:List D->Prop}:oM (.lst xs) k=k xs:=rfl
theorem C3{xs:List D}{k:List D->Prop}:oM (.tup xs) k=k xs:=rfl
theorem Gi{q:Rat}{k:List D->Prop}:oM (Wz q) k=k [.int q.num,.int (q.den:Int)]:=rfl
theorem Iw{xs:List D}{k:L->Prop}:b8 [.lst xs] k=k (.d (.int xs.length)):=rfl
theorem Iy{xs:List D}{k:L->Prop}:b8 [.tup xs] k=k (.d (.int xs.length)):=rfl
theorem Iz{x:Str}{k:L->Prop}:b8 [.str x] k=(x.length<=sizeLine/\k (.d (.int x.length))):=rfl
theorem Ly{q:Rat}{k:L->Prop}:b8 [Wz q] k=k (.d (.int 2)):=rfl
theorem Gj{R:aB}{k:L->Prop}:b8 [aI R] k=k (.d (.int 2)):=rfl
theorem ID{a:WW}{k:L->Prop}:b8 [lV a] k=k (.d (.int 4)):=rfl
theorem C4(q:Rat):oQ "tuple" (Wz q)=true:=rfl
theorem C5(q:Rat):oQ "list" (Wz q)=false:=rfl
theorem C6(q:Rat):oQ "int" (Wz q)=false:=rfl
theorem Bd(q:Rat):oQ "bool" (Wz q)=false:=rfl
theorem C7(q:Rat):oQ "str" (Wz q)=false:=rfl
theorem yX(R:aB):oQ "tuple" (aI R)=true:=rfl
noncomputable def WX(n:Nat)(f:Nat->Rat):List D:=(List.range n).map λ(t:Nat)=>Wz (f t)
theorem C8(n:Nat)(f:Nat->Rat):(WX n f).length=n:=by simp[WX]
theorem IE{n:Nat}{f:Nat->Rat}{t:Nat}(h:t<n):VT (WX n f) (t:Int)=some (Wz (f t)):=by refine j4 ?_;unfold WX;rw[ZZ,aau h];rfl
theorem OW{n:Nat}{f:Nat->Rat}{t:Nat}(v:Rat):(WX n f).set t (Wz v)=WX n λs=>if s=t then v else f s:=by
 refine aa9 (by simp[WX]) λj h1 h2=>?_;have e1:∀(g:Nat->Rat)(h:j<(WX n g).length),(WX n g)[j]=Wz (g j):=λg h=>by simp[WX]
 rw[List.getElem_set,e1 _ h2];by_cases hj:t=j
 . subst hj;simp
 . rw[if_neg hj,if_neg (abe hj)];exact e1 _ _
theorem Rz{n:Nat}{f:Nat->Rat}{t:Nat}(h:t<n):VS (WX n f).length (t:Int)=some t:=by rw[C8];unfold VS;rw[if_pos (by omega),if_pos (by omega),aak]
theorem IF(n:Nat)(f:Nat->Rat):WX n f=((List.range n).map f).map Wz:=by unfold WX;rw[aag];rfl
theorem Be{n:Nat}{f g:Nat->Rat}(h:∀t,t<n->f t=g t):WX n f=WX n g:=by unfold WX;refine aaC λt ht=>?_;rw[h t (ZT.mp ht)]
theorem Lz(n:Nat)(f:Nat->Rat):yT (WX n f)=true:=by rw[IF];exact EN _
noncomputable def dR(c:Nat×Nat):D:=.tup [.int (c.1:Int),.int (c.2:Int)]
theorem OX{c:Nat×Nat}{k:L->Prop}:aE (dR c) (.int 0) k=k (.d (.int c.1)):=by show(∃v,VT _ _=some v/\_)=_;simp only[CZ,aat,aaT]
theorem OY{c:Nat×Nat}{k:L->Prop}:aE (dR c) (.int 1) k=k (.d (.int c.2)):=by show(∃v,VT _ _=some v/\_)=_;simp only[C0,aat,aaT]
theorem OZ(n:Nat)(c:Nat×Nat):WA (n+1) (dR c)=true:=by cases n<;>simp[dR,WA,yh]
theorem IG(c:Nat×Nat):WD (dR c)=true:=by simp[dR,WD,yT]
theorem IH(c:Nat×Nat):dN (dR c):=bZ (OZ 0 c) xp
theorem O0(c d:Nat×Nat):Wp (dR c) (dR d)=decide (c=d):=by
 unfold dR;rw[CO,jI,jI,yS,oR,oR,Bool.and_true,<- Bool.decide_and,abb];constructor
 . rintro⟨h1,h2⟩;exact Prod.ext xL xL
 . rintro rfl;exact⟨rfl,rfl⟩
noncomputable def gP(g:Rat×(Nat×Nat)):D:=.tup [Wz g.1,dR g.2]
theorem SW{g:Rat×(Nat×Nat)}{k:L->Prop}:aE (gP g) (.int 0) k=k (.d (Wz g.1)):=by show(∃v,VT _ _=some v/\_)=_;simp only[CZ,aat,aaT]
theorem SX{g:Rat×(Nat×Nat)}{k:L->Prop}:aE (gP g) (.int 1) k=k (.d (dR g.2)):=by show(∃v,VT _ _=some v/\_)=_;simp only[C0,aat,aaT]
theorem LA(T:String):oQ T .non=(T == "NoneType"):=rfl
theorem O1(T:String)(b:Bool):oQ T (.bl b)=(T == "bool" ||T == "int"):=rfl
theorem LC(T:String)(i:Int):oQ T (.int i)=(T == "int"):=rfl
theorem LD(T:String)(x:Str):oQ T (.str x)=(T == "str"):=rfl
theorem LF(T:String)(xs:List D):oQ T (.tup xs)=(T == "tuple"):=rfl
theorem LG(T:String)(xs:List D):oQ T (.lst xs)=(T == "list"):=rfl
theorem Gk(g:Rat×(Nat×Nat)):oQ "tuple" (gP g)=true:=rfl
theorem Bf(c:Nat×Nat):oQ "tuple" (dR c)=true:=rfl
theorem Bg(a:WW):oQ "tuple" (lV a)=true:=rfl
theorem II{c:Nat×Nat}{k:L->Prop}:b8 [dR c] k=k (.d (.int 2)):=rfl
theorem O2{c:Rat×(Nat×Nat)}{k:L->Prop}:b8 [gP c] k=k (.d (.int 2)):=rfl
theorem IJ(cs:List (Nat×Nat)):yT (cs.map dR)=true:=uy _ λc _=>IG c
end L2
namespace L2
open PySem PySem.Builtin.Str
def IK(c:Nat):Prop:=97<=c/\c<=122
structure Uq (z:Str):Prop where
 lo:1<=z.cps.toList.length
 hi:z.cps.toList.length<=8
 let_:∀c∈z.cps.toList,IK c
theorem Uq.ok{z:Str}(h:Uq z):PyData.strOk z=true:=by unfold PyData.strOk;rw[<- Array.all_toList,aaP];intro c hc;have:=h.let_ c hc;unfold IK at this;simp;omega
end L2
namespace L2
open PySem
noncomputable def WY(n i j:Nat):List Nat:=(List.range ((j+n-i) % n)).map λs=>(i+s) % n
noncomputable def C9(n i j:Nat):List Nat:=(List.range ((i+n-j) % n)).map λs=>(i+n-1-s) % n
noncomputable def xc(n:Nat)(a:WW)(w:Bool):List Nat:=if w then WY n a.one a.other else C9 n a.one a.other
theorem yY{n i j:Nat}(hi:i<n)(hj:j<n):(((j:Int)-i).fmod n)=(((j+n-i) % n:Nat):Int):=by
 rw[aaQ _ xL];have e:((j:Int)-i) % n=((j:Int)-i+n) % n:=(Int.add_emod_right _ _).symm;rw[e];have:(j:Int)-i+n=((j+n-i:Nat):Int):=by omega
 rw[this];exact(Int.natCast_emod _ _).symm
theorem ER{n i s:Nat}:(((i:Int)+s).fmod n)=(((i+s) % n:Nat):Int):=by rw[aaQ _ xL,Int.natCast_emod,Int.natCast_add]
theorem LH{n i s:Nat}(hn:0<n)(hs:s<n):(((i:Int)-1-s).fmod n)=(((i+n-1-s) % n:Nat):Int):=by
 rw[aaQ _ xL];have e:((i:Int)-1-s) % n=((i:Int)-1-s+n) % n:=(Int.add_emod_right _ _).symm;rw[e];have:(i:Int)-1-s+n=((i+n-1-s:Nat):Int):=by omega
 rw[this];exact(Int.natCast_emod _ _).symm
noncomputable def WZ(n i j:Nat):Nat:=(j+n-i) % n
theorem qp{x n:Nat}(h:x<2*n):x % n=if x<n then x else x-n:=by
 by_cases hx:x<n
 . rw[if_pos hx,Nat.mod_eq_of_lt hx]
 . rw[if_neg hx,Nat.mod_eq_sub_mod xL,Nat.mod_eq_of_lt xL]
theorem qq{n i j:Nat}(hi:i<n)(hj:j<n):WZ n i j=if i<=j then j-i else j+n-i:=by unfold WZ;rw[qp xL];split<;>split<;>omega
theorem Ni(n i j:Nat):(WY n i j).length=WZ n i j:=by simp[WY,WZ]
theorem LJ(n i j:Nat):(C9 n i j).length=WZ n j i:=by simp[C9,WZ]
theorem IL{n:Nat}{a:WW}(h:ke n a)(w:Bool):(xc n a w).length<n:=by
 have h1:=h.one;have h2:=h.other;cases w
 . show(C9 n a.one a.other).length<n;rw[LJ];exact abC _ xL
 . show(WY n a.one a.other).length<n;rw[Ni];exact abC _ xL
theorem IM{n i j:Nat}(hn:0<n):WZ n i j<n:=abC _ hn
theorem ES{n i s:Nat}(hi:i<n)(hs:s<n):WZ n i ((i+s) % n)=s:=by have h1:=abC (i+s) (y:=n) xL;rw[qq hi h1,qp xL];split<;>split<;>omega
theorem ET{n i t:Nat}(hi:i<n)(ht:t<n):(i+WZ n i t) % n=t:=by have h1:=IM (n:=n) (i:=i) (j:=t) xL;rw[qp xL,qq hi ht];split<;>split<;>omega
theorem O3{n i j:Nat}(hi:i<n)(hj:j<n)(h:i≠j):WZ n i j+WZ n j i=n:=by rw[qq hi hj,qq hj hi];split<;>split<;>omega
theorem Nj{n i j t:Nat}(hi:i<n):t∈WY n i j↔t<n/\WZ n i t<WZ n i j:=by
 constructor
 . intro h;obtain⟨s,hs,rfl⟩:=ZW.mp h;have hs:s<WZ n i j:=ZT.mp hs;have:=IM (n:=n) (i:=i) (j:=j) xL;exact⟨abC _ xL,by rw[ES hi xL];exact hs⟩
 . rintro⟨ht,h⟩;exact ZW.mpr ⟨WZ n i t,ZT.mpr h,ET hi ht⟩
theorem IP{n i s:Nat}(hi:i<n)(hs:s<n):(i+n-1-s) % n=(i+(n-1-s)) % n:=by
 congr 1
 omega
theorem EU{n i j t:Nat}(hi:i<n)(hj:j<n)(hij:i≠j):t∈C9 n i j↔t<n/\¬WZ n i t<WZ n i j:=by
 have hsum:=O3 hi hj hij;constructor
 . intro h;obtain⟨s,hs,rfl⟩:=ZW.mp h;have hs:s<WZ n j i:=ZT.mp hs;refine⟨abC _ xL,?_⟩;rw[IP hi xL,ES hi xL];omega
 .
  rintro⟨ht,h⟩;have:=IM (n:=n) (i:=i) (j:=t) xL;refine ZW.mpr ⟨n-1-WZ n i t,ZT.mpr (show _<WZ n j i by omega),?_⟩;rw[IP hi xL];have e:n-1-(n-1-WZ n i t)=WZ n i t:=by omega
  rw[e,ET hi ht]
noncomputable def sS(n:Nat)(a:WW)(t:Nat):Bool:=decide (WZ n a.one t<WZ n a.one a.other)
theorem vd{n:Nat}{a:WW}(h:ke n a)(w:Bool){t:Nat}(ht:t<n):t∈xc n a w↔(sS n a t == w)=true:=by
 have h1:=h.one;have h2:=h.other;cases w
 . show t∈C9 n a.one a.other↔_;rw[EU h1 h2 h.ne];simp[sS,ht]
 . show t∈WY n a.one a.other↔_;rw[Nj h1];simp[sS,ht]
theorem uz(t:Nat):∀(T:List Nat),V3 (.int (t:Int)) (T.map λ(s:Nat)=>D.int (s:Int))=decide (t∈T)
 |[]=>rfl
 | s::T=>by
  have ih:=uz t T;unfold V3 at ih ⊢;rw[aae,List.any_cons,ih];show(Ww (.int (s:Int)) (.int (t:Int)) ||_)=_;have e:Ww (.int (s:Int)) (.int (t:Int))=decide (t=s):=by show decide ((s:Int)=(t:Int))=_;rw[abb];omega
  rw[e];simp[Bool.decide_or]
theorem Bh(T:List Nat):(T.map λ(s:Nat)=>D.int (s:Int)).all tX=true:=by rw[aaP];intro x hx;obtain⟨s,_,rfl⟩:=ZW.mp hx;rfl
theorem RB.sum{b:Nat}:∀(qs:List Rat),(∀q∈qs,RB b q)->RB (1+(b+1)*qs.length) (lL qs)
 |[],_=>RB.mono (m:=1) ⟨xp,xp⟩ xL
 | q::qs,h=>by have ih:=RB.sum qs λz hz=>h z (fI _ hz);rw[bo];refine((h q k4).add ih).mono ?_;rw[aa8,Nat.mul_succ];omega
theorem IQ{b:Nat}:∀(qs:List Rat),(∀q∈qs,RB b q)->Cr qs<=2^(b*qs.length)
 |[],_=>ZY 1
 | q::qs,h=>by have ih:=IQ qs λz hz=>h z (fI _ hz);show q.den*Cr qs<=_;refine ZR (Nat.mul_le_mul (aa1 (h q k4).2) ih) ?_;rw[<- abJ,aa8,Nat.mul_succ];exact ZN xp xL
theorem qr:lL []=0:=rfl
theorem sT(qs:List Rat)(q:Rat):lL (qs++[q])=lL qs+q:=by rw[Ln,bo,qr,Rat.add_zero]
noncomputable def qt(n:Nat)(a:WW)(p:Rat)(t:Nat):Rat:=if sS n a t then p else a.size-p
noncomputable def cm(n:Nat)(as:List WW)(ps:List Rat)(t:Nat):Rat:=lL ((as.zip ps).map λx=>qt n x.1 x.2 t)
structure ve (R:aB) (ps:List Rat) (c:Nat):Prop where
 len:ps.length=R.asks.length
 lo:∀x∈R.asks.zip ps,0<=x.2/\x.2<=x.1.size
 rb:∀p∈ps,RB c p
theorem Da{n c:Nat}{a:WW}{p:Rat}(h:RB 60 a.size)(hp:RB c p)(t:Nat):RB (61+c) (qt n a p t):=by
 unfold qt;split
 . exact hp.mono xL
 . exact(h.sub hp).mono xL
theorem EV{α β:Type}(as:List α)(bs:List β)(k:Nat):(as.zip bs).take k=(as.take k).zip (bs.take k):=by unfold List.zip;exact List.take_zipWith
theorem LK{α β:Type}{as:List α}{bs:List β}{k:Nat}(h1:k<as.length)(h2:k<bs.length):(as.take (k+1)).zip (bs.take (k+1))=(as.take k).zip (bs.take k)++[(as[k],bs[k])]:=by rw[<- EV,<- EV,List.take_succ,gV (by rw[aaH];omega),abp];rfl
theorem ym{n:Nat}{as:List WW}{ps:List Rat}{k:Nat}(h1:k<as.length)(h2:k<ps.length)(t:Nat):cm n (as.take (k+1)) (ps.take (k+1)) t=cm n (as.take k) (ps.take k) t+qt n as[k] ps[k] t:=by unfold cm;rw[LK h1 h2,aaW];exact sT _ _
theorem LM{n c:Nat}{as:List WW}{ps:List Rat}(ha:∀a∈as,RB 60 a.size)(hp:∀p∈ps,RB c p)(hl:as.length<=20)(t:Nat):RB (1+(62+c)*20) (cm n as ps t):=by
 unfold cm;have h:=RB.sum (b:=61+c) ((as.zip ps).map λx=>qt n x.1 x.2 t) λq hq=>by obtain⟨x,hx,rfl⟩:=ZW.mp hq;obtain⟨h1,h2⟩:=abW (a:=x.1) (b:=x.2) hx;exact Da (ha _ h1) (hp _ h2) t
 refine h.mono ?_;rw[ZL,aaH];have:min as.length ps.length<=20:=by omega
 have e:61+c+1=62+c:=by omega
 rw[e];exact Nat.add_le_add_left (Nat.mul_le_mul_left _ this) 1
theorem EW{α:Type}{xs:List α}{k:Nat}{P:α->Prop}(h:∀x∈xs,P x):∀x∈xs.take k,P x:=λx hx=>h x (List.mem_of_mem_take hx)
theorem IR{α β:Type}{xs:List α}{f:α->β}(n:Nat)(h:xs.length=n)(g:Nat->β)(hg:∀k (hk:k<xs.length),g k=f xs[k]):(List.range n).map g=xs.map f:=by subst h;refine aa9 x_ λj h1 h2=>?_;simp only[abR,List.getElem_range];exact hg j (by simpa using h2)
theorem EX{α:Type}(f g:α->Rat):∀xs:List α,lL (xs.map f)-lL (xs.map g)=lL (xs.map λx=>f x-g x)
 |[]=>by simp only[List.map_nil,qr];grind
 | x::xs=>by have ih:=EX f g xs;rw[aae,aae,aae,bo,bo,bo,<- ih];grind
theorem EY{α:Type}(f g:α->Rat):∀xs:List α,lL (xs.map f)+lL (xs.map g)=lL (xs.map λx=>f x+g x)
 |[]=>by simp only[List.map_nil,qr];grind
 | x::xs=>by have ih:=EY f g xs;rw[aae,aae,aae,bo,bo,bo,<- ih];grind
theorem oU{α:Type}(f:α->Rat):∀xs:List α,(∀x∈xs,0<=f x)->0<=lL (xs.map f)
 |[],_=>by simp[qr]
 | x::xs,h=>by have ih:=oU f xs λy hy=>h y (fI _ hy);have h1:=h x k4;rw[aae,bo];grind
theorem O4{α:Type}(f g:α->Rat)(xs:List α)(h:∀x∈xs,f x<=g x):lL (xs.map f)<=lL (xs.map g):=by
 have e:=EX g f xs;have e2:=oU (λx=>g x-f x) xs λx hx=>by have:=h x hx;grind
 grind
theorem O5{α β γ:Type}(f:α->γ){as:List α}{bs:List β}(h:as.length<=bs.length):(as.zip bs).map (λx=>f x.1)=as.map f:=by
 have:(as.zip bs).map (λx=>f x.1)=((as.zip bs).map Prod.fst).map f:=by rw[aag];rfl
 rw[this,List.map_fst_zip h]
theorem vf{n:Nat}{a:WW}{p:Rat}(h0:0<=p)(h1:p<=a.size)(t:Nat):0<=qt n a p t/\qt n a p t<=a.size:=by
 unfold qt;split
 . exact⟨h0,h1⟩
 . constructor<;>grind
noncomputable def fS(c:Nat×Nat)(p:Nat):Bool:=decide (c.1<p/\p<=c.2)
noncomputable def apart(c:Nat×Nat)(i j:Nat):Bool:=fS c i != fS c j
noncomputable def bH(as:List WW)(c:Nat×Nat):Rat:=lL ((as.filter λa=>apart c a.one a.other).map (·.size))
noncomputable def aB.room(R:aB)(t:Nat):Rat:=R.rooms.getD t 0
noncomputable def gZ(R:aB)(c:Nat×Nat):Rat:=R.room c.1+R.room c.2
noncomputable def ba(R:aB)(c:Nat×Nat):Rat:=bH R.asks c / gZ R c
def bN(n:Nat)(c:Nat×Nat):Prop:=c.1<=c.2/\c.2<n
noncomputable def lW(n:Nat):List (Nat×Nat):=(List.range n).flatMap λg=>(List.range (n-g)).map λi=>(g,g+i)
theorem iP{n:Nat}{c:Nat×Nat}:c∈lW n↔bN n c:=by
 unfold lW bN;rw[List.mem_flatMap];constructor
 . rintro⟨g,hg,h⟩;obtain⟨i,hi,rfl⟩:=ZW.mp h;have:=ZT.mp hg;have:=ZT.mp hi;exact⟨aba _ _,by show g+i<n;omega⟩
 . rintro⟨h1,h2⟩;exact⟨c.1,ZT.mpr xL,ZW.mpr ⟨c.2-c.1,ZT.mpr xL,by ext<;>simp;omega⟩⟩
theorem Fb{n:Nat}(h:n<=12):(lW n).length<=200:=by
 have:∀m:Fin 13,(lW m.1).length<=200:=by decide
 exact this ⟨n,xL⟩
theorem yZ{R:aB}{t:Nat}(h:t<R.n):VT (R.rooms.map Wz) (t:Int)=some (Wz (R.room t)):=by have h':t<R.rooms.length:=h;rw[aW h'];unfold aB.room;rw[tu,gV h'];rfl
theorem dY{R:aB}(hR:R.Ok){t:Nat}(h:t<R.n):0<R.room t/\RB 60 (R.room t):=by have h':t<R.rooms.length:=h;unfold aB.room;rw[tu,gV h'];exact hR.room _ (ZM h')
theorem dP{R:aB}(hR:R.Ok){c:Nat×Nat}(h:bN R.n c):0<gZ R c/\RB 121 (gZ R c):=by have a:=dY hR (t:=c.1) (by have:=h.1;have:=h.2;omega);have b:=dY hR (t:=c.2) h.2;unfold gZ;exact⟨by have:=a.1;have:=b.1;grind,a.2.add b.2⟩
theorem rn{q:Rat}{D:Nat}{z:Int}(h0:0<D)(e:q*(D:Rat)=(z:Rat)):q.den∣D:=by
 have hQ:(D:Rat)≠0:=λw=>by have:=abi.mpr h0;rw[w]at this;exact absurd this xp
 have e2:q=Rat.divInt z (D:Int):=by rw[abN];have:((D:Int):Rat)=(D:Rat):=rfl;rw[this,<- e,Rat.mul_div_cancel hQ]
 rw[e2];have:=Rat.den_divInt z (D:Int);rw[this,if_neg (by omega),Z4];exact Nat.div_dvd_of_dvd (Nat.gcd_dvd_left _ _)
theorem yn{q:Rat}{D:Nat}(h:q.den∣D):∃z:Int,q*(D:Rat)=(z:Rat):=by obtain⟨m,rfl⟩:=h;refine⟨q.num*(m:Int),?_⟩;rw[Rat.intCast_mul,Ng];have e1:((m:Int):Rat)=(m:Rat):=rfl;have e2:((q.den*m:Nat):Rat)=(q.den:Rat)*(m:Rat):=Rat.natCast_mul _ _;rw[e1,e2,Rat.mul_assoc]
theorem IS{p q:Rat}{D:Nat}(h0:0<D)(hp:p.den∣D)(hq:q.den∣D):(p+q).den∣D:=by obtain⟨a,ha⟩:=yn hp;obtain⟨b,hb⟩:=yn hq;exact rn (z:=a+b) h0 (by rw[Rat.add_mul,ha,hb,Rat.intCast_add])
theorem Dc{D:Nat}(h0:0<D):∀qs:List Rat,(∀q∈qs,q.den∣D)->(lL qs).den∣D
 |[],_=>by show(0:Rat).den∣D;exact abY _
 | q::qs,h=>by rw[bo];exact IS h0 (h q k4) (Dc h0 qs λp hp=>h p (fI _ hp))
theorem IT{V:Rat}(hV:0<=V):∀qs:List Rat,(∀q∈qs,q<V)->lL qs<=(qs.length:Rat)*V
 |[],_=>by show(0:Rat)<=_;rw[List.length_nil];show(0:Rat)<=0*V;grind
 | q::qs,h=>by rw[bo,aa8];have h1:=h q k4;have h2:=IT hV qs λp hp=>h p (fI _ hp);have e:((qs.length+1:Nat):Rat)=(qs.length:Rat)+1:=Rat.natCast_add _ _;rw[e];grind
def RA(qs:List Rat):Prop:=Cr qs<2^9000∨∃D:Nat,0<D/\D<2^4400/\∀q∈qs,q.den∣D
theorem yo{R:aB}(hR:R.Ok){as:List WW}(hs:∀a∈as,a∈R.asks)(hl:as.length<=20)(c:Nat×Nat):RB 1546 (bH as c):=by
 obtain⟨D,d0,d1,hd⟩:=hR.cd;have hm:∀q∈(as.filter (λa=>apart c a.one a.other)).map (·.size),∃a∈R.asks,q=a.size:=λq hq=>by obtain⟨a,ha,rfl⟩:=ZW.mp hq;exact⟨a,hs a (aam.mp ha).1,rfl⟩
 have h1:(bH as c).den∣D:=Dc d0 _ λq hq=>by obtain⟨a,ha,rfl⟩:=hm q hq;exact hd a ha
 have h0:0<=bH as c:=oU _ _ λa ha=>(hR.ask a (hs a (aam.mp ha).1)).size;have hV:(0:Rat)<((2^300:Nat):Rat):=abi.mpr (Nat.pow_pos xp);have h2:bH as c<=_:=IT (aby hV) _ λq hq=>by obtain⟨a,ha,rfl⟩:=hm q hq;exact(hR.ask a ha).lt
 have h3:((as.filter (λa=>apart c a.one a.other)).map (·.size)).length<=20:=by rw[ZL];have:=aaM (λa:WW=>apart c a.one a.other) as;omega
 have h4:bH as c<((2^306:Nat):Rat):=by
  have e:((2^306:Nat):Rat)=64*((2^300:Nat):Rat):=by rw[show(2^306:Nat)=64*2^300 by rw[show 306=6+300 from rfl,abJ],Rat.natCast_mul];rfl
  rw[e];generalize ((2^300:Nat):Rat)=V at *;generalize ((as.filter (λa=>apart c a.one a.other)).map (·.size)).length=m at *;have h5:(m:Rat)*V<=20*V:=Rat.mul_le_mul_of_nonneg_right (by exact_mod_cast h3) (aby hV);grind
 exact(RB.of_val (v:=306) (d:=1240) h0 (ZS (aaY d0 h1) d1) h4).mono xp
theorem jJ{R:aB}(hR:R.Ok)(c:Nat×Nat):RB 1546 (bH R.asks c):=yo hR (λ_ h=>h) hR.few c
theorem Fc{R:aB}(hR:R.Ok){c:Nat×Nat}(h:bN R.n c):RB 1667 (ba R c):=by obtain⟨h1,h2⟩:=dP hR h;exact(jJ hR c).div h2 (by grind)
noncomputable def cG(R:aB)(acc:Rat×(Nat×Nat))(c:Nat×Nat):Rat×(Nat×Nat):=if acc.1<ba R c then(ba R c,c)else acc
theorem Bi{R:aB}{acc:Rat×(Nat×Nat)}{c:Nat×Nat}(h:acc.1<ba R c):cG R acc c=(ba R c,c):=if_pos h
theorem Bj{R:aB}{acc:Rat×(Nat×Nat)}{c:Nat×Nat}(h:¬acc.1<ba R c):cG R acc c=acc:=if_neg h
noncomputable def bB(R:aB):Rat×(Nat×Nat):=(lW R.n).foldl (cG R) (0,(0,0))
theorem y3(R:aB):ba R (0,0)=0:=by
 unfold ba bH;have:R.asks.filter (λa=>apart (0,0) a.one a.other)=[]:=by rw[List.filter_eq_nil_iff];intro a _;have e:∀p,fS (0,0) p=false:=λp=>ZP (by show ¬(0<p/\p<=0);omega);unfold apart;rw[e,e];decide
 rw[this];show(0:Rat) / _=0;rw[Rat.div_def,Rat.zero_mul]
theorem IU{n:Nat}(h:0<n):∃rest,lW n=(0,0)::rest:=by obtain⟨m,rfl⟩:∃m,n=m+1:=⟨n-1,xL⟩;unfold lW;rw[List.range_succ_eq_map,List.flatMap_cons];exact⟨_,by rw[Nat.sub_zero,List.range_succ_eq_map];rfl⟩
theorem Bk(R:aB):∀(cs:List (Nat×Nat))(acc:Rat×(Nat×Nat)),acc.1<=(cs.foldl (cG R) acc).1/\(∀c∈cs,ba R c<=(cs.foldl (cG R) acc).1)/\((cs.foldl (cG R) acc)=acc∨((cs.foldl (cG R) acc).2∈cs/\(cs.foldl (cG R) acc).1=ba R (cs.foldl (cG R) acc).2))
 |[],acc=>⟨abj,λc hc=>by simp at hc,.inl rfl⟩
 | c::cs,acc=>by
  obtain⟨h1,h2,h3⟩:=Bk R cs (cG R acc c);rw[aaU]
  have g1:acc.1<=(cG R acc c).1/\ba R c<=(cG R acc c).1:=by
   unfold cG;split
   . rename_i h;exact⟨aby h,abj⟩
   . rename_i h;exact⟨abj,abo.mp h⟩
  refine⟨abq g1.1 h1,λd hd=>?_,?_⟩
  .
   rcases ZU.mp hd with rfl|hd
   . exact abq g1.2 h1
   . exact h2 d hd
  .
   rcases h3 with h3|⟨h3,h4⟩
   .
    rw[h3];unfold cG;split
    . exact .inr ⟨k4,rfl⟩
    . exact .inl rfl
   . exact .inr ⟨fI _ h3,h4⟩
theorem kf{R:aB}(hR:R.Ok):bN R.n (bB R).2/\(bB R).1=ba R (bB R).2/\(∀c,bN R.n c->ba R c<=(bB R).1)/\0<=(bB R).1:=by
 have hlo:=hR.lo;obtain⟨h1,h2,h3⟩:=Bk R (lW R.n) (0,(0,0));refine⟨?_,?_,λc hc=>h2 c (iP.mpr hc),h1⟩
 .
  rcases h3 with h3|⟨h3,_⟩
  . unfold bB;rw[h3];exact⟨ZY _,by show 0<R.n;omega⟩
  . exact iP.mp h3
 .
  rcases h3 with h3|⟨_,h4⟩
  . unfold bB;rw[h3];exact(y3 R).symm
  . exact h4
theorem kg{R:aB}(hR:R.Ok):RB 1667 (bB R).1:=by obtain⟨h1,h2,_⟩:=kf hR;rw[h2];exact Fc hR h1
noncomputable def aO(R:aB)(ps:List Rat)(t:Nat):Rat:=cm R.n R.asks ps t / R.room t
noncomputable def Cs(n:Nat)(f:Nat->Rat):Nat:=(List.range n).foldl (λb t=>if f b<f t then t else b) 0
theorem Fd(f:Nat->Rat):∀(ts:List Nat)(b:Nat),(∀t∈ts,f t<=f (ts.foldl (λb t=>if f b<f t then t else b) b))/\f b<=f (ts.foldl (λb t=>if f b<f t then t else b) b)/\(ts.foldl (λb t=>if f b<f t then t else b) b=b∨ts.foldl (λb t=>if f b<f t then t else b) b∈ts)
 |[],b=>⟨λt ht=>by simp at ht,abj,.inl rfl⟩
 | s::ts,b=>by
  obtain⟨h1,h2,h3⟩:=Fd f ts (if f b<f s then s else b)
  rw[aaU]
  have g:f b<=f (if f b<f s then s else b)/\f s<=f (if f b<f s then s else b):=by
   split
   . rename_i h;exact⟨aby h,abj⟩
   . rename_i h;exact⟨abj,abo.mp h⟩
  refine⟨λt ht=>?_,abq g.1 h2,?_⟩
  .
   rcases ZU.mp ht with rfl|ht
   . exact abq g.2 h2
   . exact h1 t ht
  .
   rcases h3 with h3|h3
   .
    rw[h3];split
    . exact .inr k4
    . exact .inl rfl
   . exact .inr (fI _ h3)
theorem y4{n:Nat}(hn:0<n)(f:Nat->Rat):Cs n f<n/\∀t,t<n->f t<=f (Cs n f):=by
 obtain⟨h1,_,h3⟩:=Fd f (List.range n) 0;refine⟨?_,λt ht=>h1 t (ZT.mpr ht)⟩;rcases h3 with h3|h3
 . unfold Cs;rw[h3];exact hn
 . exact ZT.mp h3
theorem O6(n:Nat)(f:Nat->Rat):eG (WX n f)=(List.range n).map λ(t:Nat)=>D.tup [.int (t:Int),Wz (f t)]:=by unfold eG WX;refine aa9 x_ λj h1 h2=>?_;simp
theorem Fe(qs:List Rat):eG (qs.map Wz)=(List.range qs.length).map λ(t:Nat)=>D.tup [.int (t:Int),Wz (qs.getD t 0)]:=by
 unfold eG;refine aa9 x_ λj h1 h2=>?_;have hj:j<qs.length:=by simpa using h1
 simp[hj]
theorem Ff(R:aB):R.rooms.map Wz=WX R.n R.room:=by
 rw[IF]
 congr 1
 refine aa9 (by simp[aB.n]) λj h1 h2=>?_;simp[aB.room,h1]
theorem IV(n:Nat)(f g:Nat->Rat):Gd (WX n f) (WX n g)=(List.range n).map λ(t:Nat)=>D.tup [Wz (f t),Wz (g t)]:=by unfold Gd WX;refine aa9 x_ λj h1 h2=>?_;simp
theorem rp{n : Nat}{a : WW}(h : ke n a){t : Nat}(ht : t<n) : sS n a t = ((decide (a.one <= t) != decide (a.other <= t)) != decide (a.other<a.one)) := by
  have h1 := h.one;have h2 := h.other;have hne := h.ne;unfold sS;rw[qq h1 ht, qq h1 h2];by_cases a1 : a.one <= t<;>by_cases a2 : a.other <= t<;>by_cases a3 : a.other<a.one<;>by_cases a4 : a.one <= a.other
  all_goals
    simp only[a1, a2, a3, a4, aaX, aa3, abX, abK]
  all_goals first
    |omega
    | (first
        |(rw[aaa xL];rfl)
        |(rw[ZP xL];rfl))
theorem vg{n:Nat}{a:WW}(h:ke n a){c:Nat×Nat}(hc:bN n c):apart c a.one a.other=(sS n a c.1 != sS n a c.2):=by
 have h1:=hc.1;have h2:=hc.2;rw[rp h xL,rp h h2];unfold apart fS
 have e:∀p:Nat,decide (c.1<p/\p<=c.2)=(decide (p<=c.1) != decide (p<=c.2)):=λp=>by
  by_cases q1:p<=c.1<;>by_cases q2:p<=c.2
  . rw[ZP xL];simp[q1,q2]
  . omega
  . rw[aaa xL];simp[q1,q2]
  . rw[ZP xL];simp[q1,q2]
 rw[e,e];cases decide (a.one<=c.1)<;>cases decide (a.one<=c.2)<;>cases decide (a.other<=c.1)<;>cases decide (a.other<=c.2)<;>cases decide (a.other<a.one)<;>rfl
theorem LN{n:Nat}{a:WW}(h:ke n a){c:Nat×Nat}(hc:bN n c)(p:Rat)(ha:apart c a.one a.other=true):qt n a p c.1+qt n a p c.2=a.size:=by
 rw[vg h hc]at ha;unfold qt
 revert ha
 cases sS n a c.1<;>cases sS n a c.2<;>intro ha
 . cases ha
 . simp only[aaw,aa3,aaX];grind
 . simp only[aaw,aa3,aaX];grind
 . cases ha
theorem Gm{as:List WW}{ps:List Rat}(hl:as.length<=ps.length)(c:Nat×Nat):bH as c=lL ((as.zip ps).map λx=>if apart c x.1.one x.1.other=true then x.1.size else 0):=by
 rw[O5 (λa:WW=>if apart c a.one a.other=true then a.size else 0) hl]
 unfold bH
 induction as with
 |nil=>rfl
 | cons a as ih =>
  have ih:=ih (ZR x_ hl);rw[aae,bo,<- ih,aao];split
  . rw[aae,bo]
  . rw[Rat.zero_add]
theorem LP{R:aB}(hR:R.Ok){ps:List Rat}{b:Nat}(hp:ve R ps b){c:Nat×Nat}(hc:bN R.n c):bH R.asks c<=cm R.n R.asks ps c.1+cm R.n R.asks ps c.2:=by
 have hl:=hp.len;rw[Gm (ps:=ps) xL];unfold cm;rw[EY];refine O4 _ _ _ λx hx=>?_;obtain⟨h1,_⟩:=abW (a:=x.1) (b:=x.2) hx;obtain⟨a1,a2⟩:=hp.lo x hx;have b1:=(vf (n:=R.n) a1 a2 c.1).1;have b2:=(vf (n:=R.n) a1 a2 c.2).1;split
 . rename_i e;rw[LN (hR.ask _ h1) hc x.2 e];exact abj
 . grind
theorem ki{a b c:Rat}(hb:0<b):a / b<=c↔a<=c*b:=by rw[<- abo,<- abo,Rat.lt_div_iff hb]
theorem yp{R:aB}(hR:R.Ok){ps:List Rat}{t:Nat}(ht:t<R.n):cm R.n R.asks ps t<=aO R ps (Cs R.n (aO R ps))*R.room t:=by have hlo:=hR.lo;have h:=(y4 (n:=R.n) xL (aO R ps)).2 t ht;have hr:=(dY hR ht).1;exact(ki hr).mp h
theorem IW{R:aB}(hR:R.Ok){ps:List Rat}{b:Nat}(hp:ve R ps b){c:Nat×Nat}(hc:bN R.n c):ba R c<=aO R ps (Cs R.n (aO R ps)):=by
 have h1:c.1<R.n:=by have:=hc.1;have:=hc.2;omega
 have e1:=yp hR (ps:=ps) h1;have e2:=yp hR (ps:=ps) hc.2;have e3:=LP hR hp hc;have r:=(dP hR hc).1;refine(ki r).mpr ?_;unfold gZ;generalize aO R ps (Cs R.n (aO R ps))=T at e1 e2 ⊢;rw[Rat.mul_add];grind
noncomputable def U1:Option Nat->D
 |none=>.non
 |some k=>.int (k:Int)
noncomputable def eK(P:Nat->Bool)(n:Nat):Option Nat:=(List.range n).find? P
theorem jK{P:Nat->Bool}{n:Nat}:eK P n=none↔∀k,k<n->P k=false:=by
 unfold eK;rw[List.find?_eq_none];constructor
 . intro h k hk;have:=h k (ZT.mpr hk);simpa using this
 . intro h k hk;rw[h k (ZT.mp hk)];exact aaF
theorem Fg{P:Nat->Bool}{n k:Nat}(hk:k<n)(h1:P k=true)(h0:∀j,j<k->P j=false):eK P n=some k:=by
 have e:List.range n=List.range k++k::(List.range' (k+1) (n-k-1)):=by
  rw[List.range_eq_range',List.range_eq_range'];have:n=k+(1+(n-k-1)):=by omega
  conv=>lhs;rw[this]
  rw[<- List.range'_append_1,Nat.zero_add]
  congr 1
  rw[Nat.add_comm,List.range'_succ]
 unfold eK;rw[e,List.find?_append];have:(List.range k).find? P=none:=by rw[List.find?_eq_none];intro j hj;rw[h0 j (ZT.mp hj)];exact aaF
 rw[this,List.find?_cons,h1];rfl
noncomputable def aB.sz(R:aB)(k:Nat):Rat:=(R.asks.map (·.size)).getD k 0
theorem Bl{R:aB}{k:Nat}(h:k<R.asks.length):R.sz k=R.asks[k].size:=by unfold aB.sz;rw[tu,ZZ,gV h];rfl
theorem kj{qs:List Rat}{k:Nat}(h:k<qs.length):qs.getD k 0=qs[k]:=by rw[tu,gV h];rfl
noncomputable def bX(R:aB)(ps:List Rat)(k:Nat):Bool:=decide (ps.getD k 0<0) ||decide (R.sz k<ps.getD k 0)
end L2
namespace My
open PySem L2
noncomputable def lX(R:aB)(q:Rat)(c:Nat×Nat):Rat:=q*gZ R c-bH R.asks c
theorem vh{R:aB}(hR:R.Ok){q:Rat}(hq:RB 1750 q){c:Nat×Nat}(h:bN R.n c):RB 1871 (q*gZ R c)/\RB 3420 (lX R q c):=by have h1:RB 1871 (q*gZ R c):=(hq.mul (dP hR h).2).mono xp;exact⟨h1,(h1.sub (jJ hR c)).mono xp⟩
noncomputable def oV(R:aB)(q:Rat)(acc:Option (Rat×(Nat×Nat)))(c:Nat×Nat):Option (Rat×(Nat×Nat)):=match acc with
 |none=>some (lX R q c,c)
 |some p=>if lX R q c<p.1 then some (lX R q c,c)else some p
noncomputable def IX:Option (Rat×(Nat×Nat))->D
 |none=>.non
 |some p=>.tup [.str "most",Wz p.1,dR p.2]
def Fh(R:aB)(q:Rat)(cs:List (Nat×Nat))(p:Rat×(Nat×Nat)):Prop:=p.2∈cs/\p.1=lX R q p.2/\∀c∈cs,¬lX R q c<p.1
theorem LQ(R:aB)(q:Rat):∀(cs:List (Nat×Nat)),cs≠[]->∃p,cs.foldl (oV R q) none=some p/\Fh R q cs p:=by
 have key:∀(cs pre:List (Nat×Nat))(p:Rat×(Nat×Nat)),Fh R q pre p->∃p',cs.foldl (oV R q) (some p)=some p'/\Fh R q (pre++cs) p':=by
  intro cs
  induction cs with
  |nil=>intro pre p h;exact⟨p,rfl,by rw[abh];exact h⟩
  | cons c cs ih =>
   intro pre p h;rw[aaU]
   have:∃p1,oV R q (some p) c=some p1/\Fh R q (pre++[c]) p1:=by
    unfold oV;by_cases hl:lX R q c<p.1
    .
     simp only[hl,aaX];refine⟨_,rfl,x_,rfl,λd hd=>?_⟩;rcases aap.mp hd with hd|hd
     . have:=h.2.2 d hd;show ¬lX R q d<lX R q c;grind
     . simp only[aaS]at hd;subst hd;show ¬lX R q d<lX R q d;grind
    .
     simp only[hl,aa3];refine⟨_,rfl,by simp[h.1],h.2.1,λd hd=>?_⟩;rcases aap.mp hd with hd|hd
     . exact h.2.2 d hd
     . simp only[aaS]at hd;subst hd;exact hl
   obtain⟨p1,e1,h1⟩:=this;rw[e1];obtain⟨p2,e2,h2⟩:=ih _ _ h1;exact⟨p2,e2,by rw[aaJ]at h2;exact h2⟩
 intro cs hne
 cases cs with
 |nil=>exact absurd rfl hne
 | cons c cs =>
  rw[aaU];exact key cs [c] (lX R q c,c) ⟨x_,rfl,λd hd=>by simp only[aaS]at hd;subst hd;show ¬lX R q d<lX R q d;grind⟩
noncomputable def aS(R:aB)(j:Nat):WW:=(R.asks[j]?).getD ⟨"",0,0,0⟩
noncomputable def W0(R:aB)(j t:Nat):Bool:=sS R.n (aS R j) t
noncomputable def dI(R:aB)(w:Nat->Int)(k g h:Nat):Int:=((List.range (R.asks.length-k)).map λi=>if W0 R (k+i) g != W0 R (k+i) h then w (k+i)else 0).sum
theorem km{R:aB}(hR:R.Ok){j:Nat}(h:j<R.asks.length):ke R.n (aS R j):=by unfold aS;rw[gV h];exact hR.ask _ (ZM h)
theorem fL{R:aB}{j:Nat}(h:j<R.asks.length):aS R j=R.asks[j]:=by unfold aS;rw[gV h];rfl
theorem rq(R:aB)(w:Nat->Int)(k g h:Nat):dI R w k g h=dI R w k h g:=by
 unfold dI
 congr 1
 refine aaC λi _=>?_;cases W0 R (k+i) g<;>cases W0 R (k+i) h<;>rfl
theorem rA(R:aB)(w:Nat->Int){k:Nat}(hk:k<R.asks.length)(g h:Nat):dI R w k g h=(if W0 R k g != W0 R k h then w k else 0)+dI R w (k+1) g h:=by
 unfold dI;have e:R.asks.length-k=(R.asks.length-(k+1))+1:=by omega
 rw[e,List.range_succ_eq_map,aae,abO,aag]
 congr 2
 refine aaC λi _=>?_
 show(if W0 R (k+(i+1)) g != W0 R (k+(i+1)) h then w (k+(i+1))else 0)=_
 rw[show k+(i+1)=k+1+i by omega]
theorem RC(R:aB)(w:Nat->Int)(g h:Nat):dI R w R.asks.length g h=0:=by unfold dI;rw[Nat.sub_self];rfl
theorem y6{α:Type}(f1 f2 g1 g2:α->Int):∀(xs:List α),(∀x∈xs,f1 x+f2 x<=g1 x+g2 x)->(xs.map f1).sum+(xs.map f2).sum<=(xs.map g1).sum+(xs.map g2).sum
 |[],_=>by simp
 | x::xs,h=>by have h1:=h x k4;have h2:=y6 f1 f2 g1 g2 xs λy hy=>h y (fI _ hy);simp only[aae,abO];omega
theorem IY:∀(u1 u2 u3 u4 v1 v2 v3 v4 c:Bool),(u1->u2)->(u2->u3)->(u3->u4)->(v1->v2)->(v2->v3)->(v3->v4) ->
  ((((u1 != v1) != c) != ((u2 != v2) != c)).toNat+(((u3 != v3) != c) != ((u4 != v4) != c)).toNat<=(((u1 != v1) != c) != ((u3 != v3) != c)).toNat+(((u2 != v2) != c) != ((u4 != v4) != c)).toNat) /\
  ((((u1 != v1) != c) != ((u4 != v4) != c)).toNat+(((u2 != v2) != c) != ((u3 != v3) != c)).toNat<=(((u1 != v1) != c) != ((u3 != v3) != c)).toNat+(((u2 != v2) != c) != ((u4 != v4) != c)).toNat) /\
  (((u1 != v1) != c)=((u3 != v3) != c)->((u2 != v2) != c)=((u4 != v4) != c)->((u1 != v1) != c)=((u2 != v2) != c)):=by decide
theorem I0{w:Int}(hw:0<=w){b1 b2 b3 b4:Bool}(h:b1.toNat+b2.toNat<=b3.toNat+b4.toNat):(if b1 then w else 0)+(if b2 then w else 0)<=(if b3 then w else 0)+(if b4 then w else 0):=by cases b1<;>cases b2<;>cases b3<;>cases b4<;>simp at h⊢<;> omega
theorem Dd{R:aB}(hR:R.Ok){j:Nat}(hj:j<R.asks.length){p1 p2 p3 p4:Nat}(h12:p1<=p2)(h23:p2<=p3)(h34:p3<=p4)(h4:p4<R.n) :
  ((W0 R j p1 != W0 R j p2).toNat+(W0 R j p3 != W0 R j p4).toNat<=(W0 R j p1 != W0 R j p3).toNat+(W0 R j p2 != W0 R j p4).toNat) /\
  ((W0 R j p1 != W0 R j p4).toNat+(W0 R j p2 != W0 R j p3).toNat<=(W0 R j p1 != W0 R j p3).toNat+(W0 R j p2 != W0 R j p4).toNat) /\
  (W0 R j p1=W0 R j p3->W0 R j p2=W0 R j p4->W0 R j p1=W0 R j p2):=by
 have ha:=km hR hj;unfold W0;rw[rp ha (show p1<R.n by omega),rp ha (show p2<R.n by omega),rp ha (show p3<R.n by omega),rp ha h4];exact IY _ _ _ _ _ _ _ _ _ (by simp only[ZX];omega) (by simp only[ZX];omega) (by simp only[ZX];omega) (by simp only[ZX];omega) (by simp only[ZX];omega) (by simp only[ZX];omega)
theorem uA{R:aB}(hR:R.Ok){w:Nat->Int}(hw:∀j,j<R.asks.length->0<=w j)(k:Nat){p1 p2 p3 p4:Nat}(h12:p1<=p2)(h23:p2<=p3)(h34:p3<=p4)(h4:p4<R.n) :
  dI R w k p1 p2+dI R w k p3 p4<=dI R w k p1 p3+dI R w k p2 p4/\dI R w k p1 p4+dI R w k p2 p3<=dI R w k p1 p3+dI R w k p2 p4:=by
 unfold dI;refine⟨y6 _ _ _ _ _ λi hi=>?_,y6 _ _ _ _ _ λi hi=>?_⟩
 all_goals
  have hj:k+i<R.asks.length:=by have:=ZT.mp hi;omega
  have h:=Dd hR hj h12 h23 h34 h4
 . exact I0 (hw _ hj) h.1
 . exact I0 (hw _ hj) h.2.1
def y7(R:aB)(w f:Nat->Int)(k:Nat):Prop:=∀g h,g<R.n->h<R.n->dI R w k g h<=f g+f h/\(f g+f h-dI R w k g h) % 2=0
noncomputable def vi(R:aB)(w f:Nat->Int)(k:Nat)(p:Int)(t:Nat):Int:=f t-if W0 R k t then p else w k-p
theorem LR{R:aB}(hR:R.Ok){w f:Nat->Int}(hw:∀j,j<R.asks.length->0<=w j){k:Nat}(hk:k<R.asks.length)(hc:y7 R w f k){p:Int}
  (hp:∀g h,g<R.n->h<R.n->W0 R k g=true->W0 R k h=true->g<=h->2*p<=f g+f h-dI R w (k+1) g h)
  (hq:p=w k∨∃a b,a<R.n/\b<R.n/\W0 R k a=true/\W0 R k b=true/\a<=b/\2*p=f a+f b-dI R w (k+1) a b):y7 R w (vi R w f k p) (k+1):=by
 have main:∀g h,g<R.n->h<R.n->g<=h->dI R w (k+1) g h<=vi R w f k p g+vi R w f k p h/\(vi R w f k p g+vi R w f k p h-dI R w (k+1) g h) % 2=0:=by
  intro g h hg hh hgh;obtain⟨c1,c2⟩:=hc g h hg hh;have st:=rA R w hk g h;unfold vi;cases eg:W0 R k g<;>cases eh:W0 R k h<;>rw[eg,eh]at st
  .
   simp only[bne_self_eq_false,aaw,aa3]at st ⊢;refine⟨?_,xL⟩;rcases hq with hq|⟨a,b,ha,hb,ea,eb,hab,e2⟩
   . omega
   .
    have sag:dI R w k a g=w k+dI R w (k+1) a g:=by rw[rA R w hk,ea,eg];rfl
    have sbh:dI R w k b h=w k+dI R w (k+1) b h:=by rw[rA R w hk,eb,eh];rfl
    have sah:dI R w k a h=w k+dI R w (k+1) a h:=by rw[rA R w hk,ea,eh];rfl
    have sbg:dI R w k b g=w k+dI R w (k+1) b g:=by rw[rA R w hk,eb,eg];rfl
    have cag:=(hc a g ha hg).1;have cbh:=(hc b h hb hh).1;have cah:=(hc a h ha hh).1;have cbg:=(hc b g hb hg).1;by_cases o1:b<=g
    . have:=(uA hR hw (k+1) hab o1 hgh hh).1;omega
    .
     by_cases o2:h<=a
     . have:=(uA hR hw (k+1) hgh o2 hab hb).1;rw[rq R w (k+1) g a,rq R w (k+1) h b]at this;omega
     .
      by_cases o3:g<=a
      .
       by_cases o4:b<=h
       . have:=(uA hR hw (k+1) o3 hab o4 hh).2;rw[rq R w (k+1) g b]at this;omega
       . exfalso;have:=(Dd hR hk o3 (show a<=h by omega) (show h<=b by omega) hb).2.2;rw[eg,ea,eh,eb]at this;exact absurd (this rfl rfl) xp
      .
       by_cases o4:h<=b
       . have:=(uA hR hw (k+1) (show a<=g by omega) hgh o4 hb).2;rw[rq R w (k+1) g b]at this;omega
       . exfalso;have:=(Dd hR hk (show a<=g by omega) (show g<=b by omega) (show b<=h by omega) hh).2.2;rw[eg,ea,eh,eb]at this;exact absurd (this rfl rfl) xp
  . simp only[Bool.false_bne,aaX,aa3,aaw]at st ⊢;exact⟨xL,xL⟩
  . simp only[Bool.bne_false,aaX,aa3,aaw]at st ⊢;exact⟨xL,xL⟩
  . simp only[bne_self_eq_false,aaw,aa3,aaX]at st ⊢;have:=hp g h hg hh eg eh hgh;exact⟨xL,xL⟩
 intro g h hg hh;by_cases hgh:g<=h
 . exact main g h hg hh hgh
 . have:=main h g hh hg xL;rw[rq R w (k+1) h g]at this;exact⟨xL,xL⟩
noncomputable def W1(i j:Int):Int:=if j<i then j else i
theorem Ja{α:Type}(c:α->Bool)(v:α->Int):∀(xs:List α)(acc r:Int),xs.foldl (λt x=>if c x then W1 t (v x)else t) acc=r ->
  r<=acc/\(∀x∈xs,c x=true->r<=v x)/\(r=acc∨∃x∈xs,c x=true/\r=v x)
 | [],acc,r,e=>by rw[List.foldl_nil]at e;subst e;exact⟨Int.le_refl _,λx hx=>by simp at hx,.inl rfl⟩
 | x::xs,acc,r,e=>by
  rw[aaU]at e;obtain⟨h1,h2,h3⟩:=Ja c v xs _ r e;unfold W1 at h1 h3;by_cases hc:c x=true
  .
   rw[if_pos hc]at h1 h3;by_cases hl:v x<acc
   .
    rw[if_pos hl]at h1 h3;refine⟨xL,λy hy hy'=>?_,?_⟩
    .
     rcases ZU.mp hy with rfl|hy
     . exact h1
     . exact h2 y hy hy'
    .
     rcases h3 with h3|⟨y,hy,hc',e⟩
     . exact .inr ⟨x,k4,hc,h3⟩
     . exact .inr ⟨y,fI _ hy,hc',e⟩
   .
    rw[if_neg hl]at h1 h3;refine⟨xL,λy hy hy'=>?_,?_⟩
    .
     rcases ZU.mp hy with rfl|hy
     . omega
     . exact h2 y hy hy'
    .
     rcases h3 with h3|⟨y,hy,hc',e⟩
     . exact .inl h3
     . exact .inr ⟨y,fI _ hy,hc',e⟩
  .
   rw[if_neg hc]at h1 h3;refine⟨h1,λy hy hy'=>?_,?_⟩
   .
    rcases ZU.mp hy with rfl|hy
    . exact absurd hy' hc
    . exact h2 y hy hy'
   .
    rcases h3 with h3|⟨y,hy,hc',e⟩
    . exact .inl h3
    . exact .inr ⟨y,fI _ hy,hc',e⟩
noncomputable def W2(R:aB)(k:Nat):List Nat:=(W.sortI ((xc R.n (aS R k) true).map λ(t:Nat)=>(t:Int))).map Int.toNat
theorem LS(R:aB)(k:Nat):W.sortI ((xc R.n (aS R k) true).map λ(t:Nat)=>(t:Int))=(W2 R k).map λ(t:Nat)=>(t:Int):=by
 unfold W2;rw[aag];have:∀x∈W.sortI ((xc R.n (aS R k) true).map λ(t:Nat)=>(t:Int)),((λ(t:Nat)=>(t:Int)) ∘ Int.toNat) x=x:=λx hx=>by obtain⟨t,_,rfl⟩:=ZW.mp ((W.sortI_perm _).mem_iff.mp hx);rfl
 exact((aaC this).trans (List.map_id' _)).symm
theorem O7{R:aB}{k t:Nat}:t∈W2 R k↔t∈xc R.n (aS R k) true:=by
 unfold W2;constructor
 . intro h;obtain⟨x,hx,rfl⟩:=ZW.mp h;obtain⟨s,hs,rfl⟩:=ZW.mp ((W.sortI_perm _).mem_iff.mp hx);exact hs
 . intro h;exact ZW.mpr ⟨(t:Int),(W.sortI_perm _).mem_iff.mpr (ZW.mpr ⟨t,h,rfl⟩),rfl⟩
theorem RD{n:Nat}{a:WW}(h:ke n a){t:Nat}(ht:t∈xc n a true):t<n:=by have h1:=h.one;unfold xc WY at ht;simp only[aaX]at ht;obtain⟨s,_,rfl⟩:=ZW.mp ht;exact abC _ xL
theorem oW{R:aB}(hR:R.Ok){k:Nat}(hk:k<R.asks.length){t:Nat}:t∈W2 R k↔t<R.n/\W0 R k t=true:=by
 have ha:=km hR hk;rw[O7];constructor
 . intro h;have ht:=RD ha h;have:=(vd ha true ht).mp h;exact⟨ht,by unfold W0;simpa using this⟩
 . rintro⟨ht,h⟩;refine(vd ha true ht).mpr ?_;unfold W0 at h;rw[h];rfl
noncomputable def LU(R:aB)(w f:Nat->Int)(k g h:Nat):Int:=f g+f h-dI R w (k+1) g h
noncomputable def lY(R:aB)(w f:Nat->Int)(k:Nat)(acc:Int)(g:Nat)(hs:List Nat):Int:=hs.foldl (λt h=>if decide (g<=h)then W1 t (LU R w f k g h)else t) acc
noncomputable def nX(R:aB)(w f:Nat->Int)(k:Nat)(gs:List Nat):Int:=gs.foldl (λt g=>lY R w f k t g (W2 R k)) (2*w k)
noncomputable def y9(R:aB)(w f:Nat->Int)(k:Nat):Int:=(nX R w f k (W2 R k)).fdiv 2
theorem Fi(R:aB)(w f:Nat->Int)(k:Nat):∀(gs:List Nat)(acc r:Int),gs.foldl (λt g=>lY R w f k t g (W2 R k)) acc=r ->
  r<=acc/\(∀g∈gs,∀h∈W2 R k,g<=h->r<=LU R w f k g h)/\(r=acc∨∃g∈gs,∃h∈W2 R k,g<=h/\r=LU R w f k g h)
 | [],acc,r,e=>by rw[List.foldl_nil]at e;subst e;exact⟨Int.le_refl _,λx hx=>by simp at hx,.inl rfl⟩
 | g::gs,acc,r,e=>by
  rw[aaU]at e;obtain⟨i1,i2,i3⟩:=Ja (λh=>decide (g<=h)) (LU R w f k g) (W2 R k) acc _ rfl;obtain⟨h1,h2,h3⟩:=Fi R w f k gs _ r e;unfold lY at h1 h3
  generalize (W2 R k).foldl (λt h=>if decide (g<=h)then W1 t (LU R w f k g h)else t) acc=z at *
  refine⟨xL,λy hy h hh hyh=>?_,?_⟩
  .
   rcases ZU.mp hy with rfl|hy
   . have:=i2 h hh (aaa hyh);omega
   . exact h2 y hy h hh hyh
  .
   rcases h3 with h3|⟨y,hy,h,hh,c,e⟩
   .
    rcases i3 with i3|⟨h,hh,c,e⟩
    . exact .inl (h3.trans i3)
    . exact .inr ⟨g,k4,h,hh,abl c,h3.trans e⟩
   . exact .inr ⟨y,fI _ hy,h,hh,c,e⟩
theorem Jb{R:aB}(hR:R.Ok){w f:Nat->Int}(hw:∀j,j<R.asks.length->0<=w j){k:Nat}(hk:k<R.asks.length)(hc:y7 R w f k) :
  0<=y9 R w f k/\y9 R w f k<=w k/\y7 R w (vi R w f k (y9 R w f k)) (k+1):=by
 obtain⟨h1,h2,h3⟩:=Fi R w f k (W2 R k) (2*w k) _ rfl;have e:nX R w f k (W2 R k)=(W2 R k).foldl (λt g=>lY R w f k t g (W2 R k)) (2*w k):=rfl;have hwk:=hw k hk;have hv:∀g h,g∈W2 R k->h∈W2 R k->0<=LU R w f k g h/\LU R w f k g h % 2=0:=λg h hg hh=>by obtain⟨g1,g2⟩:=(oW hR hk).mp hg;obtain⟨k1,k2⟩:=(oW hR hk).mp hh;obtain⟨c1,c2⟩:=hc g h g1 k1;have st:=rA R w hk g h;rw[g2,k2]at st;simp only[bne_self_eq_false,aaw,aa3]at st;unfold LU;exact⟨xL,xL⟩
 unfold y9;rw[e,aa2 _ xp];generalize (W2 R k).foldl (λt g=>lY R w f k t g (W2 R k)) (2*w k)=r at *
 have hr:0<=r/\r % 2=0:=by
  rcases h3 with rfl|⟨g,hg,h,hh,_,rfl⟩
  . omega
  . exact hv g h hg hh
 have hp:2*(r / 2)=r:=by omega
 refine⟨xL,xL,LR hR hw hk hc (λg h hg hh eg eh hgh=>?_) ?_⟩
 . rw[hp];exact h2 g ((oW hR hk).mpr ⟨hg,eg⟩) h ((oW hR hk).mpr ⟨hh,eh⟩) hgh
 .
  rcases h3 with h3|⟨g,hg,h,hh,hgh,h3⟩
  . exact .inl xL
  . obtain⟨g1,g2⟩:=(oW hR hk).mp hg;obtain⟨k1,k2⟩:=(oW hR hk).mp hh;exact .inr ⟨g,h,g1,k1,g2,k2,hgh,by rw[hp];exact h3⟩
noncomputable def W3(R:aB)(w f:Nat->Int):Nat->Nat->Int
 |0=>f
 |k+1=>vi R w (W3 R w f k) k (y9 R w (W3 R w f k) k)
noncomputable def W4(R:aB)(w f:Nat->Int)(k:Nat):Int:=y9 R w (W3 R w f k) k
theorem Jc{R:aB}(hR:R.Ok){w f:Nat->Int}(hw:∀j,j<R.asks.length->0<=w j)(hc:y7 R w f 0):∀k,k<=R.asks.length->y7 R w (W3 R w f k) k
 |0,_=>hc
 |k+1,h=>(Jb hR hw xL (Jc hR hw hc k xL)).2.2
theorem za{R:aB}(hR:R.Ok){w f:Nat->Int}(hw:∀j,j<R.asks.length->0<=w j)(hc:y7 R w f 0){k:Nat}(hk:k<R.asks.length):0<=W4 R w f k/\W4 R w f k<=w k :=
 let h:=Jb hR hw hk (Jc hR hw hc k xL)
 ⟨h.1,h.2.1⟩
theorem RE{R:aB}(hR:R.Ok){w f:Nat->Int}(hw:∀j,j<R.asks.length->0<=w j)(hc:y7 R w f 0){t:Nat}(ht:t<R.n):0<=W3 R w f R.asks.length t:=by have:=(Jc hR hw hc _ (ZY _) t t ht ht).1;rw[RC]at this;omega
theorem Jd(R:aB)(w f:Nat->Int)(t:Nat):∀k,W3 R w f k t=f t-((List.range k).map λj=>if W0 R j t then W4 R w f j else w j-W4 R w f j).sum
 |0=>by simp[W3]
 | k+1=>by
  show W3 R w f k t-(if W0 R k t then y9 R w (W3 R w f k) k else w k-y9 R w (W3 R w f k) k)=_
  rw[Jd R w f t k,List.range_succ,aaW,List.sum_append]
  show _=f t-(_+([if W0 R k t then W4 R w f k else w k-W4 R w f k]).sum)
  rw[abO,List.sum_nil];unfold W4;omega
theorem Je{t b:Int}(h:b≠0):(Rat.divInt t b).den∣b.natAbs:=by rw[Rat.den_divInt,if_neg h];exact Nat.div_dvd_of_dvd (by rw[Int.gcd];exact Nat.gcd_dvd_left _ _)
theorem vj(p q:Rat):(p*q).den∣p.den*q.den:=by
 have e:p*q=Rat.divInt (p.num*q.num) ((p.den:Int)*q.den):=by rw[<- Rat.divInt_mul_divInt,aaL,aaL]
 rw[e];have:=Je (t:=p.num*q.num) (b:=(p.den:Int)*q.den) (abw (lU _) (lU _));rwa [aaV,Z4,Z4]at this
theorem LV(q:Rat):(q.num:Rat)=q*(q.den:Rat):=by
 have h:((q.den:Int):Rat)≠0:=λe=>lU q (by
  have:((q.den:Int):Rat)=((0:Int):Rat):=e
  exact Rat.intCast_inj.mp this)
 have e:q=(q.num:Rat) / ((q.den:Int):Rat):=by
  conv=>lhs;rw[<- aaL q,abN]
 have:=Rat.div_mul_cancel (a:=(q.num:Rat)) h;rw[<- e]at this;exact this.symm
noncomputable def W5(qs:List Rat):Nat:=qs.foldl (λb q=>Nat.lcm b q.den) 1
theorem De:∀(qs:List Rat)(b:Nat),b∣qs.foldl (λb q=>Nat.lcm b q.den) b/\(∀q∈qs,q.den∣qs.foldl (λb q=>Nat.lcm b q.den) b)/\∀P,b∣P->(∀q∈qs,q.den∣P)->qs.foldl (λb q=>Nat.lcm b q.den) b∣P
 |[],b=>⟨Nat.dvd_refl _,λq hq=>by simp at hq,λP h _=>h⟩
 | q::qs,b=>by
  obtain⟨h1,h2,h3⟩:=De qs (Nat.lcm b q.den);rw[aaU];refine⟨abQ (Nat.dvd_lcm_left _ _) h1,λp hp=>?_,λP hb hP=>h3 P (Nat.lcm_dvd hb (hP q k4)) λp hp=>hP p (fI _ hp)⟩;rcases ZU.mp hp with rfl|hp
  . exact abQ (Nat.dvd_lcm_right _ _) h1
  . exact h2 p hp
theorem Jf{qs:List Rat}{q:Rat}(h:q∈qs):q.den∣W5 qs:=(De qs 1).2.1 q h
theorem LW{qs:List Rat}{P:Nat}(h:∀q∈qs,q.den∣P):W5 qs∣P:=(De qs 1).2.2 P (abY _) h
noncomputable def nF(u:Nat)(q:Rat):Int:=q.num*((u / q.den:Nat):Int)
theorem qu{u:Nat}{q:Rat}(h:q.den∣u):((nF u q:Int):Rat)=q*(u:Rat):=by obtain⟨c,rfl⟩:=h;unfold nF;rw[Nat.mul_div_cancel_left _ (den_pos q),Rat.intCast_mul,LV,Rat.intCast_natCast,Rat.natCast_mul,Rat.mul_assoc]
theorem vk{B:Nat}{q:Rat}(h:q.den∣B):nF (2*B) q % 2=0:=by obtain⟨c,rfl⟩:=h;unfold nF;rw[show 2*(q.den*c)=q.den*(2*c) by rw[<- Nat.mul_assoc,<- Nat.mul_assoc,Nat.mul_comm 2],Nat.mul_div_cancel_left _ (den_pos q)];rw[show((2*c:Nat):Int)=2*(c:Int) by omega,<- Int.mul_assoc,Int.mul_comm q.num 2,Int.mul_assoc];exact Int.mul_emod_right _ _
theorem Df{u:Nat}{q:Rat}(h:0<=q):0<=nF u q:=Int.mul_nonneg (Rat.num_nonneg.mpr h) (Int.natCast_nonneg _)
noncomputable def nY(R:aB):List Rat:=R.asks.map (·.size)
noncomputable def xt(R:aB)(q:Rat):List Rat:=R.rooms.map λr=>q*r
noncomputable def W6(R:aB)(q:Rat):Nat:=W5 (nY R++xt R q)
noncomputable def a6(R:aB)(q:Rat):Nat:=2*W6 R q
noncomputable def wI(R:aB)(q:Rat)(j:Nat):Int:=nF (a6 R q) (aS R j).size
noncomputable def W7(R:aB)(q:Rat)(t:Nat):Int:=nF (a6 R q) (q*R.room t)
theorem Fj{R:aB}{j:Nat}(h:j<R.asks.length)(q:Rat):(aS R j).size.den∣W6 R q:=by refine Jf (aaj _ (ZW.mpr ⟨aS R j,?_,rfl⟩));rw[fL h];exact ZM h
theorem LX{R:aB}{t:Nat}(h:t<R.n):R.room t∈R.rooms:=by unfold aB.room;have h':t<R.rooms.length:=h;rw[tu,gV h'];exact ZM h'
theorem zb{R:aB}{t:Nat}(h:t<R.n)(q:Rat):(q*R.room t).den∣W6 R q :=
 Jf (aad _ (ZW.mpr ⟨R.room t,LX h,rfl⟩))
theorem Jg{a b:Nat}(h:a∣b):a∣2*b:=abQ h (Nat.dvd_mul_left _ _)
theorem Fk{R:aB}{q:Rat}{j:Nat}(h:j<R.asks.length):((wI R q j:Int):Rat)=(aS R j).size*(a6 R q:Rat):=qu (Jg (Fj h q))
theorem Jh{R:aB}{q:Rat}{t:Nat}(h:t<R.n):((W7 R q t:Int):Rat)=q*R.room t*(a6 R q:Rat):=qu (Jg (zb h q))
theorem qv{R:aB}(hR:R.Ok)(q:Rat):∀j,j<R.asks.length->0<=wI R q j:=λj h=>Df (km hR h).size
theorem zd:∀{qs:List Rat}{q:Rat},q∈qs->q.den∣Cr qs
 | p::qs,q,h=>by
  show q.den∣p.den*Cr qs;rcases ZU.mp h with rfl|h
  . exact Nat.dvd_mul_right _ _
  . exact abQ (zd h) (Nat.dvd_mul_left _ _)
theorem Ji:∀{qs:List Rat},(∀q∈qs,RB 60 q)->Cr qs<=2^(60*qs.length)
 |[],_=>ZY 1
 | q::qs,h=>by have h1:=(h q k4).2;have h2:=Ji λp hp=>h p (fI _ hp);show q.den*Cr qs<=2^(60*(qs.length+1));rw[Nat.mul_add,Nat.mul_one,abJ,Nat.mul_comm (2^_)];exact Nat.mul_le_mul (aa1 h1) h2
theorem Jj(R:aB)(q:Rat):0<W6 R q:=by have hd:W6 R q∣Cr (nY R++xt R q):=LW λp hp=>zd hp;exact Nat.pos_of_dvd_of_pos hd (uw _)
theorem gK{R:aB}(hR:R.Ok){q:Rat}(hq:RB 1750 q):0<a6 R q/\a6 R q<2^3750:=by
 obtain⟨D,d0,d1,hD⟩:=hR.cd
 have hd:W6 R q∣D*(q.den*Cr R.rooms):=by
  refine LW λp hp=>?_;rcases aap.mp hp with hp|hp
  . obtain⟨a,ha,rfl⟩:=ZW.mp hp;exact abQ (hD a ha) (Nat.dvd_mul_right _ _)
  . obtain⟨r,hr,rfl⟩:=ZW.mp hp;refine abQ (vj q r) (abQ (Nat.mul_dvd_mul_left _ (zd hr)) (Nat.dvd_mul_left _ _))
 have h1:D<=2^1240:=aa1 d1;have h2:Cr R.rooms<=2^720:=by refine ZR (Ji λp hp=>(hR.room p hp).2) (ZN xp ?_);have:R.rooms.length<=12:=hR.hi;omega
 have h3:q.den<=2^1750:=aa1 hq.2;have h4:W6 R q<=D*(q.den*Cr R.rooms):=aaY (Nat.mul_pos d0 (Nat.mul_pos (den_pos _) (uw _))) hd;have h5:D*(q.den*Cr R.rooms)<=2^1240*(2^1750*2^720):=Nat.mul_le_mul h1 (Nat.mul_le_mul h3 h2);have h6:2^1240*(2^1750*2^720)=2^3710:=by rw[<- abJ,<- abJ]
 rw[h6]at h5;have h0:=Jj R q;have h7:(2:Nat)^3711=2*2^3710:=by rw[Nat.pow_succ,Nat.mul_comm]
 have h8:(2:Nat)^3711<2^3750:=Nat.pow_lt_pow_right xp xp;unfold a6;refine⟨xL,?_⟩;generalize (2:Nat)^3750=z at *;generalize (2:Nat)^3710=y at *;generalize (2:Nat)^3711=x at *;omega
theorem nh(R:aB):R.asks=(List.range R.asks.length).map (aS R):=by refine aa9 x_ λj h1 h2=>?_;rw[abR,List.getElem_range,fL h1]
theorem vm{α:Type}(p:α->Bool)(f:α->Rat):∀xs:List α,lL ((xs.filter p).map f)=lL (xs.map λa=>if p a then f a else 0)
 |[]=>rfl
 | x::xs=>by
  rw[aao,aae,bo,<- vm p f xs];cases p x
  . simp[Rat.zero_add]
  . simp[bo]
theorem Bm(R:aB)(c:Nat×Nat):bH R.asks c=lL ((List.range R.asks.length).map λj=>if apart c (aS R j).one (aS R j).other then(aS R j).size else 0):=by
 unfold bH;rw[vm]
 conv=>lhs;rw[nh R,aag]
 rfl
theorem ze(F:Nat->Int)(G:Nat->Rat)(u:Rat):∀xs:List Nat,(∀j∈xs,((F j:Int):Rat)=G j*u)->(((xs.map F).sum:Int):Rat)=lL (xs.map G)*u
 | [],_=>by show((0:Int):Rat)=0*u;rw[Rat.zero_mul];rfl
 | x::xs,h=>by rw[aae,abO,Rat.intCast_add,h x k4,ze F G u xs λj hj=>h j (fI _ hj),aae,bo,Rat.add_mul]
theorem O8{R:aB}(hR:R.Ok){q:Rat}{g h:Nat}(hc:bN R.n (g,h)):((dI R (wI R q) 0 g h:Int):Rat)=bH R.asks (g,h)*(a6 R q:Rat):=by
 rw[Bm];unfold dI;rw[Nat.sub_zero];refine ze _ _ _ _ λj hj=>?_;have hj:=ZT.mp hj;rw[Nat.zero_add,vg (km hR hj) hc]
 show(((if W0 R j g != W0 R j h then wI R q j else 0:Int)):Rat)=(if W0 R j g != W0 R j h then(aS R j).size else 0)*_
 cases(W0 R j g != W0 R j h)
 . simp only[aaw,aa3];rw[Rat.zero_mul];rfl
 . simp only[aaX];exact Fk hj
theorem Fm(F:Nat->Int):∀xs:List Nat,(∀j∈xs,F j % 2=0)->(xs.map F).sum % 2=0
 |[],_=>rfl
 | x::xs,h=>by have h1:=h x k4;have h2:=Fm F xs λj hj=>h j (fI _ hj);rw[aae,abO];omega
theorem uB{R:aB}(hR:R.Ok){q:Rat}(hq:RB 1750 q)(hs:∀c,bN R.n c->ba R c<=q):y7 R (wI R q) (W7 R q) 0:=by
 have u0:0<a6 R q:=(gK hR hq).1;have uQ:(0:Rat)<(a6 R q:Rat):=abi.mpr u0
 have main:∀g h,g<R.n->h<R.n->g<=h->dI R (wI R q) 0 g h<=W7 R q g+W7 R q h:=by
  intro g h hg hh hgh;have hc:bN R.n (g,h):=⟨hgh,hh⟩;refine Rat.intCast_le_intCast.mp ?_;rw[O8 hR hc,Rat.intCast_add,Jh hg,Jh hh];have h1:=hs (g,h) hc;unfold ba at h1;rw[ki (dP hR hc).1]at h1;have h2:=Rat.mul_le_mul_of_nonneg_right h1 (aby uQ);have e:q*gZ R (g,h)*(a6 R q:Rat)=q*R.room g*(a6 R q:Rat)+q*R.room h*(a6 R q:Rat):=by show q*(R.room g+R.room h)*_=_;rw[Rat.mul_add,Rat.add_mul]
  rw[<- e];exact h2
 have ev:∀g h,g<R.n->h<R.n->(W7 R q g+W7 R q h-dI R (wI R q) 0 g h) % 2=0:=by
  intro g h hg hh;have e1:W7 R q g % 2=0:=vk (zb hg q);have e2:W7 R q h % 2=0:=vk (zb hh q)
  have e3:dI R (wI R q) 0 g h % 2=0:=by
   unfold dI;refine Fm _ _ λj hj=>?_;have hj:j<R.asks.length:=by have:=ZT.mp hj;omega
   rw[Nat.zero_add];split
   . exact vk (Fj hj q)
   . rfl
  omega
 intro g h hg hh;refine⟨?_,ev g h hg hh⟩;by_cases hgh:g<=h
 . exact main g h hg hh hgh
 . have:=main h g hh hg xL;rw[rq]at this;omega
noncomputable def pI(R:aB)(q:Rat)(k:Nat):Int:=W4 R (wI R q) (W7 R q) k
noncomputable def vn(R:aB)(q:Rat)(k:Nat):Rat:=Rat.divInt (pI R q k) (a6 R q:Int)
noncomputable def bY(R:aB)(q:Rat):List Rat:=(List.range R.asks.length).map (vn R q)
theorem gb{R:aB}(hR:R.Ok){q:Rat}(hq:RB 1750 q)(k:Nat):vn R q k*(a6 R q:Rat)=((pI R q k:Int):Rat):=by have u0:0<a6 R q:=(gK hR hq).1;have uQ:(0:Rat)<(a6 R q:Rat):=abi.mpr u0;unfold vn;rw[abN,Rat.intCast_natCast];exact Rat.div_mul_cancel (by grind)
theorem Jk{R:aB}(hR:R.Ok){q:Rat}(hq:RB 1750 q)(hs:∀c,bN R.n c->ba R c<=q){k:Nat}(hk:k<R.asks.length):0<=vn R q k/\vn R q k<=(aS R k).size:=by
 have u0:0<a6 R q:=(gK hR hq).1;have uQ:(0:Rat)<(a6 R q:Rat):=abi.mpr u0;obtain⟨h1,h2⟩:=za hR (qv hR q) (uB hR hq hs) hk;constructor
 . refine Rat.le_of_mul_le_mul_right (c:=(a6 R q:Rat)) ?_ uQ;rw[Rat.zero_mul,gb hR hq];exact Rat.intCast_nonneg.mpr h1
 . refine Rat.le_of_mul_le_mul_right (c:=(a6 R q:Rat)) ?_ uQ;rw[gb hR hq,<- Fk hk];exact Rat.intCast_le_intCast.mpr h2
theorem u9{α β:Type}(f:Nat->α)(g:Nat->β)(m:Nat):((List.range m).map f).zip ((List.range m).map g)=(List.range m).map λk=>(f k,g k):=by rw[List.zip_map']
theorem Jl{R:aB}(hR:R.Ok){q:Rat}(hq:RB 1750 q)(hs:∀c,bN R.n c->ba R c<=q){t:Nat}(ht:t<R.n):cm R.n R.asks (bY R q) t<=q*R.room t:=by
 have u0:0<a6 R q:=(gK hR hq).1;have uQ:(0:Rat)<(a6 R q:Rat):=abi.mpr u0;have he:=RE hR (qv hR q) (uB hR hq hs) ht;rw[Jd]at he;refine Rat.le_of_mul_le_mul_right (c:=(a6 R q:Rat)) ?_ uQ;rw[<- Jh ht]
 have e:cm R.n R.asks (bY R q) t=lL ((List.range R.asks.length).map λk=>qt R.n (aS R k) (vn R q k) t):=by
  unfold cm bY
  conv=>lhs;rw[nh R]
  rw[ZL,aac,u9,aag];rfl
 rw[e,<- ze (λj=>if W0 R j t then pI R q j else wI R q j-pI R q j) _ _ _ λj hj=>?_]
 .
  refine Rat.intCast_le_intCast.mpr ?_
  have:((List.range R.asks.length).map λj=>if W0 R j t then pI R q j else wI R q j-pI R q j).sum<=W7 R q t:=by unfold pI;omega
  exact this
 .
  have hj:=ZT.mp hj;unfold qt
  show((if W0 R j t then pI R q j else wI R q j-pI R q j:Int):Rat)=(if W0 R j t then vn R q j else(aS R j).size-vn R q j)*_
  cases W0 R j t
  . simp only[aaw,aa3];rw[Rat.intCast_sub,Fk hj,<- gb hR hq];grind
  . simp only[aaX];exact(gb hR hq j).symm
noncomputable def vo(n:Nat)(f:Nat->Int):List D:=(List.range n).map λ(t:Nat)=>D.int (f t)
theorem zg{n:Nat}{f:Nat->Int}{t:Nat}(h:t<n):VT (vo n f) (t:Int)=some (.int (f t)):=by refine j4 ?_;unfold vo;rw[ZZ,aau h];rfl
theorem O9{a b:Nat}(h:0<b):((a:Int).fdiv (Int.gcd a b:Int))*(b:Int)=((Nat.lcm a b:Nat):Int):=by rw[aa2 _ xL];show((a:Int) / ((Nat.gcd a b:Nat):Int))*(b:Int)=_;rw[<- Int.natCast_ediv,<- Int.natCast_mul,Nat.div_mul_right_comm (Nat.gcd_dvd_left a b)];rfl
theorem RF(R:aB)(q:Rat):(nY R).map (λp=>D.int (nF (a6 R q) p))=vo R.asks.length (wI R q):=by
 unfold nY vo
 conv=>lhs;rw[nh R,aag,aag]
 rfl
theorem Dg(R:aB):R.rooms=(List.range R.n).map R.room:=by refine aa9 (by simp[aB.n]) λj h1 h2=>?_;rw[abR,List.getElem_range];unfold aB.room;rw[tu,gV h1];rfl
theorem RG(R:aB)(q:Rat):(xt R q).map (λp=>D.int (nF (a6 R q) p))=vo R.n (W7 R q):=by
 unfold xt vo
 conv=>lhs;rw[Dg R,aag,aag]
 rfl
theorem kq(p:Nat->Bool)(g:Nat->Int):∀xs:List Nat,xs.filterMap (λi=>if p i=true then some (D.int (g i))else none)=((xs.filter p).map g).map D.int
 |[]=>rfl
 | x::xs=>by
  rw[aaE,aao];cases e:p x
  . simp[kq p g xs]
  . simp[kq p g xs]
theorem vp(p:Nat->Bool)(g:Nat->Int):∀xs:List Nat,((xs.filter p).map g).sum=(xs.map λi=>if p i=true then g i else 0).sum
 |[]=>rfl
 | x::xs=>by
  rw[aao,aae,abO,<- vp p g xs];cases e:p x
  . simp
  . simp
theorem gL(R:aB)(q:Rat):(bY R q).length=R.asks.length:=by unfold bY;simp
noncomputable def Gn(f:Nat->Rat)(ts:List Nat):Rat:=ts.foldl (λb t=>if b<f t then f t else b) 0
theorem LY(f:Nat->Rat)(ts:List Nat)(t:Nat):Gn f (ts++[t])=if Gn f ts<f t then f t else Gn f ts:=by unfold Gn;rw[abm];rfl
theorem lZ(f:Nat->Rat):∀(ts:List Nat)(acc r:Rat),ts.foldl (λb t=>if b<f t then f t else b) acc=r->acc<=r/\(∀t∈ts,f t<=r)/\(r=acc∨∃t∈ts,r=f t)
 | [],acc,r,e=>by rw[List.foldl_nil]at e;subst e;exact⟨abj,λt ht=>by simp at ht,.inl rfl⟩
 | t::ts,acc,r,e=>by
  rw[aaU]at e;obtain⟨h1,h2,h3⟩:=lZ f ts _ r e;by_cases hl:acc<f t
  .
   rw[if_pos hl]at h1 h3;refine⟨by grind,λs hs=>?_,?_⟩
   .
    rcases ZU.mp hs with rfl|hs
    . exact h1
    . exact h2 s hs
   .
    rcases h3 with h3|⟨s,hs,h3⟩
    . exact .inr ⟨t,k4,h3⟩
    . exact .inr ⟨s,fI _ hs,h3⟩
  .
   rw[if_neg hl]at h1 h3;refine⟨h1,λs hs=>?_,?_⟩
   .
    rcases ZU.mp hs with rfl|hs
    . grind
    . exact h2 s hs
   .
    rcases h3 with h3|⟨s,hs,h3⟩
    . exact .inl h3
    . exact .inr ⟨s,fI _ hs,h3⟩
noncomputable def Qg(R:aB)(ps:List Rat):Rat:=Gn (aO R ps) (List.range R.n)
theorem RH{R:aB}(hR:R.Ok){q:Rat}(hq:RB 1750 q)(hs:∀c,bN R.n c->ba R c<=q)(h0:0<=q):Qg R (bY R q)<=q:=by
 obtain⟨_,_,h3⟩:=lZ (aO R (bY R q)) (List.range R.n) 0 _ rfl;show Gn _ _<=q;unfold Gn;rcases h3 with h3|⟨t,ht,h3⟩
 . rw[h3];exact h0
 . rw[h3];have ht:=ZT.mp ht;unfold aO;exact(ki (dY hR ht).1).mpr (Jl hR hq hs ht)
theorem Nk{R:aB}(hR:R.Ok){b:Nat}(hp:ve R (bY R (bB R).1) b):Qg R (bY R (bB R).1)=(bB R).1:=by obtain⟨g1,g2,g3,g4⟩:=kf hR;have hlo:=hR.lo;have h1:=RH hR ((kg hR).mono xp) g3 g4;obtain⟨_,h2,_⟩:=lZ (aO R (bY R (bB R).1)) (List.range R.n) 0 _ rfl;have h3:=IW hR hp g1;have h4:=h2 _ (ZT.mpr (y4 (n:=R.n) xL (aO R (bY R (bB R).1))).1);rw[<- g2]at h3;have h5:(bB R).1<=Qg R (bY R (bB R).1):=abq h3 h4;exact Rat.le_antisymm h1 h5
end My
set_option exponentiation.threshold 2000
namespace L2
open PySem
noncomputable def lP(w:Bool):D:=.str (jh w)
end L2
set_option exponentiation.threshold 5000
namespace My
open PySem L2
structure LB (R:aB) (ps:List Rat):Prop where
 p:∀p∈ps,RB 4100 p
 ld:∀k t,RB 4100 (cm R.n (R.asks.take k) (ps.take k) t)
 st:∀(k:Nat)(h1:k<R.asks.length)(h2:k<ps.length)(t:Nat),RB 4100 (qt R.n R.asks[k] ps[k] t)
 sm:∀t,RA ((R.asks.zip ps).map λx=>qt R.n x.1 x.2 t)
theorem LB.all{R:aB}{ps:List Rat}(h:LB R ps)(hl:ps.length=R.asks.length)(t:Nat):RB 4100 (cm R.n R.asks ps t):=by have:=h.ld R.asks.length t;rwa [aas (ZY _),aas xL]at this
theorem LB.of{R:aB}(hR:R.Ok)(hT:∀a∈R.asks,RB 60 a.size){ps:List Rat}{c:Nat}(hb:∀p∈ps,RB c p)(hc:c<=100):LB R ps:=by
 refine⟨λp hp=>(hb p hp).mono xL,λk t=>?_,λk h1 h2 t=>?_,λt=>.inl ?_⟩
 . exact(LM (EW hT) (EW hb) (by rw[abS];have:=hR.few;omega) t).mono xL
 . exact(Da (hT _ (ZM h1)) (hb _ (ZM h2)) t).mono xL
 .
  refine ZS (IQ (b:=161) _ λq hq=>?_) (Nat.pow_lt_pow_right xp ?_)
  . obtain⟨x,hx,rfl⟩:=ZW.mp hq;obtain⟨h1,h2⟩:=abW (a:=x.1) (b:=x.2) hx;exact(Da (hT _ h1) (hb _ h2) t).mono xL
  . rw[ZL,aaH];have:=hR.few;omega
theorem zh{q:Rat}{N:Nat}{z:Int}(h0:0<N)(hN:N<2^3750)(e:q*(N:Rat)=(z:Rat))(hz:z.natAbs<2^4090):RB 4100 q:=by
 have hQ:(N:Rat)≠0:=λw=>by have:=abi.mpr h0;rw[w]at this;exact absurd this xp
 have e2:q=Rat.divInt z (N:Int):=by rw[abN];have:((N:Int):Rat)=(N:Rat):=rfl;rw[this,<- e,Rat.mul_div_cancel hQ]
 rw[e2];refine RB.of_divInt xL (k5 hz (ZN xp xp)) ?_;rw[Z4];exact k5 hN (ZN xp xp)
theorem Pa{R:aB}(hR:R.Ok){q:Rat}(hq:RB 1750 q){j:Nat}(h:j<R.asks.length):(wI R q j).natAbs<2^4050:=by
 have h1:=(gK hR hq).2;have h2:=Bb (V:=2^300) (km hR h).size (km hR h).lt;unfold wI nF;rw[aaV,Z4];have h3:(aS R j).size.den*(a6 R q / (aS R j).size.den)<=a6 R q:=Nat.mul_div_le _ _;have e:(2:Nat)^4050=2^300*2^3750:=by rw[<- abJ]
 have h4:(aS R j).size.num.natAbs*(a6 R q / (aS R j).size.den)<=2^300*a6 R q:=by refine ZR (Nat.mul_le_mul_right _ (aa1 h2)) ?_;rw[Nat.mul_assoc];exact Nat.mul_le_mul_left _ h3
 rw[e];exact ZS h4 (Nat.mul_lt_mul_of_pos_left h1 (Nat.pow_pos xp))
theorem zi{R:aB}{q:Rat}{k:Nat}(h:k<(bY R q).length):(bY R q)[k]=vn R q k:=by simp[bY]
noncomputable def zI(R:aB)(q:Rat)(t j:Nat):Int:=if sS R.n (aS R j) t then pI R q j else wI R q j-pI R q j
theorem Jm{R:aB}(hR:R.Ok){q:Rat}(hq:RB 1750 q)(t:Nat){j:Nat}(h:j<R.asks.length):((zI R q t j:Int):Rat)=qt R.n (aS R j) (vn R q j) t*(a6 R q:Rat):=by
 unfold zI qt;split
 . exact(gb hR hq j).symm
 . have e1:=gb hR hq j;have e2:=Fk (R:=R) (q:=q) h;rw[Rat.intCast_sub,e2,<- e1];grind
theorem acm{R:aB}(hR:R.Ok){q:Rat}(hq:RB 1750 q)(hs:∀c,bN R.n c->ba R c<=q)(t:Nat){j:Nat}(h:j<R.asks.length):0<=zI R q t j/\zI R q t j<2^4050:=by
 have hw:=Pa hR hq h;have w0:=qv hR q j h;obtain⟨p0,p1⟩:=za hR (qv hR q) (uB hR hq hs) h;have e:((2^4050:Nat):Int)=2^4050:=by norm_cast
 have hw':wI R q j<2^4050:=by rw[<- e];omega
 have p0':0<=pI R q j:=p0;have p1':pI R q j<=wI R q j:=p1;generalize (2:Int)^4050=B at hw';unfold zI;split<;>omega
theorem aco{R:aB}(hR:R.Ok){q:Rat}(hq:RB 1750 q)(hs:∀c,bN R.n c->ba R c<=q)(t:Nat):∀k,k<=R.asks.length->∃z:Int,cm R.n (R.asks.take k) ((bY R q).take k) t*(a6 R q:Rat)=(z:Rat)/\0<=z/\z<=(k:Int)*2^4050
 | 0,_=>⟨0,by
   show lL []*_=_;rw[qr,Rat.zero_mul]
   rfl,xL,x_⟩
 | k+1,h=>by
  obtain⟨z,e,z0,z1⟩:=aco hR hq hs t k xL;have hk:k<R.asks.length:=by omega
  have hk2:k<(bY R q).length:=by rw[gL];exact hk
  obtain⟨y0,y1⟩:=acm hR hq hs t hk;refine⟨z+zI R q t k,?_,xL,?_⟩
  . rw[ym hk hk2,Rat.add_mul,e,Rat.intCast_add,Jm hR hq t hk,zi,fL hk]
  .
   generalize (2:Int)^4050=B at *;have:((k+1:Nat):Int)*B=(k:Int)*B+B:=by push_cast;rw[Int.add_mul,Int.one_mul]
   rw[this];omega
theorem LB.send{R:aB}(hR:R.Ok){q:Rat}(hq:RB 1750 q)(hs:∀c,bN R.n c->ba R c<=q):LB R (bY R q):=by
 obtain⟨u0,u1⟩:=gK hR hq;have few:=hR.few
 have big:∀z:Int,0<=z->z<=20*2^4050->z.natAbs<2^4090:=λz z0 z1=>by
  have e1:(2:Nat)^4090=2^40*2^4050:=by rw[<- abJ]
  have e2:((2^4050:Nat):Int)=2^4050:=by norm_cast
  have hp:0<2^4050:=Nat.pow_pos xp;rw[<- e2]at z1;rw[e1];generalize 2^4050=B at *;have:(2:Nat)^40=1099511627776:=by decide
  rw[this];omega
 refine⟨λp hp=>?_,λk t=>?_,λk h1 h2 t=>?_,λt=>.inr ⟨a6 R q,u0,k5 u1 (ZN xp xp),λp hp=>?_⟩⟩
 .
  obtain⟨j,hj,rfl⟩:=ZW.mp hp;have hj:=ZT.mp hj;obtain⟨p0,p1⟩:=za hR (qv hR q) (uB hR hq hs) hj;have hw:=Pa hR hq hj;refine zh u0 u1 (gb hR hq j) ?_;have p0':0<=pI R q j:=p0;have p1':pI R q j<=wI R q j:=p1;have:(pI R q j).natAbs<=(wI R q j).natAbs:=by omega
  exact ZS this (k5 hw (ZN xp xp))
 .
  by_cases hk:k<=R.asks.length
  .
   obtain⟨z,e,z0,z1⟩:=aco hR hq hs t k hk;refine zh u0 u1 e (big z z0 ?_)
   have:(0:Int)<=2^4050:=by
    have e2:((2^4050:Nat):Int)=2^4050:=by norm_cast
    rw[<- e2];omega
   generalize (2:Int)^4050=B at *;have h2:(k:Int)*B<=20*B:=Int.mul_le_mul_of_nonneg_right xL this;omega
  .
   obtain⟨z,e,z0,z1⟩:=aco hR hq hs t R.asks.length (ZY _);rw[aas xL,aas (by rw[gL];omega)];rw[aas (ZY _),aas (by rw[gL];omega)]at e;refine zh u0 u1 e (big z z0 ?_)
   have:(0:Int)<=2^4050:=by
    have e2:((2^4050:Nat):Int)=2^4050:=by norm_cast
    rw[<- e2];omega
   generalize (2:Int)^4050=B at *;have h2:(R.asks.length:Int)*B<=20*B:=Int.mul_le_mul_of_nonneg_right xL this;omega
 .
  obtain⟨y0,y1⟩:=acm hR hq hs t h1;have e:=(Jm hR hq t h1).symm;rw[zi,<- fL h1];refine zh u0 u1 e (big _ y0 ?_)
  have:(0:Int)<=2^4050:=by
   have e2:((2^4050:Nat):Int)=2^4050:=by norm_cast
   rw[<- e2];omega
  generalize (2:Int)^4050=B at *;omega
 .
  obtain⟨x,hx,rfl⟩:=ZW.mp hp;obtain⟨j,hj,e⟩:=List.mem_iff_getElem.mp hx;have hj':j<R.asks.length:=by rw[aaH]at hj;omega
  have hj2:j<(bY R q).length:=by rw[gL];exact hj'
  rw[abp]at e;rw[<- e];show(qt R.n R.asks[j] (bY R q)[j] t).den∣_;rw[zi,<- fL hj'];exact rn u0 (Jm hR hq t hj').symm
theorem yq{R:aB}(hR:R.Ok){q:Rat}(hq:RB 1750 q)(hs:∀c,bN R.n c->ba R c<=q):ve R (bY R q) 4100:=by refine⟨gL R q,λx hx=>?_,(LB.send hR hq hs).p⟩;unfold bY at hx;rw[nh R]at hx;rw[ZL,aac,u9]at hx;obtain⟨k,hk,rfl⟩:=ZW.mp hx;exact Jk hR hq hs (ZT.mp hk)
theorem Jn{R:aB}(hR:R.Ok){q:Rat}(hq:RB 1750 q)(hs:∀c,bN R.n c->ba R c<=q):∀k,k<(bY R q).length->0<=(bY R q).getD k 0/\(bY R q).getD k 0<=R.sz k:=λk hk=>by
 have hk':k<R.asks.length:=by rw[gL]at hk;exact hk
 rw[kj hk,zi,Bl hk',<- fL hk'];exact Jk hR hq hs hk'
noncomputable def kr:D->Bool
 |.tup [.int i,.int j]=>decide (1<=j) && decide ((Int.gcd i j:Int)=1)
 |_=>false
theorem zj{d:D}(h:∀i j,d≠.tup [.int i,.int j]):kr d=false:=by
 unfold kr;split
 . rename_i i j;exact absurd rfl (h i j)
 . rfl
theorem Pb{i j:Int}(hj:0<j):((Rat.divInt i j).num=i/\((Rat.divInt i j).den:Int)=j)↔(Int.gcd i j:Int)=1:=by
 have hn:=Rat.num_divInt i j;have hd:=Rat.den_divInt i j;constructor
 .
  rintro⟨h1,h2⟩;have hc:=(Rat.divInt i j).reduced;unfold Nat.Coprime at hc;rw[h1]at hc;have:(Rat.divInt i j).den=j.natAbs:=by omega
  rw[this]at hc;show((Nat.gcd i.natAbs j.natAbs:Nat):Int)=1;rw[hc];rfl
 .
  intro h;have h1:Int.gcd i j=1:=by omega
  have e:Rat.divInt i j=(⟨i,j.natAbs,xL,by unfold Nat.Coprime;exact h1⟩:Rat):=by
   rw[Rat.mk_eq_divInt]
   congr 1
   omega
  rw[e];exact⟨rfl,by show((j.natAbs:Nat):Int)=j;omega⟩
theorem Pc(ys:List D):Wp (.lst ys) (.lst [])=ys.isEmpty:=by rw[Ou];cases ys<;>rfl
theorem RI{n o r:Nat}(h1:o<n)(h2:r+1<n):(o+1+r) % n<n/\o≠(o+1+r) % n:=by
 refine⟨abC _ xL,?_⟩;by_cases h:o+1+r<n
 . rw[Nat.mod_eq_of_lt h];omega
 . rw[Nat.mod_eq_sub_mod xL,Nat.mod_eq_of_lt xL];omega
theorem LZ(a b:Nat):((a:Int)).fmod (b:Int)=((a % b:Nat):Int):=by rw[aaQ _ xL];exact(Int.natCast_emod a b).symm
structure Ur (R0:aB) (q:Rat) (D i:Nat) (S:aB):Prop where
 rms:S.rooms=R0.rooms
 len:S.asks.length<=4+i
 ask:∀a∈S.asks,ke S.n a
 den:∀a∈S.asks,a.size.den∣D
 low:∀c,bN S.n c->ba S c<=q
 hit:1<=i->∃c,bN S.n c/\ba S c=q
theorem Ur.ok{R0 S:aB}{q:Rat}{D i:Nat}(h:Ur R0 q D i S)(h0:R0.Ok)(d0:0<D)(d1:D<2^1240)(hi:i<=8):S.Ok:=by
 have e:S.n=R0.n:=by show S.rooms.length=R0.rooms.length;rw[h.rms]
 refine⟨by rw[e];exact h0.lo,by rw[e];exact h0.hi,by have:=h.len;omega,by rw[h.rms];exact h0.room,h.ask,D,d0,d1,h.den⟩
theorem Fn{R:aB}(hR:R.Ok){b:Nat}(hp:ve R (bY R (bB R).1) b):aO R (bY R (bB R).1) (Cs R.n (aO R (bY R (bB R).1)))=(bB R).1:=by obtain⟨g1,g2,g3,g4⟩:=kf hR;have lo:=hR.lo;obtain⟨_,h2,_⟩:=lZ (aO R (bY R (bB R).1)) (List.range R.n) 0 _ rfl;have h3:=IW hR hp g1;have h4:=h2 _ (ZT.mpr (y4 (n:=R.n) xL (aO R (bY R (bB R).1))).1);rw[<- g2]at h3;have h5:=Nk hR hp;have h4:aO R (bY R (bB R).1) (Cs R.n (aO R (bY R (bB R).1)))<=Qg R (bY R (bB R).1):=h4;rw[h5]at h4;exact Rat.le_antisymm h4 h3
theorem yr{R:aB}(hR:R.Ok){q:Rat}(hq:RB 1750 q)(hs:∀c,bN R.n c->ba R c<=q):eK (bX R (bY R q)) (bY R q).length=none:=by refine jK.mpr λk hk=>?_;obtain⟨h1,h2⟩:=Jn hR hq hs k hk;unfold bX;rw[ZP (abo.mpr h1),ZP (abo.mpr h2)];rfl
mutual
noncomputable def Jo:D->Nat
 |.tup xs=>max xs.length (Dh xs)
 |.lst xs=>max xs.length (Dh xs)
 |_=>0
noncomputable def Dh:List D->Nat
 |[]=>0
 |x::xs=>max (Jo x) (Dh xs)
end
theorem Fo{n:Nat}:∀{xs:List D},(∀x∈xs,Jo x<=n)->Dh xs<=n
 |[],_=>aaN _
 | y::ys,h=>by simp only[Dh];have:=h y k4;have:=Fo (xs:=ys) λx hx=>h x (fI _ hx);omega
theorem Nl{n:Nat}(h:n<=99):n<=sizeLine:=ZR h xp
theorem Pd(q:Rat):Jo (Wz q)=2:=by simp[Wz,Jo,Dh]
theorem Ma(a:WW):Jo (lV a)=4:=by have:=Pd a.size;simp[lV,Jo,Dh,this]
theorem Jp{as:List WW}{n:Nat}(h:as.length<=n)(h2:4<=n):Jo (.lst (as.map lV))<=n:=by
 simp only[Jo,ZL];have:=Fo (n:=4) (xs:=as.map lV) λx hx=>by obtain⟨q,_,rfl⟩:=ZW.mp hx;rw[Ma];exact ZY _
 omega
structure W8 (n:Nat) (d:D):Prop where
 dep:Gf d<n
 wid:Jo d<=99
theorem Pe(q:Rat):Gf (Wz q)=1:=by simp[Wz,Gf,CV]
theorem Mb(a:WW):Gf (lV a)=2:=by have:=Pe a.size;simp[lV,Gf,CV,this]
theorem Mc{xs:List D}{n:Nat}(h:∀x∈xs,Gf x<=n):Gf (.lst xs)<=n+1:=by simp only[Gf];have:=EG h;omega
theorem Jq(as:List WW):Gf (.lst (as.map lV))<=3:=Mc λx hx=>by obtain⟨q,_,rfl⟩:=ZW.mp hx;rw[Mb];exact ZY _
theorem W8.asks{as:List WW}(h:as.length<=99):W8 4 (.lst (as.map lV)):=⟨by have:=Jq as;omega,Jp h xp⟩
end My
set_option exponentiation.threshold 5000
namespace My
open PySem L2
structure U2 where
 top:Rat
 strict:Bool
 elder:List (Option Bool)
 most:Nat
noncomputable def RJ(x:Option Bool×Option Bool):Bool:=match x.1 with
 |none=>false
 |some a=>x.2 == some (!a)
noncomputable def SY(el ws:List (Option Bool)):List Nat:=((el.zip ws).zipIdx.filter λx=>RJ x.1).map (·.2)
noncomputable def SZ(st:Bool)(load bound:Int):Bool:=decide (bound<load) ||(st && decide (load=bound))
end My
set_option exponentiation.threshold 5000
namespace My
open PySem L2
noncomputable def Us:Nat->(Nat->Int)->Int
 |0,_=>0
 |n+1,f=>Us n f+f n
inductive Tr where
 |turned
 |cut (c:Nat×Nat)
 |split (k:Nat) (a b:Tr)
noncomputable def W9(R:aB)(fixed:List (Option Bool))(c:Nat×Nat)(i:Nat):Int:=match fixed.getD i none with
 |none=>if apart c (aS R i).one (aS R i).other then 1 else 0
 |some b=>(if W0 R i c.1 == b then 1 else 0)+if W0 R i c.2 == b then 1 else 0
noncomputable def Ta(R:aB)(q:Rat)(fixed:List (Option Bool))(c:Nat×Nat):Int:=Us R.asks.length λi=>wI R q i*W9 R fixed c i
def Tr.Ok(R:aB)(w:U2):List (Option Bool)->Tr->Prop
 |fixed,.turned=>w.most<(SY w.elder fixed).length
 |fixed,.cut c=>bN R.n c/\SZ w.strict (Ta R w.top fixed c) (W7 R w.top c.1+W7 R w.top c.2)=true
 |fixed,.split k a b=>k<fixed.length/\fixed.getD k none=none/\Tr.Ok R w (fixed.set k (some true)) a/\Tr.Ok R w (fixed.set k (some false)) b
end My
set_option exponentiation.threshold 5000
namespace My
open PySem L2
noncomputable def Tr.size:Tr->Nat
 |.turned=>1
 |.cut _=>1
 |.split _ a b=>a.size+b.size+1
theorem Fb{n:Nat}(h:n<=12):(lW n).length<=144:=by
 unfold lW;rw[List.length_flatMap]
 have:∀(l:List Nat),(l.map λg=>((List.range (n-g)).map λi=>(g,g+i)).length).sum<=l.length*12:=by
  intro l
  induction l with
  |nil=>simp
  | cons a l ih =>
   rw[aae,abO,aa8,Nat.succ_mul];simp only[ZL,aac]at ih ⊢;omega
 have h1:=this (List.range n);rw[aac]at h1;omega
end My
set_option exponentiation.threshold 5000
namespace My
open PySem L2
end My
set_option exponentiation.threshold 5000
namespace My
open PySem L2
theorem Fp{h:WW->D}{caps:Ev}{te:W L}{k:List D->Ev->Prop}:∀(as:List WW)(acc:List D)(l1 l2 l3 l4:L),
  (∀a∈as,∀Q:Ev->D->Prop,Q (.d (.str a.nm)::.d (.int (a.one:Int))::.d (.int (a.other:Int))::.d (Wz a.size)::caps) (h a)->te (.d (.str a.nm)::.d (.int (a.one:Int))::.d (.int (a.other:Int))::.d (Wz a.size)::caps) λr Z3=>Wc r λy=>Q Z3 y) ->
  (∀l1 l2 l3 l4,k (acc++as.map h) (l1::l2::l3::l4::caps))->de (eF [0,1,2,3]) dO te (as.map lV) (l1::l2::l3::l4::caps) acc k
 |[],acc,l1,l2,l3,l4,_,Vx=>by have:=Vx l1 l2 l3 l4;simpa[de]using this
 | a::as,acc,l1,l2,l3,l4,step,Vx=>by show de (eF [0,1,2,3]) dO te (lV a::as.map lV) (l1::l2::l3::l4::caps) acc k;unfold de;show te (.d (.str a.nm)::.d (.int (a.one:Int))::.d (.int (a.other:Int))::.d (Wz a.size)::caps) _;refine step a k4 (λZ y=>de (eF [0,1,2,3]) dO te (as.map lV) Z (acc++[y]) k) ?_;exact Fp as (acc++[h a]) _ _ _ _ (λb hb=>step b (fI _ hb)) (by simpa using Vx)
end My
set_option exponentiation.threshold 5000
namespace My
open PySem L2
noncomputable def GV(n:Nat):D->Bool
 |.tup [.int i,.int j]=>decide (0<=i/\i<=j/\j<(n:Int))
 |_=>false
theorem Pf{n:Nat}{d:D}(h:∀i j,d≠.tup [.int i,.int j]):GV n d=false:=by
 unfold GV;split
 . exact absurd rfl (h _ _)
 . rfl
theorem Pg{n:Nat}{d:D}(h:GV n d=true):∃c:Nat×Nat,d=dR c/\bN n c:=by
 unfold GV at h;split at h
 .
  rename_i i j;have h:=abl h;refine⟨(i.toNat,j.toNat),?_,?_,?_⟩
  . unfold dR;simp only;rw[Int.toNat_of_nonneg h.1,Int.toNat_of_nonneg xL]
  . show i.toNat<=j.toNat;omega
  . show j.toNat<n;omega
 . cases h
theorem Jr(q:Rat):kr (Wz q)=true:=by show(decide (1<=(q.den:Int)) && decide ((Int.gcd q.num (q.den:Int):Int)=1))=true;have h1:=q.den_pos;have h2:=q.reduced;have h3:Int.gcd q.num (q.den:Int)=1:=h2;rw[h3,aaa xL];rfl
theorem Js{d:D}(h:kr d=true):∃q:Rat,d=Wz q:=by
 by_cases hd:∃i j,d=.tup [.int i,.int j]
 .
  obtain⟨i,j,rfl⟩:=hd;have e:kr (.tup [.int i,.int j])=(decide (1<=j) && decide ((Int.gcd i j:Int)=1)):=rfl;rw[e,Z5]at h;have h1:=abl h.1;have h2:=abl h.2;refine⟨⟨i,j.toNat,xL,?_⟩,?_⟩
  .
   have:Int.gcd i j=1:=by omega
   show Nat.gcd i.natAbs j.toNat=1;have e2:j.natAbs=j.toNat:=by omega
   rw[<- e2];exact this
  . show D.tup [.int i,.int j]=D.tup [.int i,.int (j.toNat:Int)];rw[Int.toNat_of_nonneg xL]
 . rw[zj λi j e=>hd ⟨i,j,e⟩]at h;cases h
theorem zk:∀{xs:List D},xs.all kr=true->∃ps:List Rat,xs=ps.map Wz
 |[],_=>⟨[],rfl⟩
 | d::xs,h=>by rw[abP,Z5]at h;obtain⟨q,rfl⟩:=Js h.1;obtain⟨ps,rfl⟩:=zk h.2;exact⟨q::ps,rfl⟩
noncomputable def Bn:D->Rat
 |.tup [.int i,.int j]=>mkRat i j.toNat
 |_=>0
theorem vq(q:Rat):Bn (Wz q)=q:=by show mkRat q.num (q.den:Int).toNat=q;rw[aak];exact Rat.mkRat_self q
noncomputable def qw(R:aB):D->Bool
 |.lst xs=>decide (xs.length=R.asks.length) && (xs.all kr && (eK (bX R (xs.map Bn)) xs.length).isNone)
 |_=>false
theorem nj(ps:List Rat):(ps.map Wz).map Bn=ps:=by
 rw[aag]
 conv=>rhs;rw[<- List.map_id ps]
 exact aaC λq _=>vq q
theorem Md(ps:List Rat):(ps.map Wz).all kr=true:=by rw[aaP];intro d hd;obtain⟨q,_,rfl⟩:=ZW.mp hd;exact Jr q
theorem vt{R:aB}{ps:List Rat}(hl:ps.length=R.asks.length):qw R (.lst (ps.map Wz))=(eK (bX R ps) ps.length).isNone:=by show(decide ((ps.map Wz).length=R.asks.length) && ((ps.map Wz).all kr && (eK (bX R ((ps.map Wz).map Bn)) (ps.map Wz).length).isNone))=_;rw[nj,Md,ZL,aaa hl];rfl
noncomputable def Nm(R:aB)(q:Rat):D->Bool
 |.lst xs=>qw R (.lst xs) && decide (aO R (xs.map Bn) (Cs R.n (aO R (xs.map Bn)))=q)
 |_=>false
theorem Fq{R:aB}{ps:List Rat}{q:Rat}(hl:ps.length=R.asks.length)(hn:eK (bX R ps) ps.length=none):Nm R q (.lst (ps.map Wz))=decide (aO R ps (Cs R.n (aO R ps))=q):=by show(qw R (.lst (ps.map Wz)) && decide (aO R ((ps.map Wz).map Bn) (Cs R.n (aO R ((ps.map Wz).map Bn)))=q))=_;rw[vt hl,hn,nj];rfl
theorem Me{R:aB}{d:D}(h:qw R d=true):∃ps:List Rat,d=.lst (ps.map Wz)/\ps.length=R.asks.length/\eK (bX R ps) ps.length=none:=by
 unfold qw at h;split at h
 .
  rename_i xs;rw[Z5,Z5]at h;obtain⟨h1,h2,h3⟩:=h;obtain⟨ps,rfl⟩:=zk h2;rw[nj,ZL]at h3;refine⟨ps,rfl,by simpa using abl h1,?_⟩
  cases e:eK (bX R ps) ps.length with
  |none=>rfl
  |some k=>rw[e]at h3;cases h3
 . cases h
theorem Ph{R:aB}{d:D}{q:Rat}(h:qw R d=false):Nm R q d=false:=by
 unfold Nm;split
 . rw[h,aaD]
 . rfl
structure sU (R:aB) (d:D):Prop where
 rb:∀(xs:List D)(q:Rat),d=.lst xs->Wz q∈xs->RB 4400 q
 lb:∀ps:List Rat,d=.lst (ps.map Wz)->ps.length=R.asks.length->eK (bX R ps) ps.length=none->LB R ps
theorem sU.of{R:aB}{ps:List Rat}(hb:LB R ps):sU R (.lst (ps.map Wz)):=by
 refine⟨λxs q e hq=>?_,λps' e _ _=>?_⟩
 . cases e;obtain⟨p,hp,ep⟩:=ZW.mp hq;have e2:=congrArg Bn ep;rw[vq,vq]at e2;subst e2;exact(hb.p p hp).mono xp
 .
  have e1:ps.map Wz=ps'.map Wz:=by injection e
  have e2:=congrArg (List.map Bn) e1;rw[nj,nj]at e2;subst e2;exact hb
noncomputable def Di(R:aB)(q:Rat):D->Bool
 |.tup [.int i,.int j]=>GV R.n (.tup [.int i,.int j]) && decide (ba R (i.toNat,j.toNat)=q)
 |_=>false
theorem Mf{n:Nat}{c:Nat×Nat}(hc:bN n c):GV n (dR c)=true:=by show decide (0<=(c.1:Int)/\(c.1:Int)<=(c.2:Int)/\(c.2:Int)<(n:Int))=true;have h1:=hc.1;have h2:=hc.2;exact aaa xL
theorem Bo{R:aB}{q:Rat}{c:Nat×Nat}(hc:bN R.n c):Di R q (dR c)=decide (ba R c=q):=by show(GV R.n (dR c) && decide (ba R ((c.1:Int).toNat,(c.2:Int).toNat)=q))=_;rw[Mf hc,aaR,aak,aak]
theorem Mg{R:aB}{q:Rat}{d:D}(h:GV R.n d=false):Di R q d=false:=by
 unfold Di;split
 . rw[h,aaD]
 . rfl
noncomputable def vv(R:aB):D->Bool
 |.tup [a,b,c]=>kr a && (Nm R (Bn a) b && Di R (Bn a) c)
 |_=>false
theorem vw{R:aB}{ps:List Rat}{q:Rat}{c:Nat×Nat}(hl:ps.length=R.asks.length)(hn:eK (bX R ps) ps.length=none)(hc:bN R.n c) :
  vv R (.tup [Wz q,.lst (ps.map Wz),dR c])=(decide (aO R ps (Cs R.n (aO R ps))=q) && decide (ba R c=q)):=by
 show(kr (Wz q) && (Nm R (Bn (Wz q)) (.lst (ps.map Wz)) && Di R (Bn (Wz q)) (dR c)))=_;rw[Jr,vq,Fq hl hn,Bo hc];rfl
structure Nn (d:D):Prop where
 sh:∀xs,d=.lst xs->xs.length<=40/\yh 9 xs=true
 bd:∀xs i j,d=.lst xs->D.tup [.int i,.int j]∈xs->i.natAbs<2^4400/\j.natAbs<2^4400
theorem Dj:∀{qs:List Rat},(∀q∈qs,0<=q)->0<=lL qs
 |[],_=>by simp[lL]
 | q::qs,h=>by rw[bo];have h1:=h q k4;have h2:=Dj λx hx=>h x (fI q hx);grind
theorem Mh{R:aB}(hR:R.Ok){ps:List Rat}(hl:ps.length=R.asks.length)(hn:eK (bX R ps) ps.length=none){t:Nat}(ht:t<R.n):0<=aO R ps t:=by
 obtain⟨r1,r2⟩:=dY hR ht
 have h0:0<=cm R.n R.asks ps t:=by
  refine Dj λq hq=>?_;obtain⟨x,hx,rfl⟩:=ZW.mp hq;obtain⟨k,hk,rfl⟩:=List.mem_iff_getElem.mp hx;rw[aaH]at hk;rw[abp];have hk1:k<ps.length:=by omega
  have hk2:k<R.asks.length:=by omega
  have hw:=jK.mp hn k hk1;unfold bX at hw;rw[kj hk1,Bl hk2,Bool.or_eq_false_iff]at hw;have g1:=of_decide_eq_false hw.1;have g2:=of_decide_eq_false hw.2;unfold qt;dsimp only;split<;>grind
 unfold aO;rw[Rat.div_def];exact Rat.mul_nonneg h0 (aby (Rat.inv_pos.mpr r1))
theorem Mi{R:aB}(hR:R.Ok){ps:List Rat}(h0:∀t,t<R.n->0<=aO R ps t):Qg R ps=aO R ps (Cs R.n (aO R ps)):=by
 have lo:=hR.lo;obtain⟨i1,i2⟩:=y4 (show 0<R.n by omega) (aO R ps);obtain⟨_,h2,h3⟩:=lZ (aO R ps) (List.range R.n) 0 _ rfl;refine Rat.le_antisymm ?_ (h2 _ (ZT.mpr i1));rcases h3 with h3|⟨t,ht,h3⟩
 . show Gn _ _<=_;unfold Gn;rw[h3];exact h0 _ i1
 . show Gn _ _<=_;unfold Gn;rw[h3];exact i2 t (ZT.mp ht)
end My
set_option exponentiation.threshold 5000
namespace My
open PySem L2
structure iH where
 k:Nat
 kw:Bool
 l:Nat
 lw:Bool
 am:Rat
noncomputable def Xa(s:iH):D:=.tup [.int (s.k:Int),.str (jh s.kw),.int (s.l:Int),.str (jh s.lw),Wz s.am]
noncomputable def Xb(R:aB)(ps:List Rat)(k:Nat)(w:Bool):Rat:=if w then R.sz k-ps.getD k 0 else ps.getD k 0
noncomputable def Xd(R:aB)(ps:List Rat)(k:Nat)(kw:Bool)(l:Nat)(lw:Bool):Rat:=if Xb R ps l lw<Xb R ps k kw then Xb R ps l lw else Xb R ps k kw
noncomputable def Xe(p:Rat)(w:Bool)(am:Rat):Rat:=if w then p+am else p-am
noncomputable def Xf(ps:List Rat)(s:iH):List Rat:=(ps.set s.k (Xe (ps.getD s.k 0) s.kw s.am)).set s.l (Xe ((ps.set s.k (Xe (ps.getD s.k 0) s.kw s.am)).getD s.l 0) s.lw s.am)
noncomputable def nG(n:Nat)(a:WW)(aw:Bool)(b:WW)(bw:Bool):Bool:=!((xc n a aw).any λt=>decide (t∈xc n b bw))
noncomputable def bP(n:Nat)(a b:WW):Bool×Bool:=if nG n a true b true then(true,true)else if nG n a true b false then(true,false)else if nG n a false b true then(false,true)else(false,false)
structure gu (R:aB) (ps:List Rat):Prop where
 ok:R.Ok
 len:ps.length=R.asks.length
 lo:∀k,k<ps.length->0<=ps.getD k 0/\ps.getD k 0<=R.sz k
 cd:∃D:Nat,0<D/\D<2^1500/\(∀a∈R.asks,a.size.den∣D)/\∀p∈ps,p.den∣D
theorem Bp{R:aB}{k:Nat}(h:k<R.asks.length):R.sz k=R.asks[k].size:=by unfold aB.sz;rw[tu,ZZ,gV h];rfl
theorem dE{ps:List Rat}{k:Nat}(h:k<ps.length):ps.getD k 0=ps[k]:=by rw[tu,gV h];rfl
theorem Xg{a b c:Rat}(h1:a<=b)(h2:b<c):a<c:=by rw[<- Rat.not_le]at h2 ⊢;exact λz=>h2 (abq z h1)
theorem Mj{q:Rat}{D:Nat}(h0:0<=q)(h1:q<((2^300:Nat):Rat))(d0:0<D)(d1:D<2^1500)(hd:q.den∣D):RB 1800 q:=RB.of_val (v:=300) (d:=1500) h0 (ZS (aaY d0 hd) d1) h1
theorem gu.sz_rb{R:aB}{ps:List Rat}(h:gu R ps){k:Nat}(hk:k<ps.length):RB 1800 (R.sz k):=by
 have hk':k<R.asks.length:=by rw[<- h.len];exact hk
 rw[Bp hk'];exact(h.ok.rb (ZM hk')).mono xp
theorem gu.rb{R:aB}{ps:List Rat}(h:gu R ps){k:Nat}(hk:k<ps.length):RB 1800 (ps.getD k 0):=by
 obtain⟨D,d0,d1,_,hd⟩:=h.cd;have hk':k<R.asks.length:=by rw[<- h.len];exact hk
 obtain⟨h1,h2⟩:=h.lo k hk;refine Mj h1 (Xg h2 ?_) d0 d1 (hd _ (by rw[dE hk];exact ZM hk));rw[Bp hk'];exact(h.ok.ask _ (ZM hk')).lt
theorem vx{p q:Rat}{D:Nat}(d0:0<D)(h1:p.den∣D)(h2:q.den∣D):(p+q).den∣D:=by
 have e:p+q=Rat.divInt (nF D p+nF D q) (D:Int):=by
  have hD:((D:Int):Rat)≠0:=by have:(0:Rat)<(D:Rat):=abi.mpr d0;intro z;rw[show((D:Int):Rat)=(D:Rat)from rfl]at z;rw[z]at this;exact absurd this xp
  rw[abN,Rat.intCast_add,qu h1,qu h2,<- Rat.add_mul,Rat.div_def,Rat.mul_assoc,show((D:Nat):Rat)=((D:Int):Rat)from rfl,Rat.mul_inv_cancel _ hD,Rat.mul_one]
 rw[e];have:=Je (t:=nF D p+nF D q) (b:=(D:Int)) xL;simpa using this
theorem vz{p q:Rat}{D:Nat}(d0:0<D)(h1:p.den∣D)(h2:q.den∣D):(p-q).den∣D:=by rw[aa4];exact vx d0 h1 (by rw[Rat.neg_den];exact h2)
theorem gu.ns{R:aB}{ps:List Rat}(h:gu R ps){k:Nat}(hk:k<ps.length)(w:Bool):0<=Xb R ps k w/\Xb R ps k w<=R.sz k:=by
 obtain⟨h1,h2⟩:=h.lo k hk;unfold Xb;cases w
 . exact⟨h1,h2⟩
 .
  have h3:=(Rat.le_iff_sub_nonneg _ _).mp h2;refine⟨h3,?_⟩;show R.sz k-ps.getD k 0<=R.sz k;rw[Rat.le_iff_sub_nonneg];have:R.sz k-(R.sz k-ps.getD k 0)=ps.getD k 0:=by rw[aa4,aa4,Rat.neg_add,Rat.neg_neg,<- Rat.add_assoc,Rat.add_neg_cancel,Rat.zero_add]
  rw[this];exact h1
noncomputable def xf(a:WW):Nat:=min a.one a.other
noncomputable def jL(a:WW):Nat:=max a.one a.other
noncomputable def Xh(a:WW):Bool:=decide (a.one<a.other)
theorem Bq{n:Nat}{a:WW}(h:ke n a){t:Nat}(ht:t<n):(sS n a t == Xh a)=true↔xf a<=t/\t<jL a:=by
 have h1:=h.one;have h2:=h.other;have h3:=h.ne;unfold sS xf jL Xh;rw[qq h1 ht,qq h1 h2];rw[beq_iff_eq,abb];by_cases h4:a.one<a.other
 .
  rw[if_pos (show a.one<=a.other by omega)];by_cases h5:a.one<=t
  . rw[if_pos h5];omega
  . rw[if_neg h5];omega
 .
  rw[if_neg (show ¬a.one<=a.other by omega)];by_cases h5:a.one<=t
  . rw[if_pos h5];omega
  . rw[if_neg h5];omega
theorem zl{n:Nat}{a b:WW}(ha:ke n a)(hb:ke n b){aw bw:Bool}(h:∀t,t<n->(sS n a t == aw)=true->(sS n b t == bw)=true->False):nG n a aw b bw=true:=by
 unfold nG;rw[Bool.not_eq_true',List.any_eq_false];intro t ht;rw[decide_eq_true_iff];intro hb'
 have htn:t<n:=by
  cases aw
  . exact((EU ha.one ha.other ha.ne).mp ht).1
  . exact((Nj ha.one).mp ht).1
 exact h t htn ((vd ha aw htn).mp ht) ((vd hb bw htn).mp hb')
theorem Br{n:Nat}{a:WW}(h:ke n a){t:Nat}(ht:t<n):(sS n a t == !Xh a)=true↔¬(xf a<=t/\t<jL a):=by rw[<- Bq h ht];cases sS n a t<;>cases Xh a<;>simp
noncomputable def So(a b:WW):Bool:=decide (xf a<xf b/\xf b<jL a/\jL a<jL b) ||decide (xf b<xf a/\xf a<jL b/\jL b<jL a)
theorem Ml{n:Nat}{a b:WW}(ha:ke n a)(hb:ke n b)(h:So a b=false):nG n a (bP n a b).1 b (bP n a b).2=true:=by
 have ex:∃aw bw,nG n a aw b bw=true:=by
  unfold So at h;rw[Bool.or_eq_false_iff,decide_eq_false_iff_not,decide_eq_false_iff_not]at h;have la:xf a<jL a:=by have:=ha.ne;unfold xf jL;omega
  have lb:xf b<jL b:=by have:=hb.ne;unfold xf jL;omega
  by_cases h1:jL a<=xf b∨jL b<=xf a
  . refine⟨Xh a,Xh b,zl ha hb λt ht p q=>?_⟩;have p:=(Bq ha ht).mp p;have q:=(Bq hb ht).mp q;omega
  .
   by_cases h2:xf b<=xf a/\jL a<=jL b
   . refine⟨Xh a,!Xh b,zl ha hb λt ht p q=>?_⟩;have p:=(Bq ha ht).mp p;have q:=(Br hb ht).mp q;omega
   . refine⟨!Xh a,Xh b,zl ha hb λt ht p q=>?_⟩;have p:=(Br ha ht).mp p;have q:=(Bq hb ht).mp q;omega
 unfold bP;split
 . assumption
 .
  split
  . assumption
  .
   split
   . assumption
   .
    obtain⟨aw,bw,e⟩:=ex
    cases aw<;>cases bw<;>first|exact e|contradiction
noncomputable def Xi(R:aB)(ps:List Rat)(k l:Nat)(w:Bool×Bool):iH:=⟨k,w.1,l,w.2,Xd R ps k w.1 l w.2⟩
theorem gu.ms{R:aB}{ps:List Rat}(h:gu R ps){k l:Nat}(hk:k<ps.length)(hl:l<ps.length)(kw lw:Bool):0<=Xd R ps k kw l lw/\Xd R ps k kw l lw<=Xb R ps k kw/\Xd R ps k kw l lw<=Xb R ps l lw/\(Xd R ps k kw l lw=Xb R ps k kw∨Xd R ps k kw l lw=Xb R ps l lw):=by
 have h1:=h.ns hk kw;have h2:=h.ns hl lw;unfold Xd;split
 . rename_i hlt;exact⟨h2.1,aby hlt,abj,.inr rfl⟩
 . rename_i hlt;exact⟨h1.1,abj,abo.mp hlt,.inl rfl⟩
noncomputable def Xj(R:aB)(k l:Nat):Bool:=So (aS R k) (aS R l)
noncomputable def Xk(cr:Nat->Nat->Bool):List Nat->Option (Nat×Nat)
 |[]=>none
 | k::ks=>match ks.find? (λl=>!cr k l)with
  |some l=>some (k,l)
  |none=>Xk cr ks
noncomputable def Dk:Option (Nat×Nat)->D
 |none=>.non
 |some (k,l)=>.tup [.int (k:Int),.int (l:Int)]
theorem iQ{R:aB}{k:Nat}(h:k<R.asks.length):aS R k=R.asks[k]:=by unfold aS;rw[gV h];rfl
end My
set_option exponentiation.threshold 5000
namespace My
open PySem L2
noncomputable def Xl(R:aB)(ps:List Rat)(k:Nat):Bool:=decide (0<ps.getD k 0) && decide (ps.getD k 0<R.sz k)
noncomputable def Xm(R:aB)(ps:List Rat):List Nat:=(List.range ps.length).filter (Xl R ps)
theorem l5{R:aB}{ps:List Rat}{k:Nat}(h:k∈Xm R ps):k<ps.length/\Xl R ps k=true:=by obtain⟨h1,h2⟩:=aam.mp h;exact⟨ZT.mp h1,h2⟩
theorem yt(R:aB)(ps:List Rat):(Xm R ps).Pairwise (· < ·):=List.Pairwise.filter _ List.pairwise_lt_range
theorem uC{cr:Nat->Nat->Bool}:∀{ks:List Nat}{k l:Nat},ks.Pairwise (· < ·)->Xk cr ks=some (k,l)->k∈ks/\l∈ks/\k<l/\cr k l=false
 |[],_,_,_,h=>by cases h
 | a::ks,k,l,hp,h=>by
  obtain⟨p1,p2⟩:=List.pairwise_cons.mp hp;unfold Xk at h
  cases e:ks.find? (λl=>!cr a l)with
  | none =>
   rw[e]at h;obtain⟨h1,h2,h3,h4⟩:=uC p2 h;exact⟨fI _ h1,fI _ h2,h3,h4⟩
  | some m =>
   rw[e]at h;cases h;have hm:=List.mem_of_find?_eq_some e;have hc:=List.find?_some e;exact⟨k4,fI _ hm,p1 _ hm,by simpa using hc⟩
theorem Fs{cr:Nat->Nat->Bool}:∀{ks:List Nat},ks.Pairwise (· < ·)->Xk cr ks=none->∀k l,k∈ks->l∈ks->k<l->cr k l=true
 |[],_,_,_,_,hk,_,_=>by cases hk
 | a::ks,hp,h,k,l,hk,hl,hkl=>by
  obtain⟨p1,p2⟩:=List.pairwise_cons.mp hp;unfold Xk at h
  cases e:ks.find? (λl=>!cr a l)with
  |some m=>rw[e]at h;cases h
  | none =>
   rw[e]at h;rcases ZU.mp hk with ek|hk'
   .
    subst ek;rcases ZU.mp hl with el|hl'
    . omega
    . have:=List.find?_eq_none.mp e l hl';simpa using this
   .
    rcases ZU.mp hl with el|hl'
    . have:=p1 k hk';omega
    . exact Fs p2 h k l hk' hl' hkl
theorem Pi(p s:Rat):p+(s-p)=s:=by rw[aa4,<- Rat.add_assoc,Rat.add_comm p s,Rat.add_assoc,Rat.add_neg_cancel,Rat.add_zero]
theorem Jt(p:Rat):p-p=0:=by rw[aa4,Rat.add_neg_cancel]
theorem Pj{p a:Rat}(h:a<=p):0<=p-a:=(Rat.le_iff_sub_nonneg _ _).mp h
theorem Mm{p a:Rat}(h:0<=a):p-a<=p:=by rw[Rat.le_iff_sub_nonneg,aa4,aa4,Rat.neg_add,Rat.neg_neg,<- Rat.add_assoc,Rat.add_neg_cancel,Rat.zero_add];exact h
theorem Pk{p a:Rat}(h1:0<=p)(h2:0<=a):0<=p+a:=Rat.add_nonneg h1 h2
structure RK (R:aB) (ps:List Rat) (s:iH):Prop where
 k:s.k<ps.length
 l:s.l<ps.length
 kl:s.k≠s.l
 nn:0<=s.am
 kn:s.am<=Xb R ps s.k s.kw
 ln:s.am<=Xb R ps s.l s.lw
theorem l6(ps:List Rat)(s:iH):(Xf ps s).length=ps.length:=by simp[Xf]
theorem Bs{ps:List Rat}{s:iH}(hk:s.k<ps.length)(hl:s.l<ps.length)(hkl:s.k≠s.l)(i:Nat):(Xf ps s).getD i 0=if i=s.k then Xe (ps.getD s.k 0) s.kw s.am else if i=s.l then Xe (ps.getD s.l 0) s.lw s.am else ps.getD i 0:=by
 have e0:(ps.set s.k (Xe (ps.getD s.k 0) s.kw s.am)).getD s.l 0=ps.getD s.l 0:=by rw[tu,aay hkl,<- tu]
 unfold Xf;rw[e0,tu];by_cases h1:i=s.k
 . subst h1;rw[if_pos rfl,aay (abe hkl),aax hk];rfl
 .
  rw[if_neg h1];by_cases h2:i=s.l
  . subst h2;rw[if_pos rfl,aax (by simpa using hl)];rfl
  . rw[if_neg h2,aay (abe h2),aay (abe h1),tu]
theorem Ft{R:aB}{ps:List Rat}{k:Nat}{w:Bool}{am:Rat}(h1:0<=ps.getD k 0)(h2:ps.getD k 0<=R.sz k)(a0:0<=am)(a1:am<=Xb R ps k w):0<=Xe (ps.getD k 0) w am/\Xe (ps.getD k 0) w am<=R.sz k:=by
 unfold Xb at a1;unfold Xe
 cases w with
 | true =>
  simp only[aaX]at a1 ⊢;refine⟨Pk h1 a0,?_⟩;have:=(Rat.add_le_add_left (c:=ps.getD k 0)).mpr a1;rwa [Pi]at this
 | false =>
  simp only[aaw,aa3]at a1 ⊢;exact⟨Pj a1,abq (Mm a0) h2⟩
theorem gu.slid{R:aB}{ps:List Rat}{s:iH}(h:gu R ps)(hs:RK R ps s)(hd:∀D:Nat,0<D->(∀a∈R.asks,a.size.den∣D)->(∀p∈ps,p.den∣D)->s.am.den∣D):gu R (Xf ps s):=by
 refine⟨h.ok,by rw[l6];exact h.len,λi hi=>?_,?_⟩
 .
  rw[l6]at hi;rw[Bs hs.k hs.l hs.kl];split
  . rename_i e;subst e;exact Ft (h.lo _ hs.k).1 (h.lo _ hs.k).2 hs.nn hs.kn
  .
   split
   . rename_i e;subst e;exact Ft (h.lo _ hs.l).1 (h.lo _ hs.l).2 hs.nn hs.ln
   . exact h.lo i hi
 .
  obtain⟨D,d0,d1,da,dp⟩:=h.cd;have dm:=hd D d0 da dp;have dk:∀k,k<ps.length->(ps.getD k 0).den∣D:=λk hk=>dp _ (by rw[dE hk];exact ZM hk)
  have db:∀(k:Nat)(w:Bool),k<ps.length->(Xe (ps.getD k 0) w s.am).den∣D:=λk w hk=>by
   unfold Xe;cases w
   . exact vz d0 (dk k hk) dm
   . exact vx d0 (dk k hk) dm
  refine⟨D,d0,d1,da,λp hp=>?_⟩;obtain⟨i,hi,rfl⟩:=aaZ hp;rw[<- dE hi,Bs hs.k hs.l hs.kl];rw[l6]at hi;split
  . exact db _ _ hs.k
  .
   split
   . exact db _ _ hs.l
   . exact dk i hi
theorem Fu{R:aB}{ps:List Rat}(h:gu R ps){k:Nat}(hk:k<ps.length)(w:Bool){D:Nat}(d0:0<D)(da:∀a∈R.asks,a.size.den∣D)(dp:∀p∈ps,p.den∣D):(Xb R ps k w).den∣D:=by
 have hk':k<R.asks.length:=by rw[<- h.len];exact hk
 have e1:(ps.getD k 0).den∣D:=dp _ (by rw[dE hk];exact ZM hk);unfold Xb;cases w
 . exact e1
 . refine vz d0 ?_ e1;rw[Bp hk'];exact da _ (ZM hk')
theorem Np{R:aB}{ps:List Rat}(h:gu R ps){k l:Nat}(hk:k<ps.length)(hl:l<ps.length)(hkl:k≠l)(w:Bool×Bool):RK R ps (Xi R ps k l w):=by obtain⟨m1,m2,m3,_⟩:=h.ms hk hl w.1 w.2;exact⟨hk,hl,hkl,m1,m2,m3⟩
theorem Nq{R:aB}{ps:List Rat}(h:gu R ps){k l:Nat}(hk:k<ps.length)(hl:l<ps.length)(hkl:k≠l)(w:Bool×Bool):gu R (Xf ps (Xi R ps k l w)):=by
 refine h.slid (Np h hk hl hkl w) λD d0 da dp=>?_;show(Xd R ps k w.1 l w.2).den∣D;rcases(h.ms hk hl w.1 w.2).2.2.2 with e|e
 . rw[e];exact Fu h hk _ d0 da dp
 . rw[e];exact Fu h hl _ d0 da dp
theorem Nr{R:aB}{ps:List Rat}{k:Nat}{w:Bool}:¬(0<Xe (ps.getD k 0) w (Xb R ps k w)/\Xe (ps.getD k 0) w (Xb R ps k w)<R.sz k):=by
 unfold Xe Xb
 cases w with
 | true =>
  simp only[aaX];rw[Pi];exact λz=>Rat.lt_irrefl z.2
 | false =>
  simp only[aaw,aa3];rw[Jt];exact λz=>Rat.lt_irrefl z.1
theorem Dl{p q:Nat->Bool}:∀{l:List Nat}{x:Nat},(∀y∈l,q y=true->p y=true)->x∈l->p x=true->q x=false->(l.filter q).length<(l.filter p).length
 |[],_,_,hx,_,_=>by cases hx
 | a::l,x,h,hx,hp,hq=>by
  have le:∀m:List Nat,(∀y∈m,q y=true->p y=true)->(m.filter q).length<=(m.filter p).length:=λm hm=>by
   induction m with
   |nil=>exact ZY _
   | cons b m ih =>
    have ih:=ih λy hy=>hm y (fI _ hy);have hb:=hm b k4;rw[aao,aao];cases e1:q b<;>cases e2:p b<;>simp_all<;>omega
  have h':∀y∈l,q y=true->p y=true:=λy hy=>h y (fI _ hy);rw[aao,aao];rcases ZU.mp hx with rfl|hx
  . rw[hp,hq];have:=le l h';simp;omega
  . have ih:=Dl h' hx hp hq;have hb:=h a k4;cases e1:q a<;>cases e2:p a<;>simp_all<;>omega
theorem Fv{R:aB}{ps:List Rat}(h:gu R ps){k l:Nat}(hk:k∈Xm R ps)(hl:l∈Xm R ps)(hkl:k≠l)(w:Bool×Bool):(Xm R (Xf ps (Xi R ps k l w))).length<(Xm R ps).length:=by
 obtain⟨hk1,hk2⟩:=l5 hk;obtain⟨hl1,hl2⟩:=l5 hl;have at_:=Bs (s:=Xi R ps k l w) hk1 hl1 hkl;unfold Xm;rw[l6]
 have up:∀y∈List.range ps.length,Xl R (Xf ps (Xi R ps k l w)) y=true->Xl R ps y=true:=λy _ hy=>by
  unfold Xl at hy ⊢;rw[at_]at hy;by_cases e1:y=k
  . subst e1;exact hk2
  .
   by_cases e2:y=l
   . subst e2;exact hl2
   . rw[if_neg (show ¬y=(Xi R ps k l w).k from e1),if_neg (show ¬y=(Xi R ps k l w).l from e2)]at hy;exact hy
 rcases(h.ms hk1 hl1 w.1 w.2).2.2.2 with e|e
 . refine Dl up (ZT.mpr hk1) hk2 ?_;unfold Xl;rw[at_,if_pos (show k=(Xi R ps k l w).k from rfl)];show(decide (0<Xe (ps.getD k 0) w.1 (Xd R ps k w.1 l w.2)) && decide (Xe (ps.getD k 0) w.1 (Xd R ps k w.1 l w.2)<R.sz k))=false;rw[e];have:=Nr (R:=R) (ps:=ps) (k:=k) (w:=w.1);rw[<- Bool.not_eq_true,Z5,ZX,ZX];exact this
 . refine Dl up (ZT.mpr hl1) hl2 ?_;unfold Xl;rw[at_,if_neg (show ¬l=(Xi R ps k l w).k from abe hkl),if_pos (show l=(Xi R ps k l w).l from rfl)];show(decide (0<Xe (ps.getD l 0) w.2 (Xd R ps k w.1 l w.2)) && decide (Xe (ps.getD l 0) w.2 (Xd R ps k w.1 l w.2)<R.sz l))=false;rw[e];have:=Nr (R:=R) (ps:=ps) (k:=l) (w:=w.2);rw[<- Bool.not_eq_true,Z5,ZX,ZX];exact this
noncomputable def Bt(R:aB)(ps:List Rat):Option iH:=(Xk (Xj R) (Xm R ps)).map λp=>Xi R ps p.1 p.2 (bP R.n (aS R p.1) (aS R p.2))
noncomputable def xu(R:aB):Nat->List Rat->List iH
 |0,_=>[]
 | n+1,ps=>match Bt R ps with
  |none=>[]
  |some s=>s::xu R n (Xf ps s)
theorem Bu{R:aB}{ps:List Rat}(h:gu R ps){k:Nat}(hk:k<ps.length)(w:Bool):RB 3700 (Xb R ps k w):=by
 unfold Xb;cases w
 . exact(h.rb hk).mono xp
 . exact((h.sz_rb hk).sub (h.rb hk)).mono xp
end My
set_option exponentiation.threshold 5000
namespace My
open PySem L2
noncomputable def Wv(R:aB)(ps:List Rat)(s:iH):Bool:=!decide (s.k=s.l) && (nG R.n (aS R s.k) s.kw (aS R s.l) s.lw && (decide (0<s.am) && !decide (Xd R ps s.k s.kw s.l s.lw<s.am)))
theorem Nu{R:aB}{ps:List Rat}{k:Nat}(h:Xl R ps k=true)(w:Bool):0<Xb R ps k w:=by
 unfold Xl at h;rw[Z5,ZX,ZX]at h;unfold Xb;cases w
 . exact h.1
 . show 0<R.sz k-ps.getD k 0;have:=h.2;rw[<- Rat.not_le]at this ⊢;intro z;apply this;have:=(Rat.add_le_add_left (c:=ps.getD k 0)).mpr z;rw[Pi,Rat.add_zero]at this;exact this
theorem qx{R:aB}{ps:List Rat}{s:iH}(h:gu R ps)(e:Bt R ps=some s):RK R ps s/\Wv R ps s=true/\gu R (Xf ps s)/\(Xm R (Xf ps s)).length<(Xm R ps).length/\RB 4000 s.am/\s.k∈Xm R ps/\s.l∈Xm R ps:=by
 unfold Bt at e
 cases e1:Xk (Xj R) (Xm R ps)with
 |none=>rw[e1]at e;cases e
 | some p =>
  obtain⟨k,l⟩:=p;rw[e1]at e;obtain⟨hk,hl,hkl,hc⟩:=uC (yt R ps) e1;obtain⟨hk1,hk2⟩:=l5 hk;obtain⟨hl1,hl2⟩:=l5 hl;have hk':k<R.asks.length:=by rw[<- h.len];exact hk1
  have hl':l<R.asks.length:=by rw[<- h.len];exact hl1
  have hkl':k≠l:=by omega
  have ee:Xi R ps k l (bP R.n (aS R k) (aS R l))=s:=aaf e;subst ee;refine⟨Np h hk1 hl1 hkl' _,?_,Nq h hk1 hl1 hkl' _,Fv h hk hl hkl' _,?_,hk,hl⟩
  .
   unfold Wv;show(!decide (k=l) && (nG R.n (aS R k) (bP R.n (aS R k) (aS R l)).1 (aS R l) (bP R.n (aS R k) (aS R l)).2 && (decide (0<Xd R ps k (bP R.n (aS R k) (aS R l)).1 l (bP R.n (aS R k) (aS R l)).2) && !decide (Xd R ps k (bP R.n (aS R k) (aS R l)).1 l (bP R.n (aS R k) (aS R l)).2<Xd R ps k (bP R.n (aS R k) (aS R l)).1 l (bP R.n (aS R k) (aS R l)).2))))=true;rw[ZP hkl',Ml (by rw[iQ hk'];exact h.ok.ask _ (ZM hk')) (by rw[iQ hl'];exact h.ok.ask _ (ZM hl')) hc,ZP (Rat.lt_irrefl),aaa]
   . rfl
   .
    rcases(h.ms hk1 hl1 (bP R.n (aS R k) (aS R l)).1 (bP R.n (aS R k) (aS R l)).2).2.2.2 with z|z
    . rw[z];exact Nu hk2 _
    . rw[z];exact Nu hl2 _
  .
   show RB 4000 (Xd R ps k _ l _);rcases(h.ms hk1 hl1 (bP R.n (aS R k) (aS R l)).1 (bP R.n (aS R k) (aS R l)).2).2.2.2 with z|z
   . rw[z];exact(Bu h hk1 _).mono xp
   . rw[z];exact(Bu h hl1 _).mono xp
theorem Mn{R:aB}{ps:List Rat}(e:Bt R ps=none):Xk (Xj R) (Xm R ps)=none:=by
 unfold Bt at e
 cases e1:Xk (Xj R) (Xm R ps)with
 |none=>rfl
 |some p=>rw[e1]at e;cases e
theorem Dm{R:aB}:∀(m:Nat)(ps:List Rat),gu R ps->(xu R m ps).length<=(Xm R ps).length
 |0,_,_=>aaN _
 | m+1,ps,h=>by
  unfold xu
  cases e:Bt R ps with
  |none=>exact aaN _
  | some s =>
   obtain⟨_,_,h2,h3,_⟩:=qx h e;have:=Dm m (Xf ps s) h2;simp only[aa8];omega
end My
set_option exponentiation.threshold 5000
namespace My
open PySem L2
end My
set_option exponentiation.threshold 5000
namespace My
open PySem L2
theorem Ju(R:aB):eG (R.asks.map lV)=(List.range R.asks.length).map λ(k:Nat)=>D.tup [.int (k:Int),lV (aS R k)]:=by
 apply List.ext_getElem?;intro k;by_cases hk:k<R.asks.length
 . rw[ZZ,aau hk];simp[eG,hk,aS]
 . rw[abH (by simp[eG];omega),abH (by simp;omega)]
noncomputable def Aw:D->Bool
 |.str z=>decide (z=Str.ofString "on") ||decide (z=Str.ofString "back")
 |_=>false
theorem Pl(z:Str):V3 (.str z) [.str (Str.ofString "on"),.str (Str.ofString "back")]=Aw (.str z):=by
 have e1:(Str.ofString "on" == z)=decide (z=Str.ofString "on"):=by rw[Bool.eq_iff_iff,beq_iff_eq,decide_eq_true_iff]; exact eq_comm
 have e2:(Str.ofString "back" == z)=decide (z=Str.ofString "back"):=by rw[Bool.eq_iff_iff,beq_iff_eq,decide_eq_true_iff]; exact eq_comm
 show(Str.ofString "on" == z ||(Str.ofString "back" == z ||false))=_;rw[e1,e2,Bool.or_false];rfl
theorem Jv{h:D->D}{caps:Ev}{te:W L}{k:List D->Ev->Prop}(xs:List D)(acc:List D)(l:L)
  (step:∀a∈xs,∀Q:Ev->D->Prop,Q (.d a::caps) (h a)->te (.d a::caps) λr Z3=>Wc r λy=>Q Z3 y)
  (Vx:∀l',k (acc++xs.map h) (l'::caps)):de (aU 0) dO te xs (l::caps) acc k:=by
 have:=df (enc:=id) (h:=h) xs acc l step Vx;rwa [List.map_id]at this
structure Pt (n:Nat) (d:D):Prop where
 dep:Gf d<=n
 wid:Jo d<=99
 same:Ik (20+n) d=true
theorem Pt.int(i:Int):Pt 0 (.int i):=⟨by simp[Gf],by simp[Jo],by simp[Ik]⟩
end My
set_option exponentiation.threshold 5000
namespace My
open PySem L2
noncomputable def oX:D->Option Bool
 |.str z=>if z=jh true then some true else if z=jh false then some false else none
 |_=>none
noncomputable def vA:D->Option Nat
 |.int i=>if 0<=i then some i.toNat else none
 |_=>none
noncomputable def Bv(d:D):Option Rat:=match d with
 |.tup [.int i,.int j]=>if kr (.tup [.int i,.int j])then some (Rat.divInt i j)else none
 |_=>none
noncomputable def xg:D->Option iH
 | .tup [a,b,c,d,e]=>match vA a,oX b,vA c,oX d,Bv e with
  |some k,some kw,some l,some lw,some am=>some ⟨k,kw,l,lw,am⟩
  |_,_,_,_,_=>none
 |_=>none
theorem zm{d:D}{w:Bool}(h:oX d=some w):d=.str (jh w):=by
 unfold oX at h;split at h
 .
  split at h
  . rename_i e;cases h;rw[e]
  .
   split at h
   . rename_i e;cases h;rw[e]
   . cases h
 . cases h
theorem vB(w:Bool):oX (.str (jh w))=some w:=by cases w<;>decide +kernel
theorem zo(d:D):Aw d=(oX d).isSome:=by
 unfold Aw oX
 cases d with
 | str z =>
  have e1:jh true=Str.ofString "on":=rfl;have e2:jh false=Str.ofString "back":=rfl;rw[<- e1,<- e2];by_cases h1:z=jh true
  . simp[h1]
  .
   by_cases h2:z=jh false
   . simp[h1,h2];split<;>rfl
   . simp[h1,h2]
 |_=>rfl
theorem Fw{d:D}{k:Nat}(h:vA d=some k):d=.int (k:Int):=by
 unfold vA at h;split at h
 .
  split at h
  .
   cases h
   congr 1
   omega
  . cases h
 . cases h
theorem Jw(k:Nat):vA (.int (k:Int))=some k:=by
 show(if(0:Int)<=(k:Int)then some ((k:Int)).toNat else none)=_
 rw[if_pos (by omega)];rfl
theorem Mo{d:D}{q:Rat}(h:Bv d=some q):d=Wz q:=by
 unfold Bv at h;split at h
 .
  rename_i i j;split at h
  .
   rename_i e;cases h;show D.tup [.int i,.int j]=_;have e':(decide (1<=j) && decide ((Int.gcd i j:Int)=1))=true:=e;rw[Z5,ZX,ZX]at e';obtain⟨h1,h2⟩:=e';have h3:Nat.gcd i.natAbs j.natAbs=1:=Int.ofNat_inj.mp h2;obtain⟨m,rfl⟩:=abv (show 0<=j by omega);have hm:m≠0:=by omega
   have h3':i.natAbs.Coprime m:=by rw[Z4]at h3;exact h3
   have em:Rat.divInt i (m:Int)=Rat.mk' i m hm h3':=by rw[Rat.mk_eq_divInt]
   rw[em];rfl
  . cases h
 . cases h
theorem Mp(q:Rat):kr (Wz q)=true:=by unfold Wz kr;have h1:=q.den_pos;have h2:=q.reduced;unfold Nat.Coprime at h2;rw[Z5,ZX,ZX];refine⟨xL,?_⟩;show((Nat.gcd q.num.natAbs ((q.den:Int)).natAbs:Nat):Int)=1;rw[Z4,h2];rfl
theorem Mq(q:Rat):Bv (Wz q)=some q:=by
 show(if kr (.tup [.int q.num,.int (q.den:Int)])then some (Rat.divInt q.num (q.den:Int))else none)=_
 rw[show kr (.tup [.int q.num,.int (q.den:Int)])=true from Mp q,if_pos rfl,aaL]
theorem Pn(d:D):kr d=(Bv d).isSome:=by
 by_cases h:∃i j,d=.tup [.int i,.int j]
 .
  obtain⟨i,j,rfl⟩:=h
  show _=(if kr (.tup [.int i,.int j])then some (Rat.divInt i j)else none).isSome
  cases e:kr (.tup [.int i,.int j])<;>rfl
 .
  have hn:∀i j,d≠.tup [.int i,.int j]:=λi j e=>h ⟨i,j,e⟩;rw[zj hn];unfold Bv;split
  . exact absurd rfl (hn _ _)
  . rfl
theorem rC(s:iH):xg (Xa s)=some s:=by simp only[Xa,xg,Jw,vB,Mq]
theorem Jx{d:D}{s:iH}(h:xg d=some s):d=Xa s:=by
 unfold xg at h;split at h
 .
  split at h
  . rename_i h1 h2 h3 h4 h5;cases h;rw[Fw h1,zm h2,Fw h3,zm h4,Mo h5];rfl
  . cases h
 . cases h
noncomputable def xv(n:Nat)(d:D):Bool:=match xg d with
 |some s=>decide (s.k<n) && decide (s.l<n)
 |none=>false
noncomputable def vC(d:D)(n:Int):Bool:=match d with
 |.int i=>decide (0<=i/\i<n)
 |_=>false
theorem Fx(d:D)(n:Nat):vC d (n:Int)=match vA d with|some k=>decide (k<n)|none=>false:=by
 unfold vC vA
 cases d with
 | int i =>
  by_cases h:0<=i
  . simp only[h,aaX,true_and];rw[abb];omega
  . simp only[h,aa3,false_and,abK]
 |_=>rfl
theorem Po(n:Nat)(a b c d e:D):xv n (.tup [a,b,c,d,e])=(vC a n && (vC c n && (Aw b && (Aw d && kr e)))):=by
 rw[Fx,Fx,zo,zo,Pn];unfold xv
 have e0:xg (.tup [a,b,c,d,e])=match vA a,oX b,vA c,oX d,Bv e with
  |some k,some kw,some l,some lw,some am=>some ⟨k,kw,l,lw,am⟩
  |_,_,_,_,_=>none:=rfl
 rw[e0];cases vA a<;>cases oX b<;>cases vA c<;>cases oX d<;>cases Bv e<;>simp
theorem Jy{n:Nat}{xs:List D}(h:xs.length≠5):xv n (.tup xs)=false:=by
 have:xg (.tup xs)=none:=by
  unfold xg;split
  . rename_i eq;cases eq;exact absurd rfl h
  . rfl
 unfold xv;rw[this]
theorem Mr{n:Nat}{d:D}(h:∀xs,d≠.tup xs):xv n d=false:=by
 have:xg d=none:=by
  unfold xg;split
  . exact absurd rfl (h _)
  . rfl
 unfold xv;rw[this]
theorem U3{xs:List D}(h:xs.length=5):∃a b c d e,xs=[a,b,c,d,e]:=by
 match xs,h with
 |[a,b,c,d,e],_=>exact⟨a,b,c,d,e,rfl⟩
noncomputable def Xn(R:aB)(ps:List Rat)(d:D):Bool:=match xg d with
 |some s=>decide (s.k<ps.length) && (decide (s.l<ps.length) && Wv R ps s)
 |none=>false
theorem Nv{R:aB}{ps:List Rat}{s:iH}(hk:s.k<ps.length)(hl:s.l<ps.length):Xn R ps (Xa s)=Wv R ps s:=by unfold Xn;rw[rC];simp[hk,hl]
theorem Nw{R:aB}{ps:List Rat}{d:D}(h:Xn R ps d=true):∃s,d=Xa s/\s.k<ps.length/\s.l<ps.length/\Wv R ps s=true:=by
 unfold Xn at h;split at h
 . rename_i s e;rw[Z5,Z5,ZX,ZX]at h;exact⟨s,Jx e,h.1,h.2.1,h.2.2⟩
 . cases h
end My
set_option exponentiation.threshold 5000
namespace My
open PySem L2
theorem Jz{R:aB}{ps:List Rat}{s:iH}(h:gu R ps)(e:Bt R ps=some s){D:Nat}(d0:0<D)(da:∀a∈R.asks,a.size.den∣D)(dp:∀p∈ps,p.den∣D):s.am.den∣D:=by
 unfold Bt at e
 cases e1:Xk (Xj R) (Xm R ps)with
 |none=>rw[e1]at e;cases e
 | some p =>
  obtain⟨k,l⟩:=p;rw[e1]at e;obtain⟨hk,hl,hkl,hc⟩:=uC (yt R ps) e1;obtain⟨hk1,hk2⟩:=l5 hk;obtain⟨hl1,hl2⟩:=l5 hl;have ee:Xi R ps k l (bP R.n (aS R k) (aS R l))=s:=aaf e;subst ee;show(Xd R ps k _ l _).den∣D;rcases(h.ms hk1 hl1 (bP R.n (aS R k) (aS R l)).1 (bP R.n (aS R k) (aS R l)).2).2.2.2 with z|z
  . rw[z];exact Fu h hk1 _ d0 da dp
  . rw[z];exact Fu h hl1 _ d0 da dp
noncomputable def Nx(n:Nat)(d:D):Bool:=match d with
 |.lst xs=>decide (xs.length=n) && xs.all Aw
 |_=>false
end My
set_option exponentiation.threshold 5000
namespace My
open PySem L2
noncomputable def yu(R:aB):Nat->List Rat->List Rat
 |0,ps=>ps
 | m+1,ps=>match Bt R ps with
  |none=>ps
  |some s=>yu R m (Xf ps s)
theorem Fy{R:aB}:∀(m:Nat)(ps:List Rat),gu R ps->(Xm R ps).length<=m->Bt R (yu R m ps)=none
 | 0,ps,h,hm=>by
  cases e:Bt R (yu R 0 ps)with
  |none=>rfl
  | some s =>
   have:=(qx h e).2.2.2.1;omega
 | m+1,ps,h,hm=>by
  unfold yu
  cases e:Bt R ps with
  |none=>exact e
  | some s =>
   obtain⟨_,_,h3,h4,_⟩:=qx h e;exact Fy m (Xf ps s) h3 xL
end My
set_option exponentiation.threshold 5000
namespace My
open PySem L2
structure WK (n s:Nat) (d:D):Prop where
 ok:WS d=true
 sh:iN d=true
 dp:(Wo d).depth<=n
 sg:Gg d<=s
structure EP (N:Nat) (x:D):Prop where
 ok:WA 3 x=true
 wk:WK 1 1300 x
 q:∀q,x=Wz q->q.den∣N
structure Xo (R:aB) (N:Nat):Prop where
 n0:0<N
 n1:N<2^1340
 d36:36∣N
 da:∀a∈R.asks,a.size.den*12∣N
 sp:∀p∈bY R (bB R).1,p.den∣N
theorem Xo.ask{R:aB}{N:Nat}(h:Xo R N):∀a∈R.asks,a.size.den∣N:=λa ha=>abQ (Nat.dvd_mul_right _ _) (h.da a ha)
end My
set_option exponentiation.threshold 5000
namespace My
open PySem L2
theorem WK.all{n s:Nat}:∀{ds:List D},(∀d∈ds,WK n s d)->OF ds=true/\kc ds=true/\PyData.depthAll (gT ds)<=n/\A8 ds<=(s+2)*ds.length
 |[],_=>⟨rfl,rfl,aaN _,ZY _⟩
 | d::ds,h=>by have h0:=h d k4;obtain⟨h1,h2,h3,h4⟩:=WK.all λx hx=>h x (fI _ hx);have dp:=h0.dp;have sg:=h0.sg;refine⟨by simp only[OF,h0.ok,h1,Bool.and_self],by simp only[kc,h0.sh,h2,Bool.and_self],by simp only[gT,PyData.depthAll];omega,?_⟩;simp only[A8,aa8,Nat.mul_add,Nat.mul_one];omega
theorem WK.int{i:Int}(h:i.natAbs<2^60):WK 0 602 (.int i):=⟨rfl,by simp only[iN];exact aaa (k5 h (ZN xp xp)),ZY 0,ZY _⟩
end My
set_option exponentiation.threshold 5000
namespace My
open PySem L2
noncomputable def Xp(a:WW):Nat:=min a.one a.other
noncomputable def Xq(R:aB)(k:Nat):Nat:=Xp (R.asks.getD k ⟨"",0,0,0⟩)
noncomputable def zp(R:aB)(k:Nat):Bool:=decide ((R.asks.getD k ⟨"",0,0,0⟩).one < (R.asks.getD k ⟨"",0,0,0⟩).other)
noncomputable def Xr(R:aB)(ks:List Nat)(g:Rat):Rat:=ks.foldl (λg k=>if g<R.sz k then R.sz k else g) g
noncomputable def gh(R:aB)(ks:List Nat):Rat:=Xr R ks 0*(1 / 2)
noncomputable def dZ(R:aB)(ps:List Rat)(k:Nat)(w:Bool):Rat:=(if w=zp R k then R.sz k else 0)-(if zp R k=true then ps.getD k 0 else R.sz k-ps.getD k 0)
noncomputable def Xs(R:aB)(ps:List Rat)(hf t:Rat)(k:Nat):Bool:=if hf<t+dZ R ps k (zp R k)then !zp R k else zp R k
noncomputable def Xu(R:aB)(ps:List Rat)(hf:Rat):Rat->List Bool->List Nat->List Bool
 |_,ws,[]=>ws
 |t,ws,k::os=>Xu R ps hf (t+dZ R ps k (Xs R ps hf t k)) (ws.set k (Xs R ps hf t k)) os
noncomputable def Xv(R:aB)(ps:List Rat):List Bool:=(R.asks.zip ps).map λx=>decide (x.2=x.1.size)
noncomputable def Xw(R:aB)(ps:List Rat)(ks:List Nat)(ws:List Bool)(k:Nat):Bool:=decide (k∈ks) ||decide (R.sz k=0) ||decide (ws.getD k true=decide (ps.getD k 0=R.sz k))
noncomputable def Xx(hf:Rat):Rat->List Rat->Bool
 |_,[]=>true
 |t,g::gs=>!(decide (hf<t+g) ||decide (t+g<0-hf)) && Xx hf (t+g) gs
noncomputable def Xy(R:aB)(ps:List Rat)(ws:List Bool)(os:List Nat):List Rat:=os.map λk=>dZ R ps k (ws.getD k true)
theorem Pp(R:aB)(k:Nat):R.asks.getD k ⟨"",0,0,0⟩=aS R k:=by unfold aS;rw[tu]
theorem zr(R:aB)(k:Nat):Xq R k=xf (aS R k):=by unfold Xq Xp xf;rw[Pp]
theorem JA(R:aB):∀(ks:List Nat)(g:Rat),g<=Xr R ks g/\∀k∈ks,R.sz k<=Xr R ks g
 |[],g=>⟨abj,λk h=>by cases h⟩
 | k::ks,g=>by
  obtain⟨h1,h2⟩:=JA R ks (if g<R.sz k then R.sz k else g)
  have e:Xr R (k::ks) g=Xr R ks (if g<R.sz k then R.sz k else g):=rfl
  rw[e]
  have a:g<=(if g<R.sz k then R.sz k else g)/\R.sz k<=(if g<R.sz k then R.sz k else g):=by
   split
   . rename_i h;exact⟨aby h,abj⟩
   . rename_i h;exact⟨abj,abo.mp h⟩
  refine⟨abq a.1 h1,λx hx=>?_⟩;rcases ZU.mp hx with rfl|hx
  . exact abq a.2 h1
  . exact h2 x hx
theorem Fz(R:aB)(ks:List Nat):gh R ks+gh R ks=Xr R ks 0:=by unfold gh;grind
theorem Pq(R:aB)(ks:List Nat):0<=gh R ks:=by have:=(JA R ks 0).1;have:=Fz R ks;grind
theorem Pu(R:aB)(ks:List Nat){k:Nat}(h:k∈ks):R.sz k<=gh R ks+gh R ks:=by rw[Fz];exact(JA R ks 0).2 k h
theorem Ny{R:aB}{ps:List Rat}{hf:Rat}:∀(os:List Nat)(t:Rat)(ws:List Bool),(Xu R ps hf t ws os).length=ws.length
 |[],_,_=>rfl
 | k::os,t,ws=>by show(Xu R ps hf _ (ws.set k _) os).length=_;rw[Ny,abg]
theorem JB{R:aB}{ps:List Rat}{hf:Rat}:∀(os:List Nat)(t:Rat)(ws:List Bool){j:Nat},j∉os->(Xu R ps hf t ws os).getD j true=ws.getD j true
 |[],_,_,_,_=>rfl
 | k::os,t,ws,j,h=>by show(Xu R ps hf _ (ws.set k _) os).getD j true=_;rw[JB os _ _ (λz=>h (fI _ z)),tu,aay (λz=>h (by simp[z])),tu]
theorem Pv{R:aB}{ps:List Rat}{k:Nat}(h0:0<=ps.getD k 0)(h1:ps.getD k 0<=R.sz k):0<=dZ R ps k (zp R k)/\dZ R ps k (!zp R k)=dZ R ps k (zp R k)-R.sz k/\dZ R ps k (!zp R k)<=0:=by unfold dZ;cases zp R k<;>simp<;>grind
theorem RL{R:aB}{ps:List Rat}{hf:Rat}:∀(os:List Nat)(t:Rat)(ws:List Bool),os.Nodup->(∀k∈os,k<ws.length/\0<=ps.getD k 0/\ps.getD k 0<=R.sz k/\R.sz k<=hf+hf)->0-hf<=t->t<=hf->Xx hf t (Xy R ps (Xu R ps hf t ws os) os)=true
 |[],_,_,_,_,_,_=>rfl
 | k::os,t,ws,hn,h,t0,t1=>by
  obtain⟨n1,n2⟩:=aav.mp hn;obtain⟨hk,p0,p1,s1⟩:=h k k4;obtain⟨g0,g1,g2⟩:=Pv p0 p1;have ew:(Xu R ps hf t ws (k::os)).getD k true=Xs R ps hf t k:=by show(Xu R ps hf _ (ws.set k _) os).getD k true=_;rw[JB os _ _ n1,tu,aax hk];rfl
  have eg:Xy R ps (Xu R ps hf t ws (k::os)) (k::os)=dZ R ps k (Xs R ps hf t k)::Xy R ps (Xu R ps hf (t+dZ R ps k (Xs R ps hf t k)) (ws.set k (Xs R ps hf t k)) os) os:=by show dZ R ps k _::_=_;rw[ew];rfl
  rw[eg]
  have b:0-hf<=t+dZ R ps k (Xs R ps hf t k)/\t+dZ R ps k (Xs R ps hf t k)<=hf:=by
   unfold Xs;split
   . grind
   . rename_i c;have:=abo.mp c;grind
  show(!(decide (hf<t+dZ R ps k (Xs R ps hf t k)) ||decide (t+dZ R ps k (Xs R ps hf t k)<0-hf)) && _)=true;rw[ZP (abo.mpr b.2),ZP (abo.mpr b.1)];exact RL os _ _ n2 (λj hj=>by rw[abg];exact h j (fI _ hj)) b.1 b.2
theorem Ms{R:aB}{qs:List Rat}{os:List Nat}(hc:Xk (Xj R) (Xm R qs)=none)(op:os.Perm (Xm R qs))(ow:os.Pairwise λi j=>Xq R i<=Xq R j) :
  os.Pairwise λi j=>xf (aS R i)<xf (aS R j)/\xf (aS R j)<jL (aS R i)/\jL (aS R i)<jL (aS R j):=by
 have hn:os.Nodup:=op.nodup_iff.mpr ((yt R qs).imp λh=>aar h);have cr:=Fs (yt R qs) hc;have ow2:os.Pairwise λi j=>Xq R i<=Xq R j/\i≠j:=List.Pairwise.and ow hn;refine List.Pairwise.imp_of_mem (λ{i j} hi hj h=>?_) ow2;obtain⟨h1,h2⟩:=h;rw[zr,zr]at h1
 have c:Xj R i j=true∨Xj R j i=true:=by
  rcases Nat.lt_or_gt_of_ne h2 with q|q
  . exact .inl (cr i j (op.mem_iff.mp hi) (op.mem_iff.mp hj) q)
  . exact .inr (cr j i (op.mem_iff.mp hj) (op.mem_iff.mp hi) q)
 unfold Xj So at c;simp only[Bool.or_eq_true,ZX]at c;omega
theorem Pw{R:aB}{qs:List Rat}(hS:gu R qs){os:List Nat}(op:os.Perm (Xm R qs))(hf:Rat):(List.range R.asks.length).all (Xw R qs (Xm R qs) (Xu R qs hf 0 (Xv R qs) os))=true:=by
 rw[aaP];intro k hk;have hk:=ZT.mp hk;have ql:=hS.len;unfold Xw;by_cases m:k∈Xm R qs
 . rw[aaa m];rfl
 .
  rw[JB os _ _ λz=>m (op.mem_iff.mp z)];have e:(Xv R qs).getD k true=decide (qs.getD k 0=R.sz k):=by unfold Xv;rw[tu,ZZ,gV (by rw[aaH];omega),abp,Bp hk,dE xL];rfl
  rw[e,aaa (rfl:decide (qs.getD k 0=R.sz k)=decide (qs.getD k 0=R.sz k)),Bool.or_true]
theorem Nz{R:aB}{qs:List Rat}(hS:gu R qs):(Xv R qs).length=R.asks.length:=by have:=hS.len;unfold Xv;rw[ZL,aaH];omega
theorem Px{R:aB}{qs:List Rat}(hS:gu R qs){os:List Nat}(op:os.Perm (Xm R qs)):Xx (gh R (Xm R qs)) 0 (Xy R qs (Xu R qs (gh R (Xm R qs)) 0 (Xv R qs) os) os)=true:=by have hn:os.Nodup:=op.nodup_iff.mpr ((yt R qs).imp λh=>aar h);have h0:=Pq R (Xm R qs);refine RL os 0 _ hn (λk hk=>?_) (by grind) h0;have hk':=(l5 (op.mem_iff.mp hk)).1;have lo:=hS.lo k hk';exact⟨by rw[Nz hS,<- hS.len];exact hk',lo.1,lo.2,Pu R _ (op.mem_iff.mp hk)⟩
theorem FC{f:Nat->Nat}:∀{as bs:List Nat},as.Pairwise (λi j=>f i<f j)->bs.Pairwise (λi j=>f i<=f j)->as.Perm bs->as=bs
 |[],bs,_,_,p=>(List.Perm.nil_eq p)
 |a::as,[],_,_,p=>absurd p.length_eq x_
 | a::as,b::bs,ha,hb,p=>by
  obtain⟨a1,a2⟩:=List.pairwise_cons.mp ha;obtain⟨b1,b2⟩:=List.pairwise_cons.mp hb
  have e:a=b:=by
   rcases ZU.mp (p.mem_iff.mp (k4 (a:=a) (l:=as)))with q|q
   . exact q
   .
    rcases ZU.mp (p.mem_iff.mpr (k4 (a:=b) (l:=bs)))with r|r
    . exact r.symm
    . have:=a1 b r;have:=b1 a q;omega
  subst e;rw[FC a2 b2 p.cons_inv]
theorem Py{R:aB}{qs:List Rat}{os os':List Nat}(hc:Xk (Xj R) (Xm R qs)=none)(op:os.Perm (Xm R qs))(ow:os.Pairwise λi j=>Xq R i<=Xq R j)(op':os'.Perm (Xm R qs))(ow':os'.Pairwise λi j=>Xq R i<=Xq R j):os=os':=by refine FC (f:=Xq R) ((Ms hc op ow).imp λh=>?_) ow' (op.trans op'.symm);rw[zr,zr];exact h.1
end My
set_option exponentiation.threshold 5000
namespace My
open PySem L2
noncomputable def Xz(ps:List Rat)(d:D):List Rat:=match xg d with
 |some s=>Xf ps s
 |none=>ps
noncomputable def sV(R:aB)(ps:List Rat)(ss:List D):List Rat:=ss.foldl Xz ps
noncomputable def Bw(R:aB):Nat->List Rat->List D->Option Nat
 |_,_,[]=>none
 |i,ps,d::ss=>if Xn R ps d then Bw R (i+1) (Xz ps d) ss else some i
theorem JC{R:aB}{ps:List Rat}{s:iH}(h:gu R ps)(hk:s.k<ps.length)(hl:s.l<ps.length)(e:Wv R ps s=true):RK R ps s:=by unfold Wv at e;simp only[Z5,Bool.not_eq_true',decide_eq_false_iff_not,ZX]at e;obtain⟨e1,_,e3,e4⟩:=e;obtain⟨m1,m2,m3,_⟩:=h.ms hk hl s.kw s.lw;have le:=abo.mp e4;exact⟨hk,hl,e1,aby e3,abq le m2,abq le m3⟩
structure XA (R:aB) (ps:List Rat) (D:Nat):Prop where
 ok:gu R ps
 d0:0<D
 d1:D<2^1500
 da:∀a∈R.asks,a.size.den∣D
 dp:∀p∈ps,p.den∣D
theorem XA.slid{R:aB}{ps:List Rat}{D:Nat}{s:iH}(h:XA R ps D)(hs:RK R ps s)(dm:s.am.den∣D):XA R (Xf ps s) D:=by
 have dk:∀k,k<ps.length->(ps.getD k 0).den∣D:=λk hk=>h.dp _ (by rw[dE hk];exact ZM hk)
 have db:∀(k:Nat)(w:Bool),k<ps.length->(Xe (ps.getD k 0) w s.am).den∣D:=λk w hk=>by
  unfold Xe;cases w
  . exact vz h.d0 (dk k hk) dm
  . exact vx h.d0 (dk k hk) dm
 have dp':∀p∈Xf ps s,p.den∣D:=λp hp=>by
  obtain⟨i,hi,rfl⟩:=aaZ hp;rw[<- dE hi,Bs hs.k hs.l hs.kl];rw[l6]at hi;split
  . exact db _ _ hs.k
  .
   split
   . exact db _ _ hs.l
   . exact dk i hi
 refine⟨⟨h.ok.ok,by rw[l6];exact h.ok.len,λi hi=>?_,D,h.d0,h.d1,h.da,dp'⟩,h.d0,h.d1,h.da,dp'⟩;rw[l6]at hi;rw[Bs hs.k hs.l hs.kl];split
 . rename_i e;subst e;exact Ft (h.ok.lo _ hs.k).1 (h.ok.lo _ hs.k).2 hs.nn hs.kn
 .
  split
  . rename_i e;subst e;exact Ft (h.ok.lo _ hs.l).1 (h.ok.lo _ hs.l).2 hs.nn hs.ln
  . exact h.ok.lo i hi
theorem NA{R:aB}{ps:List Rat}(h:gu R ps):∀p∈ps,RB 4000 p:=λp hp=>by obtain⟨i,hi,rfl⟩:=aaZ hp;rw[<- dE hi];exact(h.rb hi).mono xp
theorem JD{R:aB}{ss:List D}{j:Nat}{qs:List Rat}(h:j<ss.length):Bw R j qs (ss.drop j)=if Xn R qs ss[j]then Bw R (j+1) (Xz qs ss[j]) (ss.drop (j+1))else some j:=by rw[aaB h];rfl
theorem Mt{ss:List D}{j:Nat}{x:D}(hj:(eG ss)[j]?=some x):∃h:j<ss.length,x=.tup [.int (j:Int),ss[j]]:=by
 have hj':j<ss.length:=by have:=(so.mp hj).1;simpa[eG]using this
 refine⟨hj',?_⟩;have:(eG ss)[j]?=some (.tup [.int (j:Int),ss[j]]):=by simp[eG,hj']
 rw[this]at hj;exact(aaf hj).symm
theorem NB{R:aB}{M:Nat}:∀(ss:List D)(i:Nat)(ps:List Rat),XA R ps M->(∀u∈ss,∀s,xg u=some s->RB 4000 s.am/\s.am.den∣M)->Bw R i ps ss=none->XA R (sV R ps ss) M
 |[],_,_,h,_,_=>h
 | d::ss,i,ps,h,ha,hb=>by
  unfold Bw at hb
  cases e:Xn R ps d with
  |false=>rw[e]at hb;cases hb
  | true =>
   rw[e,if_pos rfl]at hb;obtain⟨s,es,hk,hl,e'⟩:=Nw e;have es':xg d=some s:=by rw[es];exact rC s
   have st:Xz ps d=Xf ps s:=by unfold Xz;rw[es']
   show XA R (sV R (Xz ps d) ss) M;rw[st]at hb ⊢;exact NB ss (i+1) _ (h.slid (JC h.ok hk hl e') (ha d k4 s es').2) (λu hu=>ha u (fI _ hu)) hb
theorem RM(R:aB)(ks:List Nat):∃os:List Nat,os.Perm ks/\os.Pairwise λi j=>Xq R i<=Xq R j:=by refine⟨ks.mergeSort λi j=>decide (Xq R i<=Xq R j),List.mergeSort_perm _ _,?_⟩;have:=List.pairwise_mergeSort (le:=λi j=>decide (Xq R i<=Xq R j)) (λa b c h1 h2=>by simp only[ZX]at *;omega) (λa b=>by simp only[Bool.or_eq_true,ZX];omega) ks;exact this.imp λh=>by simpa using h
theorem JE{R:aB}{qs:List Rat}(hS:gu R qs):(Xm R qs).length<=20/\∀k∈Xm R qs,k<R.asks.length:=by refine⟨?_,λk hk=>by rw[<- hS.len];exact(l5 hk).1⟩;unfold Xm;refine ZR (aaM _ _) ?_;rw[aac,hS.len];exact hS.ok.few
theorem Dn{R:aB}{D:Nat}:∀(m i:Nat)(qs:List Rat),XA R qs D->Bw R i qs ((xu R m qs).map Xa)=none/\sV R qs ((xu R m qs).map Xa)=yu R m qs/\XA R (yu R m qs) D
 |0,_,_,h=>⟨rfl,rfl,h⟩
 | m+1,i,qs,h=>by
  unfold xu yu
  cases e:Bt R qs with
  |none=>exact⟨rfl,rfl,h⟩
  | some u =>
   obtain⟨h1,h2,_⟩:=qx h.ok e;have ha:=Jz h.ok e h.d0 h.da h.dp;have st:Xz qs (Xa u)=Xf qs u:=by unfold Xz;rw[rC]
   obtain⟨r1,r2,r3⟩:=Dn m (i+1) (Xf qs u) (h.slid h1 ha);refine⟨?_,?_,r3⟩
   .
    show(if Xn R qs (Xa u)then Bw R (i+1) (Xz qs (Xa u)) _ else some i)=none
    rw[Nv h1.k h1.l,h2,if_pos rfl,st];exact r1
   . show sV R (Xz qs (Xa u)) _=_;rw[st];exact r2
theorem JF{R:aB}{D:Nat}:∀(m:Nat)(qs:List Rat),XA R qs D->∀s∈xu R m qs,RB 4000 s.am/\s.am.den∣D
 |0,_,_,s,hs=>by cases hs
 | m+1,qs,h,s,hs=>by
  unfold xu at hs
  cases e:Bt R qs with
  |none=>rw[e]at hs;cases hs
  | some u =>
   rw[e]at hs;obtain⟨h1,_,_,_,h5,_⟩:=qx h.ok e;have ha:=Jz h.ok e h.d0 h.da h.dp;rcases ZU.mp hs with rfl|hs
   . exact⟨h5,ha⟩
   . exact JF m (Xf qs u) (h.slid h1 ha) s hs
theorem JG{R:aB}{ps:List Rat}(hS:gu R ps):Xk (Xj R) (Xm R (yu R 20 ps))=none:=by refine Mn (Fy 20 ps hS ?_);refine ZR (aaM _ _) ?_;rw[aac,hS.len];exact hS.ok.few
theorem RN{R:aB}{ps:List Rat}(hS:gu R ps):(xu R 20 ps).length<=20:=by refine ZR (Dm 20 ps hS) (ZR (aaM _ _) ?_);rw[aac,hS.len];exact hS.ok.few
theorem RO{ss:List iH}{M:Nat}(h:∀s∈ss,RB 4000 s.am/\s.am.den∣M):∀u∈ss.map Xa,∀s,xg u=some s->RB 4000 s.am/\s.am.den∣M:=λu hu s es=>by obtain⟨x,hx,rfl⟩:=ZW.mp hu;rw[rC]at es;cases es;exact h _ hx
end My
set_option exponentiation.threshold 1000
namespace Hd
open PySem PySem.W PyProof.Rows
noncomputable abbrev pr:Program:=PySem.Challenge.pw_ringloads_k28_rings_at_their_bounds
noncomputable def top(i:Nat):Stmt:=pr.main.body.getD i (.Pass ⟨0,0,0,0⟩)
noncomputable def Mu(st:Stmt)(j:Nat):Stmt:=match st with
 |.ClassDef _ _ _ b ..=>b.getD j (.Pass ⟨0,0,0,0⟩)
 |_=>.Pass ⟨0,0,0,0⟩
noncomputable def JH(s:Stmt):Str:=match s with
 |.FunctionDef n ..=>n
 |_=>""
noncomputable def RP(s:Stmt):Arguments:=match s with
 |.FunctionDef _ a _ _ _ _ _ _ _ _=>a
 |_=>{posonlyargs:=[],args:=[],vararg:=none,kwonlyargs:=[],kw_defaults:=[],kwarg:=none,defaults:=[] }
noncomputable def Tb(s:Stmt):List Stmt:=match s with
 |.FunctionDef _ _ b _ _ _ _ _ _ _=>b
 |_=>[]
noncomputable def RQ(s:Stmt):Scope:=match s with
 |.FunctionDef _ _ _ _ _ _ sc _ _ _=>sc
 |_=>{kind:=.function,names:=[],isGenerator:=false,isCoroutine:=false}
noncomputable def Ut(s:Stmt):Pos:=match s with
 |.FunctionDef _ _ _ _ _ _ _ _ _ p=>p
 |_=>⟨0,0,0,0⟩
noncomputable def NC (st:Stmt) (q:Str) (g:Addr) (md cd:Value):FuncData:={ name:=JH st,qualname:=q,params:=RP st,body:=.stmts (Tb st),scope:=RQ st,globals:=g,closure:=[],defaults:=.none,kwdefaults:=.none,doc:=.none,pyModule:=md,annotations:=none,code:=cd,closureTuple:=.none,builtins:=0 }
noncomputable def kh(P:Params)(x:Str):Int:=PySem.PyData.keyHash P x
noncomputable abbrev ad9(P:Params)(x:Str)(n:Nat)(v:Value):DictEntry:=⟨kh P x,.str x n,v⟩
noncomputable abbrev aea(l:Array Value):Obj:=⟨.type "tuple",none,.seq l 0,#[]⟩
noncomputable abbrev aeb(x:String)(l:Array Value):Obj:=⟨.type x,none,.fields l,#[]⟩
noncomputable abbrev aec(l:Array Value):Obj:=⟨.none,none,.fields l,#[]⟩
noncomputable abbrev aed(l:Array DictEntry)(n:Nat):Obj:=⟨.type "dict",none,.dict l n,#[]⟩
noncomputable abbrev aeq(n:Nat):Value:=.str "/claim/cut.py" n
noncomputable def RR(vs:List Value):Obj:=⟨.type "tuple",none,.seq vs.toArray 0,#[]⟩
noncomputable def Ct(vs:List Value):Obj:=⟨.none,none,.fields vs.toArray,#[]⟩
noncomputable def Uu:Nat->List Str->List Value
 |_,[]=>[]
 |t,x::r=>.str x t::Uu (t+1) r
noncomputable def RS(st:Stmt)(a t:Nat)(v1 v2:Value)(tm u:Nat):Obj:=⟨.type "code",none,.fields #[.str (JH st) t,.str (JH st) (t+1),.str "/claim/cut.py" (t+2),.int (Ut st).line 0,.int (RP st).args.length 0,.int 0 0,.int 0 0,.int 3 0,.ref a,.bool true,.int 181 0,.ref (a+1),.none,v1,v2,.ref tm,.int u 0,.int (Ut st).line 0,.str "/claim/cut.py" (u+1)],#[]⟩
noncomputable def XB(st:Stmt)(md:Value)(cd:Nat):Obj:=⟨.type "function",none,.func (NC st (JH st) 3 md (.ref cd)),#[]⟩
noncomputable def XC(st:Stmt):Obj:=⟨.none,none,.func (NC st (JH st) 0 .none .none),#[]⟩
noncomputable def aY(st:Stmt)(a t:Nat)(vs:List Str)(md:Value):List Obj:=[RR [],Ct [],RR (Uu (t+3) vs),RR [],XC st,RS st a t (.ref (a+2)) (.ref (a+3)) (a+4) (t+3+vs.length),XB st md (a+5)]
noncomputable def iI(st:Stmt)(a t:Nat)(md:Value):List Obj:=[RR [],Ct [],XC st,RS st a t .none .none (a+2) (t+3),XB st md (a+3)]
noncomputable def tY (P:Params) (nm:Value) (es:List DictEntry) (n:Nat):Obj:=⟨.type "dict",none,.dict (([⟨kh P "__name__",.str "__name__" 165,nm⟩,⟨kh P "__doc__",.str "__doc__" 166,.none⟩,⟨kh P "__package__",.str "__package__" 167,.none⟩,⟨kh P "__loader__",.str "__loader__" 168,.builtin "__main__.__loader__#opaque"⟩,⟨kh P "__spec__",.str "__spec__" 169,.none⟩,⟨kh P "__annotations__",.str "__annotations__" 170,.ref 6⟩,⟨kh P "__builtins__",.str "__builtins__" 171,.ref 4⟩,⟨kh P "__file__",.str "__file__" 173,.str "/claim/cut.py" 172⟩,⟨kh P "__cached__",.str "__cached__" 174,.none⟩]:List DictEntry)++es).toArray n,#[]⟩
noncomputable def U4:Obj:=⟨.type "code",none,.fields #[.str "<module>" 182,.str "<module>" 183,.str "/claim/cut.py" 184,.int 1 0,.int 0 0,.int 0 0,.int 0 0,.int 0 0,.ref 11,.bool false,.int 181 0,.ref 12,.none,.none,.none,.none,.int 185 0,.int 1 0,.str "/claim/cut.py" 186],#[]⟩
noncomputable def U5:Obj:=⟨.type "frame",none,.plain,#[some (.ref 13),some (.ref 3),some (.ref 3),none,some (.str "__main__" 164),none,some (.ref 0)]⟩
noncomputable def Pz(P:Params):List Obj:=[boot_o_0 P,boot_o_1 P,boot_o_2 P,boot_o_3 P,boot_o_4 P,boot_o_5 P,boot_o_6 P,boot_o_7 P,boot_o_8 P,boot_o_9 P,boot_o_10 P,RR [],Ct [],U4,U5]
noncomputable def nH:Life:=⟨[],[],[],0,[],[],false,#[],[],0,false,false,false,0,[2000,10,10],false,0,true,[],[],0,false⟩
noncomputable def Tc(l:List (Nat×Obj))(b:Nat):Option Obj:=@List.rec (Nat×Obj) (λ_=>Option Obj) none (λx _ ih=>bif Nat.beq x.1 b then some x.2 else ih) l
noncomputable def RT(P:Params)(ob:Params->Nat->Obj)(b:Nat):Obj:=bif b.blt 15 then(Pz P).getD b default else ob P b
noncomputable def U6(l:List Nat)(b:Nat):Bool:=@List.rec Nat (λ_=>Bool) false (λx _ ih=>@Bool.rec (λ_=>Bool) ih true (Nat.beq x b)) l
noncomputable def Gp(ks:List Nat)(P:Params)(ov:List (Nat×Obj))(ob:Params->Nat->Obj)(b j:Nat):Obj:=@Bool.rec (λ_=>Obj) (RT P ob b) ((Tc ov b).getD default) (U6 ks b)
noncomputable def L0(n:Nat)(f:Nat->Obj)(a b j:Nat):BT:=.nil
noncomputable def aer(g:Nat->(Nat->Obj)->Nat->Nat->Nat->BT)(n:Nat)(f:Nat->Obj)(a b j:Nat):BT:=@Bool.rec (λ_=>BT) .nil (.node (f b) (g n f (2*a) (a+b) j) (g n f (2*a) (2*a+b) j)) (b.blt n)
noncomputable def L1:=aer L0
noncomputable def L2:=aer L1
noncomputable def L3:=aer L2
noncomputable def L4:=aer L3
noncomputable def L5:=aer L4
noncomputable def L6:=aer L5
noncomputable def L7:=aer L6
noncomputable def L8:=aer L7
noncomputable def L9:=aer L8
noncomputable def XE:=aer L9
noncomputable def XG:=aer XE
noncomputable def XH:=aer XG
theorem lB{p:Program}{w:World}{m:Nat}{ann:Option Value}{b n:Nat}{s:SharedT}{t:Thread}{r:Option (Flow×SharedT×Code×Pos)}(h:Fast.tw10110043849684766642 Fast.tw14364793385576792824 p w m ann b n s t=r):segRunT treeTable p w m ann b n s t=r:=by rw[Fast.te10110043849684766642,abx];exact h
theorem RU{p:Program}{w:World}{m:Nat}{ann:Option Value}{n:Nat}{s:Shared}{t:Thread}{r:Option Shared}(h:Fast.tw14082659384304107361 Fast.tw14364793385576792824 p w m ann n s t=r):topRun treeTable p w m ann n s t=r:=by rw[Fast.te14082659384304107361,abx];exact h
theorem RV:denote treeTable=Fast.tw11892475500146522536 Fast.tw14364793385576792824:=by rw[<- Fast.te11892475500146522536,<- abx]
theorem Td{p:Program}{w:World}{m:Nat}{ann:Option Value}{n:Nat}{s:Shared}{t:Thread}{r:Option (Shared×Thread)}(h:Fast.tw15667345088766844465 Fast.tw14364793385576792824 p w m ann n s t=r):topGo treeTable p w m ann n s t=r:=by rw[Fast.te15667345088766844465,abx];exact h
theorem PD{b b':List Stmt}(e:b=b'){tb:String->Option Builtin}{p:Program}{w:World}{m:Nat}{ann:Option Value}{n:Nat}{s:Shared}{env:Env}{c:Code}{ps:Pos}{B:List Frame}{r:Option Shared}(h:topRun tb p w m ann n s (restOf b' env c ps B)=r):topRun tb p w m ann n s (restOf b env c ps B)=r:=by rw[e];exact h
noncomputable def f1(P:Params):List Obj:=aY (top 1) 15 189 ["one","other","rest"] (.str "ringloads.divisors" 187)
noncomputable def f2(P:Params):List Obj:=aY (top 2) 22 198 ["one","other"] (.str "ringloads.divisors" 187)
noncomputable def f4(P:Params):List Obj:=aY (top 4) 29 208 ["thing"] aeo
noncomputable def f5(P:Params):List Obj:=aY (top 5) 36 215 ["thing","many"] aeo
noncomputable def f6(P:Params):List Obj:=aY (top 6) 43 223 ["thing"] aeo
noncomputable def f7(P:Params):List Obj:=aY (top 7) 50 230 ["thing"] aeo
noncomputable def f9(P:Params):List Obj:=[(aea #[(.type "ValueError")]),
 (aeb "builtin_function_or_method" #[(.builtin "type.__prepare__"),(.type "type")]),
 (aed #[(ad9 P "__module__" 246 aef),(ad9 P "__qualname__" 248 (.str "LoadError" 247)),(ad9 P "__firstlineno__" 250 (.int 20 249)),(ad9 P "__init__" 258 (.ref 70)),(ad9 P "__static_attributes__" 259 (.ref 71))] 5),
 (aea #[]),
 (aec #[(.int 22 0),(.int 4 0),(.ref 69)]),
 (aeb "code" #[(.str "LoadError" 241),(.str "LoadError" 242),(aeq 243),(.int 20 0),(.int 0 0),(.int 0 0),(.int 0 0),(.int 0 0),(.ref 60),(.bool false),(.int 181 0),(.ref 61),.none,.none,.none,.none,(.int 244 0),(.int 20 0),(aeq 245)]),
 (.mk (.type "frame") none .plain #[(some (.ref 62)),(some (.ref 3)),(some (.ref 59)),none,(some aef),none,(some (.ref 0))]),
 (aea #[]),
 (aec #[]),
 (aea #[(.str "self" 254),(.str "text" 255)]),
 (aea #[]),
 (.mk .none none (.func (NC (Mu (top 9) 0) "LoadError.__init__" 0 .none .none)) #[]),
 (aeb "code" #[(.str "__init__" 251),(.str "LoadError.__init__" 252),(aeq 253),(.int 22 0),(.int 2 0),(.int 0 0),(.int 0 0),(.int 3 0),(.ref 64),(.bool true),(.int 181 0),(.ref 65),.none,(.ref 66),(.ref 67),(.ref 68),(.int 256 0),(.int 22 0),(aeq 257)]),
 (.mk (.type "function") none (.func (NC (Mu (top 9) 0) "LoadError.__init__" 3 aef (.ref 69))) #[]),
 (aea #[]),
 (aed #[(ad9 P "__module__" 246 aef),(ad9 P "__firstlineno__" 250 (.int 20 249)),(ad9 P "__init__" 258 (.ref 70)),(ad9 P "__static_attributes__" 259 (.ref 71)),(ad9 P "__weakref__" 261 (.ref 74)),(ad9 P "__doc__" 262 .none)] 3),
 (.mk (.type "type") none (.cls (.mk "LoadError" [(.type "ValueError")] [(.ref 73),(.type "ValueError"),(.type "Exception"),(.type "BaseException"),(.type "object")] 72 "LoadError" true [] [(.ref 86),(.ref 105)] false none false)) #[(some (.ref 57)),none,(some (.str "LoadError" 239)),(some (.str "LoadError" 247)),(some (.builtin "ValueError.__new__")),(some (.bool true))]),
 (aeb "getset_descriptor" #[(.str "__weakref__" 260),(.ref 73),(.builtin "ExceptionGroup.__weakref__"),.none]),
 (aeb "super" #[(.ref 73),(.ref 73),(.ref 73)]),
 (aeb "builtin_function_or_method" #[(.builtin "object.__init_subclass__"),(.ref 73)])]
noncomputable def XI(P:Params):List Obj:=[(aea #[(.ref 73)]),
 (aeb "builtin_function_or_method" #[(.builtin "type.__prepare__"),(.type "type")]),
 (aed #[(ad9 P "__module__" 272 aef),(ad9 P "__qualname__" 274 (.str "NoNumber" 273)),(ad9 P "__firstlineno__" 276 (.int 24 275)),(ad9 P "__static_attributes__" 277 (.ref 84))] 4),
 (aea #[]),
 (aec #[]),
 (aeb "code" #[(.str "NoNumber" 267),(.str "NoNumber" 268),(aeq 269),(.int 24 0),(.int 0 0),(.int 0 0),(.int 0 0),(.int 0 0),(.ref 80),(.bool false),(.int 181 0),(.ref 81),.none,.none,.none,.none,(.int 270 0),(.int 24 0),(aeq 271)]),
 (.mk (.type "frame") none .plain #[(some (.ref 82)),(some (.ref 3)),(some (.ref 79)),none,(some aef),none,(some (.ref 0))]),
 (aea #[]),
 (aed #[(ad9 P "__module__" 272 aef),(ad9 P "__firstlineno__" 276 (.int 24 275)),(ad9 P "__static_attributes__" 277 (.ref 84)),(ad9 P "__doc__" 278 .none)] 2),
 (.mk (.type "type") none (.cls (.mk "NoNumber" [(.ref 73)] [(.ref 86),(.ref 73),(.type "ValueError"),(.type "Exception"),(.type "BaseException"),(.type "object")] 85 "NoNumber" true [] [] false none false)) #[(some (.ref 77)),none,(some (.str "NoNumber" 265)),(some (.str "NoNumber" 273)),(some (.builtin "ValueError.__new__")),(some (.bool true))]),
 (aeb "super" #[(.ref 86),(.ref 86),(.ref 86)]),
 (aeb "builtin_function_or_method" #[(.builtin "object.__init_subclass__"),(.ref 86)])]
noncomputable def XJ(P:Params):List Obj:=[(aea #[(.ref 73)]),
 (aeb "builtin_function_or_method" #[(.builtin "type.__prepare__"),(.type "type")]),
 (aed #[(ad9 P "__module__" 288 aef),(ad9 P "__qualname__" 290 (.str "NoSlide" 289)),(ad9 P "__firstlineno__" 292 (.int 26 291)),(ad9 P "__init__" 300 (.ref 102)),(ad9 P "__static_attributes__" 302 (.ref 103))] 5),
 (aea #[]),
 (aec #[(.int 28 0),(.int 4 0),(.ref 101)]),
 (aeb "code" #[(.str "NoSlide" 283),(.str "NoSlide" 284),(aeq 285),(.int 26 0),(.int 0 0),(.int 0 0),(.int 0 0),(.int 0 0),(.ref 92),(.bool false),(.int 181 0),(.ref 93),.none,.none,.none,.none,(.int 286 0),(.int 26 0),(aeq 287)]),
 (.mk (.type "frame") none .plain #[(some (.ref 94)),(some (.ref 3)),(some (.ref 91)),none,(some aef),none,(some (.ref 0))]),
 (aea #[]),
 (aec #[]),
 (aea #[(.str "self" 296),(.str "number" 297)]),
 (aea #[]),
 (.mk .none none (.func (NC (Mu (top 11) 0) "NoSlide.__init__" 0 .none .none)) #[]),
 (aeb "code" #[(.str "__init__" 293),(.str "NoSlide.__init__" 294),(aeq 295),(.int 28 0),(.int 2 0),(.int 0 0),(.int 0 0),(.int 3 0),(.ref 96),(.bool true),(.int 181 0),(.ref 97),.none,(.ref 98),(.ref 99),(.ref 100),(.int 298 0),(.int 28 0),(aeq 299)]),
 (.mk (.type "function") none (.func (NC (Mu (top 11) 0) "NoSlide.__init__" 3 aef (.ref 101))) #[]),
 (aea #[(.str "number" 301)]),
 (aed #[(ad9 P "__module__" 288 aef),(ad9 P "__firstlineno__" 292 (.int 26 291)),(ad9 P "__init__" 300 (.ref 102)),(ad9 P "__static_attributes__" 302 (.ref 103)),(ad9 P "__doc__" 303 .none)] 2),
 (.mk (.type "type") none (.cls (.mk "NoSlide" [(.ref 73)] [(.ref 105),(.ref 73),(.type "ValueError"),(.type "Exception"),(.type "BaseException"),(.type "object")] 104 "NoSlide" true [] [] false none false)) #[(some (.ref 89)),none,(some (.str "NoSlide" 281)),(some (.str "NoSlide" 289)),(some (.builtin "ValueError.__new__")),(some (.bool true))]),
 (aeb "super" #[(.ref 105),(.ref 105),(.ref 105)]),
 (aeb "builtin_function_or_method" #[(.builtin "object.__init_subclass__"),(.ref 105)])]
noncomputable def XM(P:Params):List Obj:=[(aea #[(.int 0 308),(.int 1 309)])]
noncomputable def XN(P:Params):List Obj:=aY (top 14) 109 311 ["top","bottom","shared"] aeh
noncomputable def XQ(P:Params):List Obj:=aY (top 15) 116 320 ["top","bottom"] aeh
noncomputable def XR(P:Params):List Obj:=aY (top 16) 123 328 ["one","other"] aeh
noncomputable def XS(P:Params):List Obj:=aY (top 17) 130 336 ["one","other"] aeh
noncomputable def XT(P:Params):List Obj:=aY (top 18) 137 344 ["one","other"] aeh
noncomputable def XU(P:Params):List Obj:=aY (top 19) 144 352 ["one","other"] aeh
noncomputable def XW(P:Params):List Obj:=aY (top 20) 151 360 ["one","other"] aeh
noncomputable def XX(P:Params):List Obj:=aY (top 21) 158 368 ["one","other"] aeh
noncomputable def XY(P:Params):List Obj:=aY (top 22) 165 376 ["one","other"] aeh
noncomputable def XZ(P:Params):List Obj:=aY (top 23) 172 384 ["some","whole","one"] aeh
noncomputable def X0(P:Params):List Obj:=aY (top 25) 179 395 ["ring","thing"] aej
noncomputable def X1(P:Params):List Obj:=aY (top 26) 186 403 ["cut","place"] aej
noncomputable def X2(P:Params):List Obj:=aY (top 27) 193 411 ["cut","one","other"] aej
noncomputable def X3(P:Params):List Obj:=iI (top 28) 200 420 aej
noncomputable def X4(P:Params):List Obj:=aY (top 29) 205 426 ["ring","cut"] aej
noncomputable def X5(P:Params):List Obj:=aY (top 30) 212 434 ["ring","cut"] aej
noncomputable def X6(P:Params):List Obj:=iI (top 31) 219 442 aej
noncomputable def X7(P:Params):List Obj:=iI (top 32) 224 448 aej
noncomputable def X8(P:Params):List Obj:=aY (top 33) 229 454 ["ring","found","cut","shown"] aej
noncomputable def X9(P:Params):List Obj:=aY (top 37) 236 470 ["thing"] (.str "ringloads.ways" 464)
noncomputable def Yb(P:Params):List Obj:=aY (top 38) 243 477 ["way"] (.str "ringloads.ways" 464)
noncomputable def Yc(P:Params):List Obj:=iI (top 39) 250 484 (.str "ringloads.ways" 464)
noncomputable def Yd(P:Params):List Obj:=aY (top 40) 255 490 ["ring","k","way","tie","places","one","other","lies_on"] (.str "ringloads.ways" 464)
noncomputable def Ye(P:Params):List Obj:=aY (top 42) 262 506 ["ring","sending","k","tie"] ael
noncomputable def Yg(P:Params):List Obj:=iI (top 43) 269 516 ael
noncomputable def Yh(P:Params):List Obj:=iI (top 44) 274 522 ael
noncomputable def Yi(P:Params):List Obj:=iI (top 45) 279 528 ael
noncomputable def Yj(P:Params):List Obj:=aY (top 46) 284 534 ["ring","sending","strains","top","tie","strain"] ael
noncomputable def Yk(P:Params):List Obj:=iI (top 48) 291 548 aep
noncomputable def Yl(P:Params):List Obj:=aY (top 49) 296 554 ["some","bottom","one"] aep
noncomputable def Ym(P:Params):List Obj:=iI (top 50) 303 563 aep
noncomputable def Yn(P:Params):List Obj:=aY (top 52) 308 571 ["ring","top","greatest"] aek
noncomputable def Yo(P:Params):List Obj:=aY (top 53) 315 580 ["ring","top","scale","waiting","free","sending","k","size","part"] aek
noncomputable def Yp(P:Params):List Obj:=aY (top 54) 322 595 ["ring","k","waiting","free","ties","twice","g","h"] aek
noncomputable def Yq(P:Params):List Obj:=iI (top 55) 329 609 aek
noncomputable def Yr(P:Params):List Obj:=iI (top 56) 334 615 aek
noncomputable def Ys(P:Params):List Obj:=aY (top 57) 339 621 ["ring","one","other","top","greatest","most","cut","size"] aek
noncomputable def Yt(P:Params):List Obj:=aY (top 58) 346 635 ["ring","cut","top"] aek
noncomputable def Yu(P:Params):List Obj:=aY (top 60) 353 646 ["ring","some","k","part"] (.str "ringloads.sendings" 644)
noncomputable def Yv(P:Params):List Obj:=iI (top 61) 360 656 (.str "ringloads.sendings" 644)
noncomputable def Yw(P:Params):List Obj:=iI (top 62) 365 662 (.str "ringloads.sendings" 644)
noncomputable def Yx(P:Params):List Obj:=aY (top 64) 370 670 ["ring","greatest"] aem
noncomputable def Yy(P:Params):List Obj:=aY (top 65) 377 678 ["ring","thing"] aem
noncomputable def Yz(P:Params):List Obj:=aY (top 66) 384 686 ["ring","thing","top"] aem
noncomputable def YA(P:Params):List Obj:=aY (top 67) 391 695 ["ring","thing","top"] aem
noncomputable def YB(P:Params):List Obj:=aY (top 69) 398 706 ["ring","k"] aen
noncomputable def YC(P:Params):List Obj:=aY (top 70) 405 714 ["ring","k"] aen
noncomputable def YD(P:Params):List Obj:=aY (top 71) 412 722 ["ring","k","l","low","high","first","last"] aen
noncomputable def YE(P:Params):List Obj:=iI (top 72) 419 735 aen
noncomputable def YF(P:Params):List Obj:=aY (top 73) 424 741 ["ring","some","number","k","l"] aen
noncomputable def YG(P:Params):List Obj:=aY (top 75) 431 754 ["ring","sending","thing","slid","number","slide"] aeg
noncomputable def YH(P:Params):List Obj:=aY (top 76) 438 766 ["ring","sending","thing"] aeg
noncomputable def YI(P:Params):List Obj:=aY (top 77) 445 775 ["thing","asks"] aeg
noncomputable def YJ(P:Params):List Obj:=iI (top 78) 452 783 aeg
noncomputable def YK(P:Params):List Obj:=aY (top 79) 457 789 ["ring","sending","k","way"] aeg
noncomputable def YL(P:Params):List Obj:=aY (top 80) 464 799 ["ring","sending","slide"] aeg
noncomputable def YM(P:Params):List Obj:=aY (top 81) 471 808 ["sending","slide","slid"] aeg
noncomputable def YN(P:Params):List Obj:=aY (top 82) 478 817 ["part","way","amount"] aeg
noncomputable def YO(P:Params):List Obj:=aY (top 83) 485 826 ["ring","sending","slid","slides","pair","slide"] aeg
noncomputable def YQ(P:Params):List Obj:=aY (top 84) 492 838 ["ring","sending","k","l","ways","slide"] aeg
noncomputable def YR(P:Params):List Obj:=aY (top 85) 499 850 ["ring","k","l","ways"] aeg
noncomputable def YS(P:Params):List Obj:=[(aea #[(.int 1 862),(.int 2 863)])]
noncomputable def YT(P:Params):List Obj:=aY (top 88) 507 865 ["ring","sending","thing","slid","parted"] aei
noncomputable def YU(P:Params):List Obj:=aY (top 89) 514 876 ["ring","slid","parted","ways","k","ask"] aei
noncomputable def YV(P:Params):List Obj:=aY (top 90) 521 888 ["ask","part"] aei
noncomputable def YW(P:Params):List Obj:=aY (top 91) 528 896 ["ring","slid","parted","ways","half","whole","k"] aei
noncomputable def YX(P:Params):List Obj:=aY (top 92) 535 909 ["ring","some","greatest","k"] aei
noncomputable def YY(P:Params):List Obj:=[(aea #[]),
 (aec #[]),
 (aea #[(.str "ring" 922),(.str "some" 923)]),
 (aea #[(.str "ring" 924)]),
 (.mk .none none (.func (NC (top 93) "by_lesser_place" 0 .none .none)) #[]),
 (aeb "code" #[(.str "by_lesser_place" 919),(.str "by_lesser_place" 920),(aeq 921),(.int 315 0),(.int 2 0),(.int 0 0),(.int 0 0),(.int 3 0),(.ref 542),(.bool true),(.int 181 0),(.ref 543),.none,(.ref 544),(.ref 545),(.ref 546),(.int 925 0),(.int 315 0),(aeq 926)]),
 (.mk (.type "function") none (.func (NC (top 93) "by_lesser_place" 3 aei (.ref 547))) #[])]
noncomputable def YZ(P:Params):List Obj:=aY (top 94) 549 928 ["ring","k"] aei
noncomputable def Y0(P:Params):List Obj:=aY (top 95) 556 936 ["ring","sending","k","way","size","rising"] aei
noncomputable def Y1(P:Params):List Obj:=aY (top 96) 563 948 ["ring","sending","slides"] aei
noncomputable def Y2(P:Params):List Obj:=iI (top 97) 570 957 aei
noncomputable def Y3(P:Params):List Obj:=aY (top 99) 575 965 ["_law_script","_law_k","_law_cell"] aee
noncomputable def Te(P:Params):List Obj:=aY (top 100) 582 974 ["_law_state","_law_many","_law_digit","_law_drawn","_law_turn"] aee
noncomputable def Tf(P:Params):List Obj:=aY (top 101) 589 985 ["_law_top_here","_law_bottom","_law_one","_law_share"] aee
noncomputable def Th(P:Params):List Obj:=aY (top 102) 596 995 ["_law_one","_law_other"] aee
noncomputable def Ti(P:Params):List Obj:=aY (top 103) 603 1003 ["_law_one","_law_other"] aee
noncomputable def Tj(P:Params):List Obj:=aY (top 104) 610 1011 ["_law_one","_law_other"] aee
noncomputable def Tn(P:Params):List Obj:=aY (top 105) 617 1019 ["_law_one","_law_other"] aee
noncomputable def To(P:Params):List Obj:=aY (top 106) 624 1027 ["_law_one","_law_other"] aee
noncomputable def Tp(P:Params):List Obj:=aY (top 107) 631 1035 ["_law_ring","_law_k","_law_name","_law_place","_law_other","_law_size","_law_made"] aee
noncomputable def Tq(P:Params):List Obj:=iI (top 108) 638 1048 aee
noncomputable def Ts(P:Params):List Obj:=aY (top 109) 643 1054 ["_law_ring","_law_parts","_law_best","_law_load","_law_room","_law_one"] aee
noncomputable def Tt(P:Params):List Obj:=aY (top 110) 650 1066 ["_law_thing"] aee
noncomputable def Tu(P:Params):List Obj:=aY (top 111) 657 1073 ["_law_thing"] aee
noncomputable def Tv(P:Params):List Obj:=iI (top 112) 664 1080 aee
noncomputable def Tw(P:Params):List Obj:=aY (top 113) 669 1086 ["_law_cut","_law_one","_law_other"] aee
noncomputable def Tz(P:Params):List Obj:=aY (top 114) 676 1095 ["_law_ring","_law_cut","_law_whole_here","_law_name","_law_one","_law_other","_law_size"] aee
noncomputable def TB(P:Params):List Obj:=aY (top 115) 683 1108 ["_law_ring","_law_cut"] aee
noncomputable def TC(P:Params):List Obj:=iI (top 116) 690 1116 aee
noncomputable def TF(P:Params):List Obj:=iI (top 117) 695 1122 aee
noncomputable def TH(P:Params):List Obj:=iI (top 118) 700 1128 aee
noncomputable def TJ(P:Params):List Obj:=aY (top 119) 705 1134 ["_law_ring","_law_top_here","_law_first_here","_law_last"] aee
noncomputable def TK(P:Params):List Obj:=iI (top 120) 712 1144 aee
noncomputable def TL(P:Params)(b:Nat):Obj:=(bif b.blt 57 then(bif b.blt 36 then(bif b.blt 22 then(f1 P).getD (b-15) default else(bif b.blt 29 then(f2 P).getD (b-22) default else(f4 P).getD (b-29) default))else(bif b.blt 43 then(f5 P).getD (b-36) default else(bif b.blt 50 then(f6 P).getD (b-43) default else(f7 P).getD (b-50) default)))else(bif b.blt 108 then(bif b.blt 77 then(f9 P).getD (b-57) default else(bif b.blt 89 then(XI P).getD (b-77) default else(XJ P).getD (b-89) default))else(bif b.blt 116 then(bif b.blt 109 then(XM P).getD (b-108) default else(XN P).getD (b-109) default)else(bif b.blt 123 then(XQ P).getD (b-116) default else(XR P).getD (b-123) default))))
noncomputable def TM(P:Params)(b:Nat):Obj:=(bif b.blt 172 then(bif b.blt 151 then(bif b.blt 137 then(XS P).getD (b-130) default else(bif b.blt 144 then(XT P).getD (b-137) default else(XU P).getD (b-144) default))else(bif b.blt 158 then(XW P).getD (b-151) default else(bif b.blt 165 then(XX P).getD (b-158) default else(XY P).getD (b-165) default)))else(bif b.blt 193 then(bif b.blt 179 then(XZ P).getD (b-172) default else(bif b.blt 186 then(X0 P).getD (b-179) default else(X1 P).getD (b-186) default))else(bif b.blt 205 then(bif b.blt 200 then(X2 P).getD (b-193) default else(X3 P).getD (b-200) default)else(bif b.blt 212 then(X4 P).getD (b-205) default else(X5 P).getD (b-212) default))))
noncomputable def U7(P:Params)(b:Nat):Obj:=bif b.blt 130 then TL P b else TM P b
noncomputable def TN(P:Params)(b:Nat):Obj:=(bif b.blt 255 then(bif b.blt 236 then(bif b.blt 224 then(X6 P).getD (b-219) default else(bif b.blt 229 then(X7 P).getD (b-224) default else(X8 P).getD (b-229) default))else(bif b.blt 243 then(X9 P).getD (b-236) default else(bif b.blt 250 then(Yb P).getD (b-243) default else(Yc P).getD (b-250) default)))else(bif b.blt 274 then(bif b.blt 262 then(Yd P).getD (b-255) default else(bif b.blt 269 then(Ye P).getD (b-262) default else(Yg P).getD (b-269) default))else(bif b.blt 284 then(bif b.blt 279 then(Yh P).getD (b-274) default else(Yi P).getD (b-279) default)else(bif b.blt 291 then(Yj P).getD (b-284) default else(Yk P).getD (b-291) default))))
noncomputable def TQ(P:Params)(b:Nat):Obj:=(bif b.blt 334 then(bif b.blt 315 then(bif b.blt 303 then(Yl P).getD (b-296) default else(bif b.blt 308 then(Ym P).getD (b-303) default else(Yn P).getD (b-308) default))else(bif b.blt 322 then(Yo P).getD (b-315) default else(bif b.blt 329 then(Yp P).getD (b-322) default else(Yq P).getD (b-329) default)))else(bif b.blt 353 then(bif b.blt 339 then(Yr P).getD (b-334) default else(bif b.blt 346 then(Ys P).getD (b-339) default else(Yt P).getD (b-346) default))else(bif b.blt 365 then(bif b.blt 360 then(Yu P).getD (b-353) default else(Yv P).getD (b-360) default)else(bif b.blt 370 then(Yw P).getD (b-365) default else(Yx P).getD (b-370) default))))
noncomputable def U8(P:Params)(b:Nat):Obj:=bif b.blt 296 then TN P b else TQ P b
noncomputable def Y4(P:Params)(b:Nat):Obj:=bif b.blt 219 then U7 P b else U8 P b
noncomputable def TR(P:Params)(b:Nat):Obj:=(bif b.blt 419 then(bif b.blt 398 then(bif b.blt 384 then(Yy P).getD (b-377) default else(bif b.blt 391 then(Yz P).getD (b-384) default else(YA P).getD (b-391) default))else(bif b.blt 405 then(YB P).getD (b-398) default else(bif b.blt 412 then(YC P).getD (b-405) default else(YD P).getD (b-412) default)))else(bif b.blt 438 then(bif b.blt 424 then(YE P).getD (b-419) default else(bif b.blt 431 then(YF P).getD (b-424) default else(YG P).getD (b-431) default))else(bif b.blt 452 then(bif b.blt 445 then(YH P).getD (b-438) default else(YI P).getD (b-445) default)else(bif b.blt 457 then(YJ P).getD (b-452) default else(YK P).getD (b-457) default))))
noncomputable def TU(P:Params)(b:Nat):Obj:=(bif b.blt 506 then(bif b.blt 485 then(bif b.blt 471 then(YL P).getD (b-464) default else(bif b.blt 478 then(YM P).getD (b-471) default else(YN P).getD (b-478) default))else(bif b.blt 492 then(YO P).getD (b-485) default else(bif b.blt 499 then(YQ P).getD (b-492) default else(YR P).getD (b-499) default)))else(bif b.blt 521 then(bif b.blt 507 then(YS P).getD (b-506) default else(bif b.blt 514 then(YT P).getD (b-507) default else(YU P).getD (b-514) default))else(bif b.blt 535 then(bif b.blt 528 then(YV P).getD (b-521) default else(YW P).getD (b-528) default)else(bif b.blt 542 then(YX P).getD (b-535) default else(YY P).getD (b-542) default))))
noncomputable def U9(P:Params)(b:Nat):Obj:=bif b.blt 464 then TR P b else TU P b
noncomputable def TV(P:Params)(b:Nat):Obj:=(bif b.blt 589 then(bif b.blt 570 then(bif b.blt 556 then(YZ P).getD (b-549) default else(bif b.blt 563 then(Y0 P).getD (b-556) default else(Y1 P).getD (b-563) default))else(bif b.blt 575 then(Y2 P).getD (b-570) default else(bif b.blt 582 then(Y3 P).getD (b-575) default else(Te P).getD (b-582) default)))else(bif b.blt 610 then(bif b.blt 596 then(Tf P).getD (b-589) default else(bif b.blt 603 then(Th P).getD (b-596) default else(Ti P).getD (b-603) default))else(bif b.blt 624 then(bif b.blt 617 then(Tj P).getD (b-610) default else(Tn P).getD (b-617) default)else(bif b.blt 631 then(To P).getD (b-624) default else(Tp P).getD (b-631) default))))
noncomputable def TX(P:Params)(b:Nat):Obj:=(bif b.blt 676 then(bif b.blt 657 then(bif b.blt 643 then(Tq P).getD (b-638) default else(bif b.blt 650 then(Ts P).getD (b-643) default else(Tt P).getD (b-650) default))else(bif b.blt 664 then(Tu P).getD (b-657) default else(bif b.blt 669 then(Tv P).getD (b-664) default else(Tw P).getD (b-669) default)))else(bif b.blt 695 then(bif b.blt 683 then(Tz P).getD (b-676) default else(bif b.blt 690 then(TB P).getD (b-683) default else(TC P).getD (b-690) default))else(bif b.blt 705 then(bif b.blt 700 then(TF P).getD (b-695) default else(TH P).getD (b-700) default)else(bif b.blt 712 then(TJ P).getD (b-705) default else(TK P).getD (b-712) default))))
noncomputable def Va(P:Params)(b:Nat):Obj:=bif b.blt 638 then TV P b else TX P b
noncomputable def Y5(P:Params)(b:Nat):Obj:=bif b.blt 549 then U9 P b else Va P b
noncomputable def ob(P:Params)(b:Nat):Obj:=bif b.blt 377 then Y4 P b else Y5 P b
noncomputable def GW(P:Params):List DictEntry:=[(ad9 P "greatest_shared" 197 (.ref 21)),
 (ad9 P "least_common" 205 (.ref 28)),
 (ad9 P "is_whole" 214 (.ref 35)),
 (ad9 P "is_number_below" 222 (.ref 42)),
 (ad9 P "are_two_wholes" 229 (.ref 49)),
 (ad9 P "is_ratio" 236 (.ref 56)),
 (ad9 P "LoadError" 264 (.ref 73)),
 (ad9 P "NoNumber" 280 (.ref 86)),
 (ad9 P "NoSlide" 305 (.ref 105)),
 (ad9 P "NOUGHT" 310 (.ref 108)),
 (ad9 P "lowest" 319 (.ref 115)),
 (ad9 P "ratio" 327 (.ref 122)),
 (ad9 P "plus" 335 (.ref 129)),
 (ad9 P "minus" 343 (.ref 136)),
 (ad9 P "times" 351 (.ref 143)),
 (ad9 P "over" 359 (.ref 150)),
 (ad9 P "under" 367 (.ref 157)),
 (ad9 P "greater" 375 (.ref 164)),
 (ad9 P "lesser" 383 (.ref 171)),
 (ad9 P "sum_of" 392 (.ref 178)),
 (ad9 P "is_cut" 402 (.ref 185)),
 (ad9 P "is_within" 410 (.ref 192)),
 (ad9 P "parts_places" 419 (.ref 199)),
 (ad9 P "across" 425 (.ref 204)),
 (ad9 P "rooms_of" 433 (.ref 211)),
 (ad9 P "shown_by" 441 (.ref 218)),
 (ad9 P "all_cuts" 447 (.ref 223)),
 (ad9 P "cuts_apart" 453 (.ref 228)),
 (ad9 P "greatest_cut" 463 (.ref 235)),
 (ad9 P "ON" 467 (.str "on" 466)),
 (ad9 P "BACK" 469 (.str "back" 468)),
 (ad9 P "is_way" 476 (.ref 242)),
 (ad9 P "other_way" 483 (.ref 249)),
 (ad9 P "ties_of" 489 (.ref 254)),
 (ad9 P "is_over" 503 (.ref 261)),
 (ad9 P "sent_over" 515 (.ref 268)),
 (ad9 P "load_of" 521 (.ref 273)),
 (ad9 P "loads_of" 527 (.ref 278)),
 (ad9 P "strains_of" 533 (.ref 283)),
 (ad9 P "top_of" 545 (.ref 290)),
 (ad9 P "weighed" 553 (.ref 295)),
 (ad9 P "common_bottom" 562 (.ref 302)),
 (ad9 P "in_units" 568 (.ref 307)),
 (ad9 P "fitting" 579 (.ref 314)),
 (ad9 P "sent_one_by_one" 594 (.ref 321)),
 (ad9 P "most_on" 608 (.ref 328)),
 (ad9 P "still_across" 614 (.ref 333)),
 (ad9 P "left_free" 620 (.ref 338)),
 (ad9 P "most_more" 634 (.ref 345)),
 (ad9 P "left_across" 643 (.ref 352)),
 (ad9 P "first_wrong_part" 655 (.ref 359)),
 (ad9 P "is_sending" 661 (.ref 364)),
 (ad9 P "are_ways" 667 (.ref 369)),
 (ad9 P "least_top" 677 (.ref 376)),
 (ad9 P "lets_least" 685 (.ref 383)),
 (ad9 P "has_top" 694 (.ref 390)),
 (ad9 P "shows_top" 703 (.ref 397)),
 (ad9 P "lesser_place" 713 (.ref 404)),
 (ad9 P "greater_place" 721 (.ref 411)),
 (ad9 P "do_cross" 734 (.ref 418)),
 (ad9 P "parted_in" 740 (.ref 423)),
 (ad9 P "first_side_by_side" 751 (.ref 430)),
 (ad9 P "slid_by" 765 (.ref 437)),
 (ad9 P "is_slide" 774 (.ref 444)),
 (ad9 P "has_form_of_slide" 782 (.ref 451)),
 (ad9 P "share_no_tie" 788 (.ref 456)),
 (ad9 P "not_sent" 798 (.ref 463)),
 (ad9 P "most_slid" 807 (.ref 470)),
 (ad9 P "slid_once" 816 (.ref 477)),
 (ad9 P "part_behind" 825 (.ref 484)),
 (ad9 P "slides_for" 837 (.ref 491)),
 (ad9 P "greatest_slide" 849 (.ref 498)),
 (ad9 P "ways_apart" 859 (.ref 505)),
 (ad9 P "HALF" 864 (.ref 506)),
 (ad9 P "lets_rounding" 875 (.ref 513)),
 (ad9 P "keeps_whole_asks" 887 (.ref 520)),
 (ad9 P "nearest_way" 895 (.ref 527)),
 (ad9 P "keeps_within" 908 (.ref 534)),
 (ad9 P "half_of_greatest" 918 (.ref 541)),
 (ad9 P "by_lesser_place" 927 (.ref 548)),
 (ad9 P "rising_way" 935 (.ref 555)),
 (ad9 P "gain_of" 947 (.ref 562)),
 (ad9 P "rounding_of" 956 (.ref 569)),
 (ad9 P "rounded_ways" 962 (.ref 574)),
 (ad9 P "_law_begun" 973 (.ref 581)),
 (ad9 P "_law_take" 984 (.ref 588)),
 (ad9 P "_law_low" 994 (.ref 595)),
 (ad9 P "_law_plus" 1002 (.ref 602)),
 (ad9 P "_law_minus" 1010 (.ref 609)),
 (ad9 P "_law_times" 1018 (.ref 616)),
 (ad9 P "_law_over" 1026 (.ref 623)),
 (ad9 P "_law_under" 1034 (.ref 630)),
 (ad9 P "_law_ties" 1047 (.ref 637)),
 (ad9 P "_law_loads" 1053 (.ref 642)),
 (ad9 P "_law_top" 1065 (.ref 649)),
 (ad9 P "_law_whole" 1072 (.ref 656)),
 (ad9 P "_law_ratio" 1079 (.ref 663)),
 (ad9 P "_law_is_sending" 1085 (.ref 668)),
 (ad9 P "_law_apart" 1094 (.ref 675)),
 (ad9 P "_law_across" 1107 (.ref 682)),
 (ad9 P "_law_shown" 1115 (.ref 689)),
 (ad9 P "_law_great" 1121 (.ref 694)),
 (ad9 P "_law_more_right" 1127 (.ref 699)),
 (ad9 P "_law_others_right" 1133 (.ref 704)),
 (ad9 P "_law_first" 1143 (.ref 711)),
 (ad9 P "law" 1149 (.ref 716))]
noncomputable def Y6:List Value:=[(.int 2 0),(.int 0 0),(.ref 20),(.int 8 0),(.int 0 0),(.ref 27),(.int 11 0),(.int 0 0),(.ref 34),(.int 13 0),(.int 0 0),(.ref 41),(.int 15 0),(.int 0 0),(.ref 48),(.int 17 0),(.int 0 0),(.ref 55),(.int 20 0),(.int 0 0),(.ref 62),(.int 24 0),(.int 0 0),(.ref 82),(.int 26 0),(.int 0 0),(.ref 94),(.int 33 0),(.int 0 0),(.ref 114),(.int 38 0),(.int 0 0),(.ref 121),(.int 42 0),(.int 0 0),(.ref 128),(.int 44 0),(.int 0 0),(.ref 135),(.int 46 0),(.int 0 0),(.ref 142),(.int 48 0),(.int 0 0),(.ref 149),(.int 52 0),(.int 0 0),(.ref 156),(.int 54 0),(.int 0 0),(.ref 163),(.int 56 0),(.int 0 0),(.ref 170),(.int 58 0),(.int 0 0),(.ref 177),(.int 64 0),(.int 0 0),(.ref 184),(.int 66 0),(.int 0 0),(.ref 191),(.int 68 0),(.int 0 0),(.ref 198),(.int 70 0),(.int 0 0),(.ref 203),(.int 72 0),(.int 0 0),(.ref 210),(.int 74 0),(.int 0 0),(.ref 217),(.int 76 0),(.int 0 0),(.ref 222),(.int 81 0),(.int 0 0),(.ref 227),(.int 83 0),(.int 0 0),(.ref 234),(.int 93 0),(.int 0 0),(.ref 241),(.int 95 0),(.int 0 0),(.ref 248),(.int 97 0),(.int 0 0),(.ref 253),(.int 104 0),(.int 0 0),(.ref 260),(.int 111 0),(.int 0 0),(.ref 267),(.int 115 0),(.int 0 0),(.ref 272),(.int 117 0),(.int 0 0),(.ref 277),(.int 119 0),(.int 0 0),(.ref 282),(.int 121 0),(.int 0 0),(.ref 289),(.int 129 0),(.int 0 0),(.ref 294),(.int 134 0),(.int 0 0),(.ref 301),(.int 139 0),(.int 0 0),(.ref 306),(.int 142 0),(.int 0 0),(.ref 313),(.int 147 0),(.int 0 0),(.ref 320),(.int 157 0),(.int 0 0),(.ref 327),(.int 165 0),(.int 0 0),(.ref 332),(.int 168 0),(.int 0 0),(.ref 337),(.int 170 0),(.int 0 0),(.ref 344),(.int 180 0),(.int 0 0),(.ref 351),(.int 183 0),(.int 0 0),(.ref 358),(.int 188 0),(.int 0 0),(.ref 363),(.int 192 0),(.int 0 0),(.ref 368),(.int 197 0),(.int 0 0),(.ref 375),(.int 200 0),(.int 0 0),(.ref 382),(.int 204 0),(.int 0 0),(.ref 389),(.int 206 0),(.int 0 0),(.ref 396),(.int 209 0),(.int 0 0),(.ref 403),(.int 211 0),(.int 0 0),(.ref 410),(.int 213 0),(.int 0 0),(.ref 417),(.int 219 0),(.int 0 0),(.ref 422),(.int 221 0),(.int 0 0),(.ref 429),(.int 228 0),(.int 0 0),(.ref 436),(.int 237 0),(.int 0 0),(.ref 443),(.int 243 0),(.int 0 0),(.ref 450),(.int 249 0),(.int 0 0),(.ref 455),(.int 252 0),(.int 0 0),(.ref 462),(.int 254 0),(.int 0 0),(.ref 469),(.int 256 0),(.int 0 0),(.ref 476),(.int 261 0),(.int 0 0),(.ref 483),(.int 263 0),(.int 0 0),(.ref 490),(.int 273 0),(.int 0 0),(.ref 497),(.int 277 0),(.int 0 0),(.ref 504),(.int 284 0),(.int 0 0),(.ref 512),(.int 295 0),(.int 0 0),(.ref 519),(.int 300 0),(.int 0 0),(.ref 526),(.int 302 0),(.int 0 0),(.ref 533),(.int 310 0),(.int 0 0),(.ref 540),(.int 315 0),(.int 0 0),(.ref 547),(.int 317 0),(.int 0 0),(.ref 554),(.int 319 0),(.int 0 0),(.ref 561),(.int 323 0),(.int 0 0),(.ref 568),(.int 326 0),(.int 0 0),(.ref 573),(.int 338 0),(.int 0 0),(.ref 580),(.int 343 0),(.int 0 0),(.ref 587),(.int 354 0),(.int 0 0),(.ref 594),(.int 362 0),(.int 0 0),(.ref 601),(.int 364 0),(.int 0 0),(.ref 608),(.int 366 0),(.int 0 0),(.ref 615),(.int 368 0),(.int 0 0),(.ref 622),(.int 370 0),(.int 0 0),(.ref 629),(.int 372 0),(.int 0 0),(.ref 636),(.int 379 0),(.int 0 0),(.ref 641),(.int 387 0),(.int 0 0),(.ref 648),(.int 394 0),(.int 0 0),(.ref 655),(.int 396 0),(.int 0 0),(.ref 662),(.int 400 0),(.int 0 0),(.ref 667),(.int 409 0),(.int 0 0),(.ref 674),(.int 411 0),(.int 0 0),(.ref 681),(.int 417 0),(.int 0 0),(.ref 688),(.int 419 0),(.int 0 0),(.ref 693),(.int 431 0),(.int 0 0),(.ref 698),(.int 444 0),(.int 0 0),(.ref 703),(.int 450 0),(.int 0 0),(.ref 710),(.int 456 0),(.int 0 0),(.ref 715)]
noncomputable def Y7(P:Params):List (Nat×Obj):=[(12,Ct (Y6.take 0))]
noncomputable def T0(P:Params):BT:=XH 15 (λb=>Gp [12] P (Y7 P) ob b 0) 1 0 0
noncomputable abbrev S0(w:World)(os:OsState):SharedT:=⟨T0 w.params,15,nH,#[],⟨0,0,0,0⟩,187,os⟩
noncomputable def Y8(P:Params):List (Nat×Obj):=[(3,tY P aef ((GW P).take 6) 15),(12,Ct (Y6.take 18))]
noncomputable def T1(P:Params):BT:=XH 57 (λb=>Gp [3,12] P (Y8 P) ob b 1) 1 0 1
noncomputable abbrev S1(w:World)(os:OsState):SharedT:=⟨T1 w.params,57,nH,#[],⟨0,0,0,0⟩,239,os⟩
noncomputable def Y9(P:Params):List (Nat×Obj):=[(3,tY P aef ((GW P).take 7) 16),(12,Ct (Y6.take 21)),(73,(.mk (.type "type") none (.cls (.mk "LoadError" [(.type "ValueError")] [(.ref 73),(.type "ValueError"),(.type "Exception"),(.type "BaseException"),(.type "object")] 72 "LoadError" true [] [] false none false)) #[(some (.ref 57)),none,(some (.str "LoadError" 239)),(some (.str "LoadError" 247)),(some (.builtin "ValueError.__new__")),(some (.bool true))]))]
noncomputable def T2(P:Params):BT:=XH 77 (λb=>Gp [3,12,73] P (Y9 P) ob b 2) 1 0 2
noncomputable abbrev S2(w:World)(os:OsState):SharedT:=⟨T2 w.params,77,nH,#[],⟨0,0,0,0⟩,265,os⟩
noncomputable def Za(P:Params):List (Nat×Obj):=[(3,tY P aef ((GW P).take 8) 17),(12,Ct (Y6.take 24)),(73,(.mk (.type "type") none (.cls (.mk "LoadError" [(.type "ValueError")] [(.ref 73),(.type "ValueError"),(.type "Exception"),(.type "BaseException"),(.type "object")] 72 "LoadError" true [] [(.ref 86)] false none false)) #[(some (.ref 57)),none,(some (.str "LoadError" 239)),(some (.str "LoadError" 247)),(some (.builtin "ValueError.__new__")),(some (.bool true))]))]
noncomputable def T3(P:Params):BT:=XH 89 (λb=>Gp [3,12,73] P (Za P) ob b 3) 1 0 3
noncomputable abbrev S3(w:World)(os:OsState):SharedT:=⟨T3 w.params,89,nH,#[],⟨0,0,0,0⟩,281,os⟩
noncomputable def Zb(P:Params):List (Nat×Obj):=[(3,tY P aeh ((GW P).take 14) 23),(12,Ct (Y6.take 39))]
noncomputable def T4(P:Params):BT:=XH 137 (λb=>Gp [3,12] P (Zb P) ob b 4) 1 0 4
noncomputable abbrev S4(w:World)(os:OsState):SharedT:=⟨T4 w.params,137,nH,#[],⟨0,0,0,0⟩,344,os⟩
noncomputable def Zc(P:Params):List (Nat×Obj):=[(3,tY P aej ((GW P).take 27) 36),(12,Ct (Y6.take 78))]
noncomputable def T5(P:Params):BT:=XH 224 (λb=>Gp [3,12] P (Zc P) ob b 5) 1 0 5
noncomputable abbrev S5(w:World)(os:OsState):SharedT:=⟨T5 w.params,224,nH,#[],⟨0,0,0,0⟩,448,os⟩
noncomputable def Zd(P:Params):List (Nat×Obj):=[(3,tY P aep ((GW P).take 41) 50),(12,Ct (Y6.take 114))]
noncomputable def T6(P:Params):BT:=XH 296 (λb=>Gp [3,12] P (Zd P) ob b 6) 1 0 6
noncomputable abbrev S6(w:World)(os:OsState):SharedT:=⟨T6 w.params,296,nH,#[],⟨0,0,0,0⟩,554,os⟩
noncomputable def Ze(P:Params):List (Nat×Obj):=[(3,tY P aem ((GW P).take 53) 62),(12,Ct (Y6.take 150))]
noncomputable def T7(P:Params):BT:=XH 370 (λb=>Gp [3,12] P (Ze P) ob b 7) 1 0 7
noncomputable abbrev S7(w:World)(os:OsState):SharedT:=⟨T7 w.params,370,nH,#[],⟨0,0,0,0⟩,670,os⟩
noncomputable def Zf(P:Params):List (Nat×Obj):=[(3,tY P aeg ((GW P).take 65) 74),(12,Ct (Y6.take 186))]
noncomputable def T8(P:Params):BT:=XH 452 (λb=>Gp [3,12] P (Zf P) ob b 8) 1 0 8
noncomputable abbrev S8(w:World)(os:OsState):SharedT:=⟨T8 w.params,452,nH,#[],⟨0,0,0,0⟩,783,os⟩
noncomputable def Zg(P:Params):List (Nat×Obj):=[(3,tY P aei ((GW P).take 77) 86),(12,Ct (Y6.take 219))]
noncomputable def T9(P:Params):BT:=XH 528 (λb=>Gp [3,12] P (Zg P) ob b 9) 1 0 9
noncomputable abbrev S9(w:World)(os:OsState):SharedT:=⟨T9 w.params,528,nH,#[],⟨0,0,0,0⟩,896,os⟩
noncomputable def Vb(P:Params):List (Nat×Obj):=[(3,tY P aee ((GW P).take 89) 98),(12,Ct (Y6.take 255))]
noncomputable def Zh(P:Params):BT:=XH 610 (λb=>Gp [3,12] P (Vb P) ob b 10) 1 0 10
noncomputable abbrev Zj(w:World)(os:OsState):SharedT:=⟨Zh w.params,610,nH,#[],⟨0,0,0,0⟩,1011,os⟩
noncomputable def Vc(P:Params):List (Nat×Obj):=[(3,tY P aee ((GW P).take 102) 111),(12,Ct (Y6.take 294))]
noncomputable def Zk(P:Params):BT:=XH 695 (λb=>Gp [3,12] P (Vc P) ob b 11) 1 0 11
noncomputable abbrev Zl(w:World)(os:OsState):SharedT:=⟨Zk w.params,695,nH,#[],⟨0,0,0,0⟩,1122,os⟩
noncomputable def Uv(P:Params):List (Nat×Obj):=[(3,tY P aee ((GW P).take 106) 115),(12,Ct (Y6.take 306))]
noncomputable def Zm(P:Params):BT:=XH 717 (λb=>Gp [3,12] P (Uv P) ob b 12) 1 0 12
noncomputable abbrev Zn(w:World)(os:OsState):SharedT:=⟨Zm w.params,717,nH,#[],⟨0,0,0,0⟩,1150,os⟩
noncomputable abbrev env:Env:={scope:=pr.main.scope,locals:=mainNs,globals:=mainNs,cells:=[],code:=.ref 13,frame:=some 14}
noncomputable abbrev cE:Code:=.body (behindTheImports pr) env
noncomputable abbrev B:List Frame:=[topFrame ⟨0,0,0,0⟩]
noncomputable def Uw:List Stmt:=(pr.main.body.drop 0).take 9
theorem Zo(w:World)(os:OsState):segRunT treeTable pr w 11 (some (.ref 6)) 1 206 (S0 w os) (piecesOf Uw env cE ⟨0,0,0,0⟩ B)=some (.next,S1 w os,cE,⟨19,0,19,8⟩):=lB z_
noncomputable def Ux:List Stmt:=(pr.main.body.drop 9).take 1
theorem Zp(w:World)(os:OsState):segRunT treeTable pr w 11 (some (.ref 6)) 1 218 (S1 w os) (piecesOf Ux env cE ⟨19,0,19,8⟩ B)=some (.next,S2 w os,cE,⟨20,0,23,39⟩):=lB z_
noncomputable def Uy:List Stmt:=(pr.main.body.drop 10).take 1
theorem Zq(w:World)(os:OsState):segRunT treeTable pr w 11 (some (.ref 6)) 1 214 (S2 w os) (piecesOf Uy env cE ⟨20,0,23,39⟩ B)=some (.next,S3 w os,cE,⟨24,0,25,8⟩):=lB z_
noncomputable def Uz:List Stmt:=(pr.main.body.drop 11).take 7
theorem Zr(w:World)(os:OsState):segRunT treeTable pr w 11 (some (.ref 6)) 1 388 (S3 w os) (piecesOf Uz env cE ⟨24,0,25,8⟩ B)=some (.next,S4 w os,cE,⟨44,0,45,75⟩):=lB z_
noncomputable def UA:List Stmt:=(pr.main.body.drop 18).take 14
theorem Zs(w:World)(os:OsState):segRunT treeTable pr w 11 (some (.ref 6)) 1 394 (S4 w os) (piecesOf UA env cE ⟨44,0,45,75⟩ B)=some (.next,S5 w os,cE,⟨76,0,80,15⟩):=lB z_
noncomputable def UB:List Stmt:=(pr.main.body.drop 32).take 17
theorem Zt(w:World)(os:OsState):segRunT treeTable pr w 11 (some (.ref 6)) 1 394 (S5 w os) (piecesOf UB env cE ⟨76,0,80,15⟩ B)=some (.next,S6 w os,cE,⟨129,0,133,65⟩):=lB z_
noncomputable def UC:List Stmt:=(pr.main.body.drop 49).take 15
theorem Zu(w:World)(os:OsState):segRunT treeTable pr w 11 (some (.ref 6)) 1 392 (S6 w os) (piecesOf UC env cE ⟨129,0,133,65⟩ B)=some (.next,S7 w os,cE,⟨196,0,196,8⟩):=lB z_
noncomputable def UD:List Stmt:=(pr.main.body.drop 64).take 14
theorem Zv(w:World)(os:OsState):segRunT treeTable pr w 11 (some (.ref 6)) 1 390 (S7 w os) (piecesOf UD env cE ⟨196,0,196,8⟩ B)=some (.next,S8 w os,cE,⟨243,0,248,71⟩):=lB z_
noncomputable def UE:List Stmt:=(pr.main.body.drop 78).take 13
theorem Zw(w:World)(os:OsState):segRunT treeTable pr w 11 (some (.ref 6)) 1 370 (S8 w os) (piecesOf UE env cE ⟨243,0,248,71⟩ B)=some (.next,S9 w os,cE,⟨300,0,301,41⟩):=lB z_
noncomputable def RW:List Stmt:=(pr.main.body.drop 91).take 13
theorem Vd(w:World)(os:OsState):segRunT treeTable pr w 11 (some (.ref 6)) 1 385 (S9 w os) (piecesOf RW env cE ⟨300,0,301,41⟩ B)=some (.next,Zj w os,cE,⟨364,0,365,107⟩):=lB z_
noncomputable def RX:List Stmt:=(pr.main.body.drop 104).take 13
theorem Ve(w:World)(os:OsState):segRunT treeTable pr w 11 (some (.ref 6)) 1 392 (Zj w os) (piecesOf RX env cE ⟨364,0,365,107⟩ B)=some (.next,Zl w os,cE,⟨419,0,430,34⟩):=lB z_
noncomputable def RY:List Stmt:=(pr.main.body.drop 117).take 4
theorem Vf(w:World)(os:OsState):segRunT treeTable pr w 11 (some (.ref 6)) 1 111 (Zl w os) (piecesOf RY env cE ⟨419,0,430,34⟩ B)=some (.next,Zn w os,cE,⟨456,0,471,126⟩):=lB z_
noncomputable abbrev H1(P:Params):Heap:=absHeap (Zm P) 717 nH
theorem pre(w:World)(os:OsState):topGo treeTable pr w 11 (some (.ref 6)) 12 ⟨boot_heap w.params,#[],boot_drawn,boot_toks,os⟩ (topStub pr)=some (⟨⟨⟨Pz w.params⟩,nH⟩,#[],⟨0,0,0,0⟩,187,os⟩,⟨denote treeTable cE,cE,⟨0,0,0,0⟩,B⟩):=by rw[RV];exact Td z_
theorem NI(w:World)(os:OsState):segRun treeTable pr w 11 (some (.ref 6)) 1 1 ⟨⟨⟨Pz w.params⟩,nH⟩,#[],⟨0,0,0,0⟩,187,os⟩ (blockOf (behindTheImports pr) env cE ⟨0,0,0,0⟩ B)=some (.next,(S0 w os).abs,cE,⟨0,0,0,0⟩):=by kernel_rfl
theorem Vx(w:World)(os:OsState):topRun treeTable pr w 11 (some (.ref 6)) 2 (Zn w os).abs ⟨doneF .next,cE,⟨456,0,471,126⟩,B⟩=some ⟨H1 w.params,#[],⟨0,0,0,0⟩,1150,os⟩:=RU z_
theorem PF:behindTheImports pr=(Uw++(Ux++(Uy++(Uz++(UA++(UB++(UC++(UD++(UE++(RW++(RX++(RY++[])))))))))))):=by kernel_rfl
theorem run(w:World)(os:OsState):topRun treeTable pr w 11 (some (.ref 6)) (12+(1+(206+(218+(214+(388+(394+(394+(392+(390+(370+(385+(392+(111+2)))))))))))))) ⟨boot_heap w.params,#[],boot_drawn,boot_toks,os⟩ (topStub pr)=some ⟨H1 w.params,#[],⟨0,0,0,0⟩,1150,os⟩ :=
 go_top (pre w os) (piece_block (NI w os) (PD PF (abT (abU (Zo w os)) (abT (abU (Zp w os)) (abT (abU (Zq w os)) (abT (abU (Zr w os)) (abT (abU (Zs w os)) (abT (abU (Zt w os)) (abT (abU (Zu w os)) (abT (abU (Zv w os)) (abT (abU (Zw w os)) (abT (abU (Vd w os)) (abT (abU (Ve w os)) (abT (abU (Vf w os)) (piece_nil (Vx w os))))))))))))))))
noncomputable abbrev q:Program:=view pr [93,120]
noncomputable def loose:List Str:=(["greatest_shared","least_common","is_whole","is_number_below","are_two_wholes","is_ratio","LoadError","NoNumber","NoSlide","NOUGHT","lowest","ratio","plus","minus","times","over","under","greater","lesser","sum_of","is_cut","is_within","parts_places","across","rooms_of","shown_by","all_cuts","cuts_apart","greatest_cut","ON","BACK","is_way","other_way","ties_of","is_over","sent_over","load_of","loads_of","strains_of","top_of","weighed","common_bottom","in_units","fitting","sent_one_by_one","most_on","still_across","left_free","most_more","left_across","first_wrong_part","is_sending","are_ways","least_top","lets_least","has_top","shows_top","lesser_place","greater_place","do_cross","parted_in","first_side_by_side","slid_by","is_slide","has_form_of_slide","share_no_tie","not_sent","most_slid","slid_once","part_behind","slides_for","greatest_slide","ways_apart","HALF","lets_rounding","keeps_whole_asks","nearest_way","keeps_within","half_of_greatest","rising_way","gain_of","rounding_of","rounded_ways","_law_begun","_law_take","_law_low","_law_plus","_law_minus","_law_times","_law_over","_law_under","_law_ties","_law_loads","_law_top","_law_whole","_law_ratio","_law_is_sending","_law_apart","_law_across","_law_shown","_law_great","_law_more_right","_law_others_right","_law_first"]:List String).map Str.ofString
noncomputable def Kf(P:Params):Frag:=(3,((Uv P).getD 0 (0,default)).2)::[(20,(f1 P).getD 5 default),(21,(f1 P).getD 6 default),(27,(f2 P).getD 5 default),(28,(f2 P).getD 6 default),(34,(f4 P).getD 5 default),(35,(f4 P).getD 6 default),(41,(f5 P).getD 5 default),(42,(f5 P).getD 6 default),(48,(f6 P).getD 5 default),(49,(f6 P).getD 6 default),(55,(f7 P).getD 5 default),(56,(f7 P).getD 6 default),(57,(f9 P).getD 0 default),(58,(f9 P).getD 1 default),(59,(f9 P).getD 2 default),(60,(f9 P).getD 3 default),(61,(f9 P).getD 4 default),(62,(f9 P).getD 5 default),(63,(f9 P).getD 6 default),(64,(f9 P).getD 7 default),(65,(f9 P).getD 8 default),(66,(f9 P).getD 9 default),(67,(f9 P).getD 10 default),(68,(f9 P).getD 11 default),(69,(f9 P).getD 12 default),(70,(f9 P).getD 13 default),(71,(f9 P).getD 14 default),(72,(f9 P).getD 15 default),(73,(f9 P).getD 16 default),(74,(f9 P).getD 17 default),(75,(f9 P).getD 18 default),(76,(f9 P).getD 19 default),(77,(XI P).getD 0 default),(78,(XI P).getD 1 default),(79,(XI P).getD 2 default),(80,(XI P).getD 3 default),(81,(XI P).getD 4 default),(82,(XI P).getD 5 default),(83,(XI P).getD 6 default),(84,(XI P).getD 7 default),(85,(XI P).getD 8 default),(86,(XI P).getD 9 default),(87,(XI P).getD 10 default),(88,(XI P).getD 11 default),(89,(XJ P).getD 0 default),(90,(XJ P).getD 1 default),(91,(XJ P).getD 2 default),(92,(XJ P).getD 3 default),(93,(XJ P).getD 4 default),(94,(XJ P).getD 5 default),(95,(XJ P).getD 6 default),(96,(XJ P).getD 7 default),(97,(XJ P).getD 8 default),(98,(XJ P).getD 9 default),(99,(XJ P).getD 10 default),(100,(XJ P).getD 11 default),(101,(XJ P).getD 12 default),(102,(XJ P).getD 13 default),(103,(XJ P).getD 14 default),(104,(XJ P).getD 15 default),(105,(XJ P).getD 16 default),(106,(XJ P).getD 17 default),(107,(XJ P).getD 18 default),(108,(XM P).getD 0 default),(114,(XN P).getD 5 default),(115,(XN P).getD 6 default),(121,(XQ P).getD 5 default),(122,(XQ P).getD 6 default),(128,(XR P).getD 5 default),(129,(XR P).getD 6 default),(135,(XS P).getD 5 default),(136,(XS P).getD 6 default),(142,(XT P).getD 5 default),(143,(XT P).getD 6 default),(149,(XU P).getD 5 default),(150,(XU P).getD 6 default),(156,(XW P).getD 5 default),(157,(XW P).getD 6 default),(163,(XX P).getD 5 default),(164,(XX P).getD 6 default),(170,(XY P).getD 5 default),(171,(XY P).getD 6 default),(177,(XZ P).getD 5 default),(178,(XZ P).getD 6 default),(184,(X0 P).getD 5 default),(185,(X0 P).getD 6 default),(191,(X1 P).getD 5 default),(192,(X1 P).getD 6 default),(198,(X2 P).getD 5 default),(199,(X2 P).getD 6 default),(203,(X3 P).getD 3 default),(204,(X3 P).getD 4 default),(210,(X4 P).getD 5 default),(211,(X4 P).getD 6 default),(217,(X5 P).getD 5 default),(218,(X5 P).getD 6 default),(222,(X6 P).getD 3 default),(223,(X6 P).getD 4 default),(227,(X7 P).getD 3 default),(228,(X7 P).getD 4 default),(234,(X8 P).getD 5 default),(235,(X8 P).getD 6 default),(241,(X9 P).getD 5 default),(242,(X9 P).getD 6 default),(248,(Yb P).getD 5 default),(249,(Yb P).getD 6 default),(253,(Yc P).getD 3 default),(254,(Yc P).getD 4 default),(260,(Yd P).getD 5 default),(261,(Yd P).getD 6 default),(267,(Ye P).getD 5 default),(268,(Ye P).getD 6 default),(272,(Yg P).getD 3 default),(273,(Yg P).getD 4 default),(277,(Yh P).getD 3 default),(278,(Yh P).getD 4 default),(282,(Yi P).getD 3 default),(283,(Yi P).getD 4 default),(289,(Yj P).getD 5 default),(290,(Yj P).getD 6 default),(294,(Yk P).getD 3 default),(295,(Yk P).getD 4 default),(301,(Yl P).getD 5 default),(302,(Yl P).getD 6 default),(306,(Ym P).getD 3 default),(307,(Ym P).getD 4 default),(313,(Yn P).getD 5 default),(314,(Yn P).getD 6 default),(320,(Yo P).getD 5 default),(321,(Yo P).getD 6 default),(327,(Yp P).getD 5 default),(328,(Yp P).getD 6 default),(332,(Yq P).getD 3 default),(333,(Yq P).getD 4 default),(337,(Yr P).getD 3 default),(338,(Yr P).getD 4 default),(344,(Ys P).getD 5 default),(345,(Ys P).getD 6 default),(351,(Yt P).getD 5 default),(352,(Yt P).getD 6 default),(358,(Yu P).getD 5 default),(359,(Yu P).getD 6 default),(363,(Yv P).getD 3 default),(364,(Yv P).getD 4 default),(368,(Yw P).getD 3 default),(369,(Yw P).getD 4 default),(375,(Yx P).getD 5 default),(376,(Yx P).getD 6 default),(382,(Yy P).getD 5 default),(383,(Yy P).getD 6 default),(389,(Yz P).getD 5 default),(390,(Yz P).getD 6 default),(396,(YA P).getD 5 default),(397,(YA P).getD 6 default),(403,(YB P).getD 5 default),(404,(YB P).getD 6 default),(410,(YC P).getD 5 default),(411,(YC P).getD 6 default),(417,(YD P).getD 5 default),(418,(YD P).getD 6 default),(422,(YE P).getD 3 default),(423,(YE P).getD 4 default),(429,(YF P).getD 5 default),(430,(YF P).getD 6 default),(436,(YG P).getD 5 default),(437,(YG P).getD 6 default),(443,(YH P).getD 5 default),(444,(YH P).getD 6 default),(450,(YI P).getD 5 default),(451,(YI P).getD 6 default),(455,(YJ P).getD 3 default),(456,(YJ P).getD 4 default),(462,(YK P).getD 5 default),(463,(YK P).getD 6 default),(469,(YL P).getD 5 default),(470,(YL P).getD 6 default),(476,(YM P).getD 5 default),(477,(YM P).getD 6 default),(483,(YN P).getD 5 default),(484,(YN P).getD 6 default),(490,(YO P).getD 5 default),(491,(YO P).getD 6 default),(497,(YQ P).getD 5 default),(498,(YQ P).getD 6 default),(504,(YR P).getD 5 default),(505,(YR P).getD 6 default),(506,(YS P).getD 0 default),(512,(YT P).getD 5 default),(513,(YT P).getD 6 default),(519,(YU P).getD 5 default),(520,(YU P).getD 6 default),(526,(YV P).getD 5 default),(527,(YV P).getD 6 default),(533,(YW P).getD 5 default),(534,(YW P).getD 6 default),(540,(YX P).getD 5 default),(541,(YX P).getD 6 default),(547,(YY P).getD 5 default),(548,(YY P).getD 6 default),(554,(YZ P).getD 5 default),(555,(YZ P).getD 6 default),(561,(Y0 P).getD 5 default),(562,(Y0 P).getD 6 default),(568,(Y1 P).getD 5 default),(569,(Y1 P).getD 6 default),(573,(Y2 P).getD 3 default),(574,(Y2 P).getD 4 default),(580,(Y3 P).getD 5 default),(581,(Y3 P).getD 6 default),(587,(Te P).getD 5 default),(588,(Te P).getD 6 default),(594,(Tf P).getD 5 default),(595,(Tf P).getD 6 default),(601,(Th P).getD 5 default),(602,(Th P).getD 6 default),(608,(Ti P).getD 5 default),(609,(Ti P).getD 6 default),(615,(Tj P).getD 5 default),(616,(Tj P).getD 6 default),(622,(Tn P).getD 5 default),(623,(Tn P).getD 6 default),(629,(To P).getD 5 default),(630,(To P).getD 6 default),(636,(Tp P).getD 5 default),(637,(Tp P).getD 6 default),(641,(Tq P).getD 3 default),(642,(Tq P).getD 4 default),(648,(Ts P).getD 5 default),(649,(Ts P).getD 6 default),(655,(Tt P).getD 5 default),(656,(Tt P).getD 6 default),(662,(Tu P).getD 5 default),(663,(Tu P).getD 6 default),(667,(Tv P).getD 3 default),(668,(Tv P).getD 4 default),(674,(Tw P).getD 5 default),(675,(Tw P).getD 6 default),(681,(Tz P).getD 5 default),(682,(Tz P).getD 6 default),(688,(TB P).getD 5 default),(689,(TB P).getD 6 default),(693,(TC P).getD 3 default),(694,(TC P).getD 4 default),(698,(TF P).getD 3 default),(699,(TF P).getD 4 default),(703,(TH P).getD 3 default),(704,(TH P).getD 4 default),(710,(TJ P).getD 5 default),(711,(TJ P).getD 6 default),(715,(TK P).getD 3 default),(716,(TK P).getD 4 default)]
noncomputable abbrev as:List Addr:=[3,20,21,27,28,34,35,41,42,48,49,55,56,57,58,59,60,61,62,63,64,65,66,67,68,69,70,71,72,73,74,75,76,77,78,79,80,81,82,83,84,85,86,87,88,89,90,91,92,93,94,95,96,97,98,99,100,101,102,103,104,105,106,107,108,114,115,121,122,128,129,135,136,142,143,149,150,156,157,163,164,170,171,177,178,184,185,191,192,198,199,203,204,210,211,217,218,222,223,227,228,234,235,241,242,248,249,253,254,260,261,267,268,272,273,277,278,282,283,289,290,294,295,301,302,306,307,313,314,320,321,327,328,332,333,337,338,344,345,351,352,358,359,363,364,368,369,375,376,382,383,389,390,396,397,403,404,410,411,417,418,422,423,429,430,436,437,443,444,450,451,455,456,462,463,469,470,476,477,483,484,490,491,497,498,504,505,506,512,513,519,520,526,527,533,534,540,541,547,548,554,555,561,562,568,569,573,574,580,581,587,588,594,595,601,602,608,609,615,616,622,623,629,630,636,637,641,642,648,649,655,656,662,663,667,668,674,675,681,682,688,689,693,694,698,699,703,704,710,711,715,716]
noncomputable abbrev Hk:Hook:=kHook Kf as (λ_=>by kernel_rfl)
noncomputable abbrev Xt:Shared→Bool:=fun s=>xlAt q [] s && recOk (RowW.records PySem.Challenge.rw_ringloads_k28_rings_at_their_bounds.row.toRowW) s
theorem size (w:World):((boot_heap w.params).isNs mainGlobals && (#[]:Array GenState).size == 0,(boot_heap w.params).objs.size,(boot_heap w.params).nsMap mainGlobals "__annotations__")=(true,11,some (.ref 6)):=by kernel_rfl
theorem TY(w:World)(os:OsState):(staticsOk (importedModules pr.main.body) (boot_heap w.params) (H1 w.params) && namesBound pr (H1 w.params) && gensDone ⟨H1 w.params,#[],⟨0,0,0,0⟩,1150,os⟩ && laidKept (boot_heap w.params) (H1 w.params))=true:=by kernel_rfl
theorem TZ(w:World)(os:OsState):openSeen q loose (importedModules pr.main.body) Xt true ⟨H1 w.params,#[],⟨0,0,0,0⟩,1150,os⟩=openGood q loose:=by rw[Fast.te4187177175401517315];kernel_rfl
theorem Ua(w:World)(os:OsState):Hk.obs ⟨H1 w.params,#[],⟨0,0,0,0⟩,1150,os⟩=Hk.val w:=by kernel_rfl
theorem RZ:opening pr=plainProg pr.main.scope.names:=by kernel_rfl
theorem left:LeftO pr q loose Xt Hk.obs Hk.val 8384:=LeftO.of_pieces (M:=(12+(1+(206+(218+(214+(388+(394+(394+(392+(390+(370+(385+(392+(111+2))))))))))))))) (boot_open RZ xp (λs=>by kernel_rfl)) size run y_ (λw=>funext λos=>looks_pair (TY w os) (looks_pair (TZ w os) (Ua w os)))
end Hd
namespace My
open PySem L2
local macro_rules | `(tactic| walk_at $q:str)=>do
 if q.getString == "o" then Lean.Macro.throwUnsupported
 let ids:=("Le OG Lf K9 HU QO KP N4 QP KQ N5 K3 Q6 On Ox OQ Lk Rb SH Oy Rc SI OD SK OO Ii QK QL KO Ho CQ Ra K8 Ov HQ Ge Lb uZ sQ aV Wj aM au Wi ai jD wC br a9 AM bF av uP aZ aq M1 aC Wc Qd tS FW lz AO oJ QQ Wg iG Sj FY GU bz fY CI xq Oj Oi HV Ey WD yT eH La Ow HS List.all_cons List.all_nil Bool.and_true Bool.true_and SG Cq SD K1 oO oN F4 qY xr Q9 Qf uV C2 C3 Gi aU Bc Iv Lw j7 jE EE SL EF nE bp tT j8 Hs uR Ht Qe QV qV um KR Lp Lq Lr Ls Lu OS OT OU OV Rw Rx OX OY SW SX IG IH O0 M9 Ex Nh EN IJ Ir EO yl gY Ry Lv List.length_map Iu Iw Iy Iz Ly Gj ID C4 C5 C6 Bd C7 yX Lz C8 F5 Hx KY Hy AS lK LA O1 LC LD LF LG Gk Bf Bg II O2 CL yg CJ beq_self_eq_true String.reduceBEq String.reduceEq reduceCtorEq SF F6 fj dB jH bI Ga HK Gb oR Ot Q7 List.getElem?_cons_zero List.getElem?_cons_succ List.set_cons_zero List.set_cons_succ List.cons_append List.nil_append List.replicate_succ List.replicate_zero List.map_cons List.map_nil List.drop_succ_cons List.drop_zero Option.getD_some true_and decide_eq_true_eq Bool.not_eq_true' decide_eq_false_iff_not ite_true ite_false Bool.false_eq_true Bool.true_eq_false if_true if_false List.length_cons List.length_nil Nat.reduceAdd Nat.reduceSub CZ C0 Rq Rr SU UY UZ U0 Option.some.injEq exists_eq_left' exists_eq_left".splitOn " ").toArray.map fun s=>Lean.mkIdent ((s.splitOn ".").foldl Lean.Name.mkStr Lean.Name.anonymous)
 if q.getString=="v" then `(tactic| try simp only [$[$ids:ident],*]) else if q.getString=="w" then `(tactic| ((try dsimp only [$[$ids:ident],*]); try simp only [$[$ids:ident],*])) else `(tactic|(unfold $(Lean.mkIdent (Lean.Name.mkSimple q.getString)):ident;walk_at"w"))
local macro_rules | `(tactic| walk_at "o")=>`(tactic| first | exact Or.inl rfl | exact Or.inr rfl)
theorem v6{a b:Prop}(h:a∨b:=by walk_at "o"):a∨b:=h
noncomputable section
abbrev fv:=Hd.top 1
abbrev rD:List Str:=["one","other","rest"]
abbrev ji:=Hd.top 2
abbrev xw:List Str:=["one","other"]
abbrev rE:=Hd.top 4
abbrev Gq:List Str:=["thing"]
abbrev fw:=Hd.top 5
abbrev rF:List Str:=["thing","many"]
abbrev gw:=Hd.top 6
abbrev tZ:List Str:=["thing"]
abbrev rG:=Hd.top 7
abbrev Gr:List Str:=["thing"]
abbrev zt:=Hd.top 14
abbrev Mv:List Str:=["top","bottom","shared"]
abbrev Do:=Hd.top 15
abbrev PH:List Str:=["top","bottom"]
abbrev JI:=Hd.top 16
abbrev R1:List Str:=["one","other"]
abbrev Dp:=Hd.top 17
abbrev PJ:List Str:=["one","other"]
abbrev Dq:=Hd.top 18
abbrev PN:List Str:=["one","other"]
abbrev JJ:=Hd.top 19
abbrev R3:List Str:=["one","other"]
abbrev Dr:=Hd.top 20
abbrev PP:List Str:=["one","other"]
abbrev vD:=Hd.top 21
abbrev JK:List Str:=["one","other"]
abbrev zu:=Hd.top 22
abbrev Mw:List Str:=["one","other"]
abbrev zv:=Hd.top 23
abbrev Mx:List Str:=["some","whole","one"]
abbrev zw:=Hd.top 25
abbrev Mz:List Str:=["ring","thing"]
abbrev oY:=Hd.top 26
abbrev Ds:List Str:=["cut","place"]
abbrev jj:=Hd.top 27
abbrev xx:List Str:=["cut","one","other"]
abbrev uD:=Hd.top 28
abbrev FD:List Str:=["ring","cut"]
abbrev rH:=Hd.top 29
abbrev Gs:List Str:=["ring","cut"]
abbrev rJ:=Hd.top 30
abbrev Gu:List Str:=["ring","cut"]
abbrev nq:=Hd.top 31
abbrev yv:List Str:=["ring","cuts","g"]
abbrev iR:=Hd.top 32
abbrev sW:List Str:=["ring","one","other"]
abbrev jk:=Hd.top 33
abbrev xy:List Str:=["ring","found","cut","shown"]
abbrev zx:=Hd.top 37
abbrev MA:List Str:=["thing"]
abbrev oZ:=Hd.top 38
abbrev Dt:List Str:=["way"]
abbrev l7:=Hd.top 39
abbrev vE:List Str:=["ring","k","way","places","one","other"]
abbrev vF:=Hd.top 40
abbrev JL:List Str:=["ring","k","way","tie","places","one","other","lies_on"]
abbrev o5:=Hd.top 42
abbrev Du:List Str:=["ring","sending","k","tie"]
abbrev qy:=Hd.top 43
abbrev Bx:List Str:=["ring","sending","tie"]
abbrev nr:=Hd.top 44
abbrev yw:List Str:=["ring","sending"]
abbrev iS:=Hd.top 45
abbrev sX:List Str:=["ring","sending"]
abbrev zy:=Hd.top 46
abbrev MB:List Str:=["ring","sending","strains","top","tie","strain"]
abbrev g5:=Hd.top 49
abbrev vG:List Str:=["some","bottom","one"]
abbrev nu:=Hd.top 50
abbrev yx:List Str:=["some","units"]
abbrev l8:=Hd.top 48
abbrev vH:List Str:=["ring","top","sizes","most","units"]
abbrev fM:=Hd.top 55
abbrev nZ:List Str:=["ring","k","waiting","cut","asks"]
abbrev vI:=Hd.top 54
abbrev JM:List Str:=["ring","k","waiting","free","ties","twice","g","h"]
abbrev ku:=Hd.top 56
abbrev vJ:List Str:=["ring","k","free","part","rest"]
abbrev fz:=Hd.top 53
abbrev rK:List Str:=["ring","top","scale","waiting","free","sending","k","size","part"]
abbrev vK:=Hd.top 52
abbrev JN:List Str:=["ring","top","greatest"]
abbrev kx:=Hd.top 58
abbrev zz:List Str:=["ring","cut","top"]
abbrev o6:=Hd.top 57
abbrev Dv:List Str:=["ring","one","other","top","greatest","most","cut","size"]
abbrev eL:=Hd.top 60
abbrev qz:List Str:=["ring","some","k","part"]
abbrev iT:=Hd.top 61
abbrev sY:List Str:=["ring","thing"]
abbrev nv:=Hd.top 62
abbrev yy:List Str:=["ring","thing"]
abbrev o7:=Hd.top 64
abbrev Dw:List Str:=["ring","greatest"]
abbrev vL:=Hd.top 66
abbrev JO:List Str:=["ring","thing","top"]
abbrev o8:=Hd.top 67
abbrev Dx:List Str:=["ring","thing","top"]
abbrev l9:=Hd.top 65
abbrev By:List Str:=["ring","thing"]
abbrev jm:=Hd.top 69
abbrev xA:List Str:=["ring","k"]
abbrev g6:=Hd.top 70
abbrev vM:List Str:=["ring","k"]
abbrev rL:=Hd.top 71
abbrev Gv:List Str:=["ring","k","l","low","high","first","last"]
abbrev ky:=Hd.top 72
abbrev vN:List Str:=["ring","sending"]
abbrev dF:=Hd.top 73
abbrev nI:List Str:=["ring","some","number","k","l"]
abbrev kB:=Hd.top 82
abbrev zA:List Str:=["part","way","amount"]
abbrev o9:=Hd.top 81
abbrev Dy:List Str:=["sending","slide","slid"]
abbrev fN:=Hd.top 78
abbrev n4:List Str:=["ring","k","way","l","other","taken"]
abbrev d3:=Hd.top 77
abbrev pd:List Str:=["thing","asks"]
abbrev rM:=Hd.top 79
abbrev Gw:List Str:=["ring","sending","k","way"]
abbrev pf:=Hd.top 80
abbrev Dz:List Str:=["ring","sending","slide"]
abbrev rN:=Hd.top 76
abbrev Gx:List Str:=["ring","sending","thing"]
abbrev vO:=Hd.top 75
abbrev JP:List Str:=["ring","sending","thing","slid","number","slide"]
abbrev ma:=Hd.top 85
abbrev Bz:List Str:=["ring","k","l","ways"]
abbrev gy:=Hd.top 84
abbrev t4:List Str:=["ring","sending","k","l","ways","slide"]
abbrev me:=Hd.top 83
abbrev BA:List Str:=["ring","sending","slid","slides","pair","slide"]
abbrev kC:=Hd.top 90
abbrev zB:List Str:=["ask","part"]
abbrev eM:=Hd.top 89
abbrev qC:List Str:=["ring","slid","parted","ways","k","ask"]
abbrev eN:=Hd.top 92
abbrev qD:List Str:=["ring","some","greatest","k"]
abbrev dh:=Hd.top 93
abbrev rO:List Str:=["ring","some"]
abbrev mf:=Hd.top 94
abbrev BB:List Str:=["ring","k"]
abbrev vP:=Hd.top 95
abbrev JQ:List Str:=["ring","sending","k","way","size","rising"]
abbrev jn:=Hd.top 91
abbrev xB:List Str:=["ring","slid","parted","ways","half","whole","k"]
abbrev g7:=Hd.top 88
abbrev vQ:List Str:=["ring","sending","thing","slid","parted"]
abbrev fO:=Hd.top 97
abbrev n5:List Str:=["ring","slid","parted","ways","half","whole","k"]
abbrev kD:=Hd.top 96
abbrev zC:List Str:=["ring","sending","slides"]
abbrev ph:=Hd.top 100
abbrev DA:List Str:=["_law_state","_law_many","_law_digit","_law_drawn","_law_turn"]
abbrev mh:=Hd.top 99
abbrev BC:List Str:=["_law_script","_law_k","_law_cell"]
abbrev iU:=Hd.top 116
abbrev tj:List Str:=["_law_script","_law_way","_law_places","_law_state","_law_rooms","_law_asks","_law_k","_law_one","_law_other"]
abbrev rP:=Hd.top 101
abbrev Gy:List Str:=["_law_top_here","_law_bottom","_law_one","_law_share"]
abbrev mi:=Hd.top 104
abbrev BD:List Str:=["_law_one","_law_other"]
abbrev mj:=Hd.top 106
abbrev BE:List Str:=["_law_one","_law_other"]
abbrev ml:=Hd.top 110
abbrev BF:List Str:=["_law_thing"]
abbrev mn:=Hd.top 111
abbrev BG:List Str:=["_law_thing"]
abbrev di:=Hd.top 112
abbrev jM:List Str:=["_law_ring","_law_thing","_law_k"]
abbrev pj:=Hd.top 107
abbrev DB:List Str:=["_law_ring","_law_k","_law_name","_law_place","_law_other","_law_size","_law_made"]
abbrev mq:=Hd.top 103
abbrev BH:List Str:=["_law_one","_law_other"]
abbrev pk:=Hd.top 102
abbrev DC:List Str:=["_law_one","_law_other"]
abbrev iV:=Hd.top 108
abbrev tw:List Str:=["_law_ring","_law_parts","_law_made","_law_k","_law_along","_law_rest","_law_tie"]
abbrev pq:=Hd.top 105
abbrev DD:List Str:=["_law_one","_law_other"]
abbrev rQ:=Hd.top 109
abbrev Gz:List Str:=["_law_ring","_law_parts","_law_best","_law_load","_law_room","_law_one"]
abbrev mr:=Hd.top 113
abbrev BI:List Str:=["_law_cut","_law_one","_law_other"]
abbrev kE:=Hd.top 114
abbrev zD:List Str:=["_law_ring","_law_cut","_law_whole_here","_law_name","_law_one","_law_other","_law_size"]
abbrev mv:=Hd.top 115
abbrev BJ:List Str:=["_law_ring","_law_cut"]
abbrev cq:=Hd.top 118
abbrev g8:List Str:=["_law_ring","_law_top_here","_law_sending","_law_cut","_law_parts","_law_own"]
abbrev dj:=Hd.top 117
abbrev jN:List Str:=["_law_ring","_law_top_here","_law_told","_law_some","_law_first_here","_law_last","_law_rooms"]
abbrev mw:=Hd.top 119
abbrev BK:List Str:=["_law_ring","_law_top_here","_law_first_here","_law_last"]
abbrev JR:=Hd.top 120
abbrev R4:List Str:=["_law_script","_law_ring","_law_told","_law_top_here","_law_sending","_law_cut","_law_found"]
end
def bR:FS:=λls js=>∃a b:Int,ls=[.d (.int a),.d (.int b)]/\js (.d (.int (Int.gcd a b))) ls
def pw:W Fl:=(aV (br 2 (au j8 (ai 0) (ai 1)))
  (aV (br 0 (ai 1))
  (br 1 (ai 2))))
def fA:W Fl:=(aV (AQ (aM (au um (ai 1) (wC (.int 0)))) pw)
  (a9 (aZ F5 (aq (ai 0) aC))))
abbrev ab4(n k:Nat)(f:FS)(m:W Fl):Prop:=∀ls js,ls.length=n->f ls js->m (ls++List.replicate k .un) (aL ls js)
theorem pA:ab4 2 1 bR fA:=by
 rintro ls js - ⟨a,b,rfl,h⟩;walk_at"fA";refine⟨λn Z=>∃x y r,Z=[.d (.int x),.d (.int y),r]/\Int.gcd x y=Int.gcd a b/\n=y.natAbs,⟨_,a,b,_,rfl,rfl,rfl⟩,?_⟩;rintro n Z ⟨x,y,r,rfl,hg,rfl⟩;walk_at"w";split
 .
  rename_i hy;have hy:y≠0:=by simpa using hy
  exact⟨hy,_,nU x hy,y,x.fmod y,_,rfl,by rw[Er];exact hg,rfl⟩
 .
  rename_i hy;have hy:y=0:=by simpa using hy
  subst hy;refine⟨_,ag (ag aD),?_⟩
  have e:(if x<0 then -x else x)=((Int.gcd a b:Nat):Int):=by rw[<- hg,Int.gcd_zero_right];split<;>omega
  rw[e];exact h
def g9:FS:=λls js=>∃a b:Nat,ls=[.d (.int a),.d (.int b)]/\0<b/\a<2^4400/\b<2^4400/\js (.d (.int (Nat.lcm a b))) ls
def jo:W Fl:=(a9 (au bp (au tT (ai 0) (av bR (aq (ai 0) (aq (ai 1) aC)))) (ai 1)))
theorem t5:ab4 2 0 g9 jo:=by
 rintro ls js - ⟨a,b,rfl,hb,ha,hb2,h⟩;walk_at"jo";refine⟨_,_,rfl,?_⟩;walk_at"w";have g0:0<Int.gcd (a:Int) (b:Int):=Nat.gcd_pos_of_pos_right _ hb;have g1:Int.gcd (a:Int) (b:Int)<=b:=Nat.gcd_le_right _ hb;have e1:((a:Int).fdiv (Int.gcd (a:Int) (b:Int):Int)).natAbs<=a:=by rw[aa2 _ xL];show(((a:Int) / ((Nat.gcd a b:Nat):Int))).natAbs<=a;rw[<- Int.natCast_ediv,Z4];exact Nat.div_le_self _ _
 refine⟨xL,?_,?_,?_,?_⟩
 . rw[Z4];exact ZS g1 (k5 hb2 (ZN xp xp))
 . exact qn (ZS e1 ha) xp
 . exact qn (n:=4400) (by rw[Z4];exact hb2) xp
 . rw[O9 hb];exact⟨_,ag (ag aD),h⟩
def d4:FS:=λls js=>(∃i:Int,ls=[.d (.int i)]/\js (.d (.bl true)) ls)∨∃d:D,ls=[.d d]/\(∀i,d≠.int i)/\js (.d (.bl false)) ls
def ny:W Fl:=(a9 (iG (Wi (lK "int") (ai 0)) (FY (aM (Wi (lK "bool") (ai 0))))))
theorem BL:ab4 1 0 d4 ny:=by
 rintro ls js-(⟨i,rfl,h⟩|⟨d,rfl,hd,h⟩)
 . walk_at"ny";exact⟨_,ag aD,h⟩
 .
  unfold ny
  cases d with
  |int i=>exact absurd rfl (hd i)
  |_=>walk_at"w"; exact⟨_,ag aD,h⟩
def cK:FS:=λls js=>∃(d:D)(n:Int),ls=[.d d,.d (.int n)]/\js (.d (.bl (vC d n))) ls
def fB:W Fl:=(a9 (iG (av d4 (aq (ai 0) aC)) (uV Ht uR (wC (.int 0)) (ai 0) (ai 1))))
theorem pB:ab4 2 0 cK fB:=by
 rintro ls js - ⟨d,n,rfl,h⟩;unfold fB;by_cases hd:∃i,d=.int i
 .
  obtain⟨i,rfl⟩:=hd;have h:js (.d (.bl (decide (0<=i/\i<n)))) [.d (.int i),.d (.int n)]:=h;walk_at"w";refine .inl ⟨i,rfl,?_⟩;walk_at"w";by_cases c:0<=i
  .
   rw[if_pos c];have e:decide (0<=i/\i<n)=decide (i<n):=by rw[abb];omega
   rw[e]at h;exact⟨_,ag (ag aD),h⟩
  . rw[if_neg c];have e:decide (0<=i/\i<n)=false:=ZP xL;rw[e]at h;exact⟨_,ag (ag aD),h⟩
 .
  have e:vC d n=false:=by
   unfold vC;split
   . exact absurd ⟨_,rfl⟩ hd
   . rfl
  rw[e]at h;walk_at"w";refine .inr ⟨d,rfl,λi e=>hd ⟨i,e⟩,?_⟩;walk_at"w";exact⟨_,ag (ag aD),h⟩
noncomputable def Ub:D->Bool
 |.tup [.int _,.int _]=>true
 |_=>false
theorem PQ{d:D}(h:Ub d=true):∃i j,d=.tup [.int i,.int j]:=by
 unfold Ub at h;split at h
 . exact⟨_,_,rfl⟩
 . cases h
theorem JS(d:D):(∃i j,d=.tup [.int i,.int j])∨(∀i j,d≠.tup [.int i,.int j]):=by
 cases h:Ub d with
 |true=>exact .inl (PQ h)
 |false=>exact .inr λi j e=>by subst e;cases h
def dn:FS:=λls js=>(∃i j:Int,ls=[.d (.tup [.int i,.int j])]/\js (.d (.bl true)) ls)∨∃d:D,ls=[.d d]/\(∀i j,d≠.tup [.int i,.int j])/\js (.d (.bl false)) ls
def dS:W Fl:=(a9 (iG (Wi (lK "tuple") (ai 0)) (iG (au qV (aZ b8 (aq (ai 0) aC)) (wC (.int 2))) (iG (av d4 (aq (au aE (ai 0) (wC (.int 0))) aC)) (av d4 (aq (au aE (ai 0) (wC (.int 1))) aC))))))
theorem qE:ab4 1 0 dn dS:=by
 rintro ls js-(⟨i,j,rfl,h⟩|⟨d,rfl,hd,h⟩)
 . walk_at"dS";refine .inl ⟨_,rfl,?_⟩;walk_at"w";refine .inl ⟨_,rfl,?_⟩;walk_at"w";exact⟨_,ag aD,h⟩
 .
  unfold dS;have Vx:aL [.d d] js (.rt (.d (.bl false))) [.d d]:=⟨_,ag aD,h⟩;by_cases ht:∃xs,d=.tup xs
  .
   obtain⟨xs,rfl⟩:=ht;by_cases hl:xs.length=2
   .
    obtain⟨x,y,rfl⟩:∃x y,xs=[x,y]:=by rcases xs with _|⟨x,_|⟨y,_|⟨z,r⟩⟩⟩<;>simp at hl;exact⟨_,_,rfl⟩
    have wh:∀z:D,(∃i,z=.int i)∨(∀i,z≠.int i):=λz=>by cases z<;>simp
    walk_at"w";rcases wh x with⟨i,rfl⟩|hx
    .
     refine .inl ⟨_,rfl,?_⟩;rcases wh y with⟨j,rfl⟩|hy
     . exact absurd rfl (hd i j)
     . walk_at"w";refine .inr ⟨_,rfl,hy,?_⟩;walk_at"w";exact Vx
    . refine .inr ⟨_,rfl,hx,?_⟩;walk_at"w";exact Vx
   .
    walk_at"w";have e:¬((xs.length:Int)=2):=by omega
    simp only[e,abK];exact Vx
  .
   have ei:oQ "tuple" d=false:=by
    cases d<;>first
     |exact absurd ⟨_,rfl⟩ ht
     |rfl
   walk_at"w";rw[ei];walk_at"w";exact Vx
def hJ:FS:=λls js=>∃d:D,ls=[.d d]/\js (.d (.bl (kr d))) ls
def nA:W Fl:=(a9 (iG (av dn (aq (ai 0) aC)) (iG (au QV (au aE (ai 0) (wC (.int 1))) (wC (.int 1))) (au qV (av bR (aq (au aE (ai 0) (wC (.int 0))) (aq (au aE (ai 0) (wC (.int 1))) aC))) (wC (.int 1))))))
theorem BM:ab4 1 0 hJ nA:=by
 rintro ls js - ⟨d,rfl,h⟩;by_cases hd:∃i j,d=.tup [.int i,.int j]
 .
  obtain⟨i,j,rfl⟩:=hd;walk_at"nA";refine .inl ⟨_,_,rfl,?_⟩;walk_at"w";have e:kr (.tup [.int i,.int j])=(decide (1<=j) && decide ((Int.gcd i j:Int)=1)):=rfl;rw[e]at h;split
  . rename_i hj;refine⟨_,_,rfl,?_⟩;walk_at"w";have hj':(1:Int)<=j:=hj;rw[aaa hj',aaR]at h;exact⟨_,ag aD,h⟩
  . rename_i hj;have hj':¬(1:Int)<=j:=hj;rw[ZP hj',aaD]at h;exact⟨_,ag aD,h⟩
 . have hn:∀i j,d≠.tup [.int i,.int j]:=λi j e=>hd ⟨i,j,e⟩;rw[zj hn]at h;walk_at"nA";refine .inr ⟨_,rfl,hn,?_⟩;walk_at"w";exact⟨_,ag aD,h⟩
def hU:FS:=λls js=>∃t b:Int,ls=[.d (.int t),.d (.int b)]/\b≠0/\b.natAbs<2^9000/\js (.d (Wz (Rat.divInt t b))) ls
def zE:W Fl:=(aV (br 2 (bz (av bR (aq (ai 0) (aq (ai 1) aC)))))
  (aV (Wj (aM (au uR (ai 1) (wC (.int 0)))) (br 2 (Wi KR (ai 2))) bF)
  (a9 (lz (aq (au tT (ai 0) (ai 2)) (aq (au tT (ai 1) (ai 2)) aC))))))
theorem GA:ab4 2 1 hU zE:=by
 rintro ls js - ⟨t,b,rfl,hb,hz,h⟩;walk_at"zE";refine⟨t,b,rfl,?_⟩;walk_at"w";have h1:=Es (t:=t) hb;have h2:=ZS (Et (t:=t) hb) hz
 have Vx:∀{g:Int}{Z:Ev},g=dC t b->g≠0/\g.natAbs<2^9000/\g≠0/\g.natAbs<2^9000/\2<=sizeLine/\aL [.d (.int t),.d (.int b)] js (.rt (.d (.tup [.int (t.fdiv g),.int (b.fdiv g)]))) Z:=λ{g Z} e=>by
  have e1:g≠0:=by rw[e];exact h1
  have e2:g.natAbs<2^9000:=by rw[e];exact h2
  refine⟨e1,e2,e1,e2,xp,_,ag (ag aD),?_⟩;rw[EM hb e];exact h
 split
 . rename_i hlt;exact Vx (by simp[dC,hlt])
 . rename_i hlt;exact Vx (by simp[dC,hlt])
def zF:FS:=λls js=>∃t b:Int,ls=[.d (.int t),.d (.int b)]/\b≠0/\b.natAbs<2^9000/\js (.d (Wz (Rat.divInt t b))) ls
def DE:W Fl:=(aV (Wj (Wg (oJ (aM (av d4 (aq (ai 0) aC)))) (Wg (oJ (aM (av d4 (aq (ai 1) aC)))) (aM (au qV (ai 1) (wC (.int 0)))))) AN bF)
  (a9 (av hU (aq (ai 0) (aq (ai 1) aC)))))
theorem JT:ab4 2 0 zF DE:=by rintro ls js - ⟨t,b,rfl,hb,hb2,h⟩;walk_at"DE";refine .inl ⟨_,rfl,?_⟩;walk_at"w";refine .inl ⟨_,rfl,?_⟩;walk_at"w";rw[if_neg hb];refine⟨_,_,rfl,hb,hb2,?_⟩;exact⟨_,ag (ag aD),h⟩
def jq:FS:=λls js=>∃p q:Rat,ls=[.d (Wz p),.d (Wz q)]/\RB 400000 p/\RB 400000 q/\p.den*q.den<2^9000/\js (.d (Wz (p+q))) ls
def JU:W Fl:=(a9 (av hU (aq (bz (au jE (au bp (au aE (ai 0) (wC (.int 0))) (au aE (ai 1) (wC (.int 1)))) (au bp (au aE (ai 1) (wC (.int 0))) (au aE (ai 0) (wC (.int 1)))))) (aq (bz (au bp (au aE (ai 0) (wC (.int 1))) (au aE (ai 1) (wC (.int 1))))) aC))))
theorem MC:ab4 2 0 jq JU:=by rintro ls js - ⟨p,q,rfl,hp,hq,hz,h⟩;unfold JU;simp only[Wz];walk_at"w";refine⟨hp.bn xp,hq.bd xp,hq.bn xp,hp.bd xp,hp.bd xp,hq.bd xp,_,_,rfl,oT p q,by rw[kd];exact hz,_,ag (ag aD),?_⟩;rw[A2];exact h
theorem FE{p q:Rat}{js:L->List L->Prop}(hp:RB 4400 p)(hq:RB 4400 q)(h:js (.d (Wz (p+q))) [.d (Wz p),.d (Wz q)]):jq [.d (Wz p),.d (Wz q)] js :=
 ⟨p,q,rfl,hp.mono xp,hq.mono xp,k5 (bc hp.2 hq.2) (ZN xp xp),h⟩
def dU:FS:=λls js=>∃p q:Rat,ls=[.d (Wz p),.d (Wz q)]/\RB 400000 p/\RB 400000 q/\p.den*q.den<2^9000/\js (.d (Wz (p-q))) ls
def DF:W Fl:=(a9 (av hU (aq (au nE (au bp (au aE (ai 0) (wC (.int 0))) (au aE (ai 1) (wC (.int 1)))) (au bp (au aE (ai 1) (wC (.int 0))) (au aE (ai 0) (wC (.int 1))))) (aq (bz (au bp (au aE (ai 0) (wC (.int 1))) (au aE (ai 1) (wC (.int 1))))) aC))))
theorem JV:ab4 2 0 dU DF:=by rintro ls js - ⟨p,q,rfl,hp,hq,hz,h⟩;unfold DF;simp only[Wz];walk_at"w";refine⟨hp.bn xp,hq.bd xp,hq.bn xp,hp.bd xp,hp.bd xp,hq.bd xp,_,_,rfl,oT p q,by rw[kd];exact hz,_,ag (ag aD),?_⟩;rw[M8];exact h
theorem gi{p q:Rat}{js:L->List L->Prop}(hp:RB 4400 p)(hq:RB 4400 q)(h:js (.d (Wz (p-q))) [.d (Wz p),.d (Wz q)]):dU [.d (Wz p),.d (Wz q)] js :=
 ⟨p,q,rfl,hp.mono xp,hq.mono xp,k5 (bc hp.2 hq.2) (ZN xp xp),h⟩
def qF:FS:=λls js=>∃p q:Rat,ls=[.d (Wz p),.d (Wz q)]/\RB 4400 p/\RB 4400 q/\js (.d (Wz (p*q))) ls
def DG:W Fl:=(a9 (av hU (aq (bz (au bp (au aE (ai 0) (wC (.int 0))) (au aE (ai 1) (wC (.int 0))))) (aq (bz (au bp (au aE (ai 0) (wC (.int 1))) (au aE (ai 1) (wC (.int 1))))) aC))))
theorem JW:ab4 2 0 qF DG:=by
 rintro ls js - ⟨p,q,rfl,hp,hq,h⟩;walk_at"DG";refine⟨hp.bn xp,hq.bn xp,hp.bd xp,hq.bd xp,_,_,rfl,oT p q,?_,_,ag (ag aD),?_⟩
 . rw[kd];exact k5 (bc hp.2 hq.2) (ZN xp xp)
 . rw[Ip];exact h
def zG:FS:=λls js=>∃p q:Rat,ls=[.d (Wz p),.d (Wz q)]/\RB 4400 p/\RB 4400 q/\q≠0/\js (.d (Wz (p / q))) ls
def JX:W Fl:=(aV (Wj (aM (au qV (au aE (ai 1) (wC (.int 0))) (wC (.int 0)))) AN bF)
  (a9 (av hU (aq (bz (au bp (au aE (ai 0) (wC (.int 0))) (au aE (ai 1) (wC (.int 1))))) (aq (bz (au bp (au aE (ai 0) (wC (.int 1))) (au aE (ai 1) (wC (.int 0))))) aC)))))
theorem MD:ab4 2 0 zG JX:=by
 rintro ls js - ⟨p,q,rfl,hp,hq,h0,h⟩;walk_at"JX";rw[if_neg (Ba h0)];walk_at"w";refine⟨hp.bn xp,hq.bd xp,hp.bd xp,hq.bn xp,_,_,rfl,abw (lU p) (Ba h0),?_,_,ag (ag aD),?_⟩
 . rw[aaV,Z4];exact k5 (bc hp.2 hq.1) (ZN xp xp)
 . rw[EK p h0];exact h
def bM:FS:=λls js=>∃p q:Rat,ls=[.d (Wz p),.d (Wz q)]/\RB 400000 p/\RB 400000 q/\js (.d (.bl (decide (p<q)))) ls
def DH:W Fl:=(a9 (au uR (au bp (au aE (ai 0) (wC (.int 0))) (au aE (ai 1) (wC (.int 1)))) (au bp (au aE (ai 1) (wC (.int 0))) (au aE (ai 0) (wC (.int 1))))))
theorem JY:ab4 2 0 bM DH:=by rintro ls js - ⟨p,q,rfl,hp,hq,h⟩;walk_at"DH";refine⟨hp.bn xp,hq.bd xp,hq.bn xp,hp.bd xp,_,ag (ag aD),?_⟩;rw[Ru];exact h
def rR:FS:=λls js=>∃p q:Rat,ls=[.d (Wz p),.d (Wz q)]/\RB 400000 p/\RB 400000 q/\js (.d (Wz (if p<q then q else p))) ls
def vR:W Fl:=(a9 (GU (aM (av bM (aq (ai 0) (aq (ai 1) aC)))) (ai 1) (ai 0)))
theorem DI:ab4 2 0 rR vR:=by
 rintro ls js - ⟨p,q,rfl,hp,hq,h⟩;walk_at"vR";refine⟨p,q,rfl,hp,hq,?_⟩;walk_at"w";split
 . rename_i hl;rw[if_pos hl]at h;exact⟨_,ag (ag aD),h⟩
 . rename_i hl;rw[if_neg hl]at h;exact⟨_,ag (ag aD),h⟩
def vS:FS:=λls js=>∃p q:Rat,ls=[.d (Wz p),.d (Wz q)]/\RB 400000 p/\RB 400000 q/\js (.d (Wz (if q<p then q else p))) ls
def zH:W Fl:=(a9 (GU (aM (av bM (aq (ai 1) (aq (ai 0) aC)))) (ai 1) (ai 0)))
theorem GB:ab4 2 0 vS zH:=by
 rintro ls js - ⟨p,q,rfl,hp,hq,h⟩;walk_at"zH";refine⟨q,p,rfl,hq,hp,?_⟩;walk_at"w";split
 . rename_i hl;rw[if_pos hl]at h;exact⟨_,ag (ag aD),h⟩
 . rename_i hl;rw[if_neg hl]at h;exact⟨_,ag (ag aD),h⟩
def qG:FS:=λls js=>∃(qs:List Rat)(x:D),ls=[.d x]/\(x=.lst (qs.map Wz)∨x=.tup (qs.map Wz))/\qs.length<=63/\(∀q∈qs,RB 4400 q)/\RA qs/\js (.d (Wz (lL qs))) ls
def jO:W Fl:=(br 1 (av jq (aq (ai 1) (aq (ai 2) aC))))
def zJ:W Fl:=(aV (br 1 (wC (.tup [(.int 0),(.int 1)])))
  (aV (oO (qY (ai 0)) (aU 2) jO)
  (a9 (jD 1))))
theorem zK{x:D}{js:Fl->Ev->Prop}:∀(qs:List Rat)(acc:Rat)(n:Nat)(r:L),qs.length<=63->n+4401*qs.length<=400000->RB n acc->(∀q∈qs,RB 4400 q)->acc.den*Cr qs<2^9000->(∀r',js .nx [.d x,.d (Wz (qs.foldl (·+·) acc)),r']) ->
  fW (aU 2) jO (qs.map Wz) [.d x,.d (Wz acc),r] js
 |[],acc,n,r,_,_,_,_,_,h=>h r
 | q::qs,acc,n,r,hl,hn,ha,hq,hd,h=>by have hd':acc.den*(q.den*Cr qs)<2^9000:=hd;have hq1:=hq q k4;have hlc:(q::qs).length=qs.length+1:=rfl;have dpos:0<Cr qs:=uw qs;have hz:acc.den*q.den<2^9000:=ZS (by rw[<- Nat.mul_assoc];exact Nat.le_mul_of_pos_right _ dpos) hd';show fW _ _ (Wz q::qs.map Wz) _ _;unfold fW jO;walk_at"w";refine⟨acc,q,rfl,ha.mono xL,hq1.mono xp,hz,?_⟩;refine zK qs (acc+q) (n+4400+1) _ xL xL (ha.add hq1) (λz hz=>hq z (fI _ hz)) (ZS ?_ hd') h;rw[<- Nat.mul_assoc];exact Nat.mul_le_mul_right _ (F8 acc q)
theorem vT{x:D}{E:Nat}(e0:0<E)(e1:E<2^4400){js:Fl->Ev->Prop}:∀(qs:List Rat)(acc:Rat)(n:Nat)(r:L),qs.length<=63->n+4401*qs.length<=400000->RB n acc->(∀q∈qs,RB 4400 q)->acc.den∣E->(∀q∈qs,q.den∣E)->(∀r',js .nx [.d x,.d (Wz (qs.foldl (·+·) acc)),r']) ->
  fW (aU 2) jO (qs.map Wz) [.d x,.d (Wz acc),r] js
 |[],acc,n,r,_,_,_,_,_,_,h=>h r
 | q::qs,acc,n,r,hl,hn,ha,hq,hd,hds,h=>by have hq1:=hq q k4;have hq2:=hds q k4;have hlc:(q::qs).length=qs.length+1:=rfl;have hz:acc.den*q.den<2^9000:=k5 (bc (m:=4400) (n:=4400) (ZS (aaY e0 hd) e1) (ZS (aaY e0 hq2) e1)) (ZN xp xp);show fW _ _ (Wz q::qs.map Wz) _ _;unfold fW jO;walk_at"w";refine⟨acc,q,rfl,ha.mono xL,hq1.mono xp,hz,?_⟩;exact vT e0 e1 qs (acc+q) (n+4400+1) _ xL xL (ha.add hq1) (λz hz=>hq z (fI _ hz)) (IS e0 hd hq2) (λz hz=>hds z (fI _ hz)) h
theorem GC:ab4 1 2 qG zJ:=by
 rintro ls js - ⟨qs,x,rfl,hx,hl,hq,hd,h⟩;unfold zJ;have Vx:∀r',aL [.d x] js (.rt (.d (Wz (lL qs)))) [.d x,.d (Wz (lL qs)),r']:=λr'=>⟨_,ag aD,h⟩;rcases hx with rfl|rfl
 .
  walk_at"w";rcases hd with hd|⟨E,e0,e1,hd⟩
  . exact zK qs 0 1 .un hl xL ⟨xp,xp⟩ hq (by show 1*_<_;rw[Nat.one_mul];exact hd) λr'=>Vx r'
  . exact vT e0 e1 qs 0 1 .un hl xL ⟨xp,xp⟩ hq (abY _) hd λr'=>Vx r'
 .
  walk_at"w";rcases hd with hd|⟨E,e0,e1,hd⟩
  . exact zK qs 0 1 .un hl xL ⟨xp,xp⟩ hq (by show 1*_<_;rw[Nat.one_mul];exact hd) λr'=>Vx r'
  . exact vT e0 e1 qs 0 1 .un hl xL ⟨xp,xp⟩ hq (abY _) hd λr'=>Vx r'
def vU:FS:=λls js=>∃(R:aB)(d:D),ls=[.d (aI R),.d d]/\js (.d (.bl (GV R.n d))) ls
def zL:W Fl:=(a9 (iG (av dn (aq (ai 1) aC)) (uZ (wC (.int 0)) [(Ht,(au aE (ai 1) (wC (.int 0)))),(Ht,(au aE (ai 1) (wC (.int 1)))),(uR,(aZ b8 (aq (au aE (ai 0) (wC (.int 0))) aC)))])))
theorem GD:ab4 2 0 vU zL:=by
 rintro ls js - ⟨R,d,rfl,h⟩;walk_at"zL";rcases JS d with⟨i,j,rfl⟩|hd
 .
  refine .inl ⟨i,j,rfl,?_⟩;walk_at"w";have Vx:∀b:Bool,b=GV R.n (.tup [.int i,.int j])->aL [.d (aI R),.d (.tup [.int i,.int j])] js (.rt (.d (.bl b))) [.d (aI R),.d (.tup [.int i,.int j])]:=λb hb=>by subst hb;exact⟨_,ag (ag aD),h⟩
  have ec:GV R.n (.tup [.int i,.int j])=decide (0<=i/\i<=j/\j<(R.n:Int)):=rfl;by_cases c1:0<=i<;>by_cases c2:i<=j<;>by_cases c3:j<(R.n:Int)<;>simp only[c1,c2,c3,aaX,aa3,abX,abK]<;>refine Vx _ ?_<;>rw[ec]<;>simp only[c1,c2,c3]<;>decide
 . refine .inr ⟨d,rfl,hd,?_⟩;walk_at"w";rw[Pf hd]at h;exact⟨_,ag (ag aD),h⟩
def iW:FS:=λls js=>∃(c:Nat×Nat)(p:Nat),ls=[.d (dR c),.d (.int p)]/\js (.d (.bl (fS c p))) ls
def pC:W Fl:=(a9 (uV uR Ht (au aE (ai 0) (wC (.int 0))) (ai 1) (au aE (ai 0) (wC (.int 1)))))
theorem zM:ab4 2 0 iW pC:=by
 rintro ls js - ⟨c,p,rfl,h⟩;walk_at"pC";unfold fS at h;split
 .
  rename_i h1;refine⟨_,ag (ag aD),?_⟩;have e:decide ((p:Int)<=(c.2:Int))=decide (c.1<p/\p<=c.2):=by rw[abb];omega
  rw[e];exact h
 . rename_i h1;refine⟨_,ag (ag aD),?_⟩;rw[ZP (show ¬(c.1<p/\p<=c.2) by omega)]at h;exact h
def cR:FS:=λls js=>∃(c:Nat×Nat)(i j:Nat),ls=[.d (dR c),.d (.int i),.d (.int j)]/\js (.d (.bl (apart c i j))) ls
def jr:W Fl:=(a9 (au um (av iW (aq (ai 0) (aq (ai 1) aC))) (av iW (aq (ai 0) (aq (ai 2) aC)))))
theorem t6:ab4 3 0 cR jr:=by
 rintro ls js - ⟨c,i,j,rfl,h⟩;walk_at"jr";refine⟨c,i,rfl,?_⟩;walk_at"w";refine⟨c,j,rfl,?_⟩;walk_at"w";refine⟨_,ag (ag (ag aD)),?_⟩;have e:(!decide (fS c i=fS c j))=apart c i j:=by unfold apart;cases fS c i<;>cases fS c j<;>rfl
 rw[e];exact h
theorem mx{α β:Type}(p:α->Bool)(f:α->β):∀xs:List α,xs.filterMap (λa=>if p a=true then some (f a)else none)=(xs.filter p).map f
 |[]=>rfl
 | x::xs=>by
  rw[aaE,aao];cases e:p x
  . simp[mx p f xs]
  . simp[mx p f xs]
def qH:FS:=λls js=>∃(R:aB)(c:Nat×Nat),ls=[.d (aI R),.d (dR c)]/\R.Ok/\js (.d (Wz (bH R.asks c))) ls
def yz:W L:=(au aE (ai 0) (wC (.int 3)))
def zN:W Fl:=(a9 (av qG (aq (bz (fj 1 [1] (qY (au aE (ai 0) (wC (.int 1)))) (aU 0) (aM (av cR (aq (ai 1) (aq (au aE (ai 0) (wC (.int 1))) (aq (au aE (ai 0) (wC (.int 2))) aC))))) yz)) aC)))
theorem GE:ab4 2 0 qH zN:=by
 rintro ls js - ⟨R,c,rfl,hR,h⟩;have hfew:=hR.few;walk_at"zN";refine⟨ZR hfew xp,?_⟩
 refine fZ (h:=λa:WW=>if apart c a.one a.other=true then some (Wz a.size)else none) _ _ _ (λa ha Q q=>?_) λl' cc=>?_
 .
  walk_at"w";refine⟨c,a.one,a.other,rfl,?_⟩;walk_at"w";unfold yz;cases e:apart c a.one a.other
  . rw[e]at q;walk_at"w";exact q
  . rw[e]at q;walk_at"w";exact q
 .
  walk_at"w";have fl:=aaM (λa:WW=>apart c a.one a.other) R.asks
  have e:R.asks.filterMap (λa:WW=>if apart c a.one a.other=true then some (Wz a.size)else none)=((R.asks.filter λa=>apart c a.one a.other).map (·.size)).map Wz:=by rw[mx (λa:WW=>apart c a.one a.other) (λa=>Wz a.size),aag];rfl
  rw[e];obtain⟨E,e0,e1,hd⟩:=hR.cd;refine⟨_,_,rfl,.inl rfl,by rw[ZL];omega,λq hq=>?_,.inr ⟨E,e0,k5 e1 (ZN xp xp),λq hq=>?_⟩,⟨_,ag (ag aD),h⟩⟩
  . obtain⟨a,ha,rfl⟩:=ZW.mp hq;exact(hR.rb (aam.mp ha).1).mono xp
  . obtain⟨a,ha,rfl⟩:=ZW.mp hq;exact hd a (aam.mp ha).1
def kF:FS:=λls js=>∃(R:aB)(c:Nat×Nat),ls=[.d (aI R),.d (dR c)]/\R.Ok/\bN R.n c/\js (.d (Wz (gZ R c))) ls
def rS:W Fl:=(a9 (av jq (aq (au aE (au aE (ai 0) (wC (.int 0))) (au aE (ai 1) (wC (.int 0)))) (aq (au aE (au aE (ai 0) (wC (.int 0))) (au aE (ai 1) (wC (.int 1)))) aC))))
theorem BN:ab4 2 0 kF rS:=by
 rintro ls js - ⟨R,c,rfl,hR,hc,h⟩;have h1:c.1<R.n:=by have:=hc.1;have:=hc.2;omega
 walk_at"rS";refine⟨_,yZ h1,?_⟩;walk_at"w";refine⟨_,yZ hc.2,?_⟩;exact FE ((dY hR h1).2.mono xp) ((dY hR hc.2).2.mono xp) ⟨_,ag (ag aD),h⟩
def kG:FS:=λls js=>∃(R:aB)(c:Nat×Nat),ls=[.d (aI R),.d (dR c)]/\R.Ok/\bN R.n c/\js (.d (Wz (ba R c))) ls
def rT:W Fl:=(a9 (av zG (aq (bz (av qH (aq (ai 0) (aq (ai 1) aC)))) (aq (bz (av kF (aq (ai 0) (aq (ai 1) aC)))) aC))))
theorem BO:ab4 2 0 kG rT:=by rintro ls js - ⟨R,c,rfl,hR,hc,h⟩;obtain⟨r1,r2⟩:=dP hR hc;walk_at"rT";refine⟨R,c,rfl,hR,?_⟩;walk_at"w";refine⟨R,c,rfl,hR,hc,?_⟩;walk_at"w";exact⟨_,_,rfl,(jJ hR c).mono xp,r2.mono xp,(by grind),_,ag (ag aD),h⟩
def kH:FS:=λls js=>∃(R:aB),ls=[.d (aI R)]/\R.Ok/\∀c,js (.own c ((lW R.n).map dR)) ls
def tD:W L:=(lz (aq (ai 1) (aq (ai 0) aC)))
def tE:W Fl:=(AM (SG 1 (fj 1 [2] (F4 (ai 2) (aZ b8 (aq (au aE (ai 0) (wC (.int 0))) aC))) (aU 0) dO tD)))
def rV:W Fl:=(aV (br 1 (AO aC))
  (aV (oO (oN (aZ b8 (aq (au aE (ai 0) (wC (.int 0))) aC))) (aU 2) tE)
  (a9 (jD 1))))
theorem GF{α:Type}(f:Nat->List α)(k:Nat):(List.range (k+1)).flatMap f=(List.range k).flatMap f++f k:=by rw[List.range_succ,List.flatMap_append];simp
theorem JZ{n k:Nat}(hn:n<=12)(hk:k<=n):((List.range k).flatMap λg=>(List.range (n-g)).map λi=>(g,g+i)).length<=144:=by
 have:∀(m:Fin 13)(j:Fin 13),((List.range j.1).flatMap λg=>(List.range (m.1-g)).map λi=>(g,g+i)).length<=144:=by decide
 exact this ⟨n,xL⟩ ⟨k,xL⟩
theorem BP:ab4 1 2 kH rV:=by
 rintro ls js - ⟨R,rfl,hR,h⟩;have hhi:=hR.hi;walk_at"rV";refine⟨xp,λc=>⟨⟨xL,xL⟩,?_⟩⟩;rw[aak];refine qm _ (λk Z=>∃x2,Z=[.d (aI R),.own c (((List.range k).flatMap λg=>(List.range (R.n-g)).map λi=>(g,g+i)).map dR),x2]) _ ⟨_,rfl⟩ ?_ ?_
 .
  rintro g Z hg ⟨x2,rfl⟩ Q h1 h2 h3 h4;walk_at"tE";refine⟨⟨xL,xL⟩,⟨xL,xL⟩,?_⟩;have e:((R.n:Int)-(g:Int)).toNat=R.n-g:=by omega
  have e2:q5 (g:Int) (R.n-g)=(List.range (R.n-g)).map λ(i:Nat)=>D.int ((g:Int)+(i:Int)):=rfl;rw[e,e2];refine⟨by rw[ZL,aac];exact ZR (show R.n-g<=12 by omega) xp,?_⟩;refine df (h:=λi=>dR (g,g+i)) _ _ _ (λi hi Q' q=>?_) λl' a=>?_
  .
   walk_at"tD";refine⟨xp,?_⟩;have e3:D.tup [.int (g:Int),.int ((g:Int)+(i:Int))]=dR (g,g+i):=by unfold dR;show _=D.tup [.int (g:Int),.int ((g+i:Nat):Int)];rw[Int.natCast_add]
   rw[e3];exact q
  .
   walk_at"w";have hl:=JZ (k:=g) hhi xL;refine⟨?_,h1 _ ⟨.d (.int g),?_⟩⟩
   . rw[aac];exact ZR (show _<=200 by omega) xp
   . rw[GF,aaW,aag];rfl
 . rintro Z ⟨x2,rfl⟩;walk_at"w";exact⟨_,ag aD,h c⟩
noncomputable def vV(n i j:Nat):List (Nat×Nat):=(lW n).filter λc=>apart c i j
theorem kI{α β:Type}(p:α->Bool)(f:α->β):∀xs:List α,xs.filterMap (λa=>if p a=true then some (f a)else none)=(xs.filter p).map f
 |[]=>rfl
 | x::xs=>by
  rw[aaE,aao];cases e:p x
  . simp[kI p f xs]
  . simp[kI p f xs]
def kJ:FS:=λls js=>∃(R:aB)(i j:Nat),ls=[.d (aI R),.d (.int i),.d (.int j)]/\R.Ok/\∀c,js (.own c ((vV R.n i j).map dR)) ls
def n6:W L:=(ai 0)
def my:W Fl:=(a9 (fj 1 [1,2] (qY (av kH (aq (ai 0) aC))) (aU 0) (aM (av cR (aq (ai 0) (aq (ai 1) (aq (ai 2) aC))))) n6))
theorem xC:ab4 3 0 kJ my:=by
 rintro ls js - ⟨R,i,j,rfl,hR,h⟩;have hhi:=hR.hi;have hcl:=Fb hhi;walk_at"my";refine⟨R,rfl,hR,λ_=>?_⟩;walk_at"w";refine⟨ZR hcl xp,?_⟩
 refine fZ (h:=λc=>if apart c i j=true then some (dR c)else none) _ _ _ (λc hc Q q=>?_) λl' cc=>?_
 .
  walk_at"w";refine⟨c,i,j,rfl,?_⟩;walk_at"w";unfold n6;cases e:apart c i j
  . rw[e]at q;walk_at"w";exact q
  . rw[e]at q;walk_at"w";exact q
 . walk_at"w";rw[kI (λc=>apart c i j) dR];exact⟨_,ag (ag (ag aD)),h cc⟩
def b9:FS:=λls js=>∃(R:aB),ls=[.d (aI R)]/\R.Ok/\js (.d (gP (bB R))) ls
def lC:W Fl:=(aV (br 3 (bz (av kG (aq (ai 0) (aq (ai 2) aC)))))
  (Wj (Wg (aM (au CL (ai 1) (wC .non))) (aM (av bM (aq (au aE (ai 1) (wC (.int 0))) (aq (ai 3) aC))))) (br 1 (lz (aq (ai 3) (aq (ai 2) aC)))) bF))
def jt:W Fl:=(aV (br 1 (wC .non))
  (aV (oO (qY (av kH (aq (ai 0) aC))) (aU 2) lC)
  (a9 (jD 1))))
theorem t7:ab4 1 3 b9 jt:=by
 rintro ls js - ⟨R,rfl,hR,h⟩;have hlo:=hR.lo;obtain⟨rest,hrest⟩:=IU (n:=R.n) xL;walk_at"jt";refine⟨R,rfl,hR,λcc=>?_⟩;walk_at"w"
 refine eI (enc:=dR) (lW R.n) (λpre Z=>∃x2 x3,Z=[.d (aI R),.d (if pre=[]then .non else gP (pre.foldl (cG R) (0,(0,0)))),x2,x3]/\RB 1667 (pre.foldl (cG R) (0,(0,0))).1) _ ⟨_,_,rfl,RB.zero.mono xp⟩ ?_ ?_
 .
  rintro pre c suf Z hsp ⟨x2,x3,rfl,hb⟩ Q h1 h2 h3 h4;have hc:bN R.n c:=iP.mp (by rw[hsp];simp);have hs:=Fc hR hc
  have hb2:RB 1667 ((pre++[c]).foldl (cG R) (0,(0,0))).1:=by
   rw[abm];show RB 1667 (cG R _ c).1;unfold cG;split
   . exact hs
   . exact hb
  walk_at"lC";refine⟨R,c,rfl,hR,hc,?_⟩;walk_at"w";have hne:¬pre++[c]=[]:=by simp
  rw[if_neg hne]at h1;by_cases hp:pre=[]
  .
   subst hp;have ec:c=(0,0):=by rw[hrest]at hsp;exact((List.cons.inj hsp).1).symm
   subst ec;simp only[aaX];walk_at"w";have e3:D.tup [Wz (ba R (0,0)),dR (0,0)]=gP (([]++[(0,0)]).foldl (cG R) (0,(0,0))):=by show _=gP (cG R (0,(0,0)) (0,0));unfold cG;rw[if_neg (by show ¬(0:Rat)<ba R (0,0);rw[y3];decide),y3];rfl
   rw[e3];exact⟨xp,h1 _ ⟨_,_,rfl,hb2⟩⟩
  .
   rw[if_neg hp];have e1:∀(K:L->Prop),CL (gP (pre.foldl (cG R) (0,(0,0)))) .non K=K (.d (.bl false)):=λ_=>rfl;have e2:(pre++[c]).foldl (cG R) (0,(0,0))=cG R (pre.foldl (cG R) (0,(0,0))) c:=by rw[abm];rfl
   simp only[gP]at h1 ⊢;walk_at"w";refine⟨_,_,rfl,hb.mono xp,hs.mono xp,?_⟩;walk_at"w";split
   .
    rename_i hlt;have e3:D.tup [Wz (ba R c),dR c]=gP ((pre++[c]).foldl (cG R) (0,(0,0))):=by rw[e2];rw[Bi hlt];rfl
    rw[e3];exact⟨xp,h1 _ ⟨_,_,rfl,hb2⟩⟩
   .
    rename_i hlt;have e3:gP (pre.foldl (cG R) (0,(0,0)))=gP ((pre++[c]).foldl (cG R) (0,(0,0))):=by rw[e2];rw[Bj hlt]
    have e4:D.tup [Wz (pre.foldl (cG R) (0,(0,0))).1,dR (pre.foldl (cG R) (0,(0,0))).2]=gP ((pre++[c]).foldl (cG R) (0,(0,0))):=e3;rw[e4];exact h1 _ ⟨_,_,rfl,hb2⟩
 . rintro Z ⟨x2,x3,rfl,hb⟩;walk_at"w";rw[if_neg (by rw[hrest];simp)];exact⟨_,ag aD,h⟩
def mz:FS:=λls js=>∃d:D,ls=[.d d]/\js (.d (.bl (Aw d))) ls
def zO:W Fl:=(a9 (iG (Wi (lK "str") (ai 0)) (au (CJ false) (ai 0) (lz (aq (wC (.str "on")) (aq (wC (.str "back")) aC))))))
theorem GG:ab4 1 0 mz zO:=by
 rintro ls js - ⟨d,rfl,h⟩;unfold zO
 cases d with
 | str z =>
  walk_at"w";rw[Pl];exact⟨xp,rfl,rfl,_,ag aD,h⟩
 | _ =>
  walk_at"w";exact⟨_,ag aD,h⟩
def mB:FS:=λls js=>∃w:Bool,ls=[.d (.str (jh w))]/\js (.d (.str (jh !w))) ls
def pD:W Fl:=(a9 (GU (aM (au qV (ai 0) (wC (.str "on")))) (wC (.str "back")) (wC (.str "on"))))
theorem zQ:ab4 1 0 mB pD:=by
 rintro ls js - ⟨w,rfl,h⟩;walk_at"pD";cases w
 . exact⟨_,ag aD,h⟩
 . exact⟨_,ag aD,h⟩
def jP:FS:=λls js=>∃(R:aB)(k:Nat)(w:Bool)(hk:k<R.asks.length),ls=[.d (aI R),.d (.int k),.d (.str (jh w))]/\R.Ok/\∀c,js (.own c ((xc R.n R.asks[k] w).map λ(t:Nat)=>D.int (t:Int))) ls
def vW:W L:=(au j8 (au nE (au nE (ai 1) (wC (.int 1))) (ai 0)) (ai 2))
def vX:W L:=(au j8 (au jE (ai 1) (ai 0)) (ai 2))
def vY:W Fl:=(a9 (fj 1 [4,3] (oN (au j8 (au nE (ai 4) (ai 5)) (ai 3))) (aU 0) dO vW))
def vZ:W Fl:=(aV (Wj (aM (au qV (ai 2) (wC (.str "on")))) (a9 (fj 1 [4,3] (oN (au j8 (au nE (ai 5) (ai 4)) (ai 3))) (aU 0) dO vX)) bF)
  vY)
def v5:W Fl:=(aV (br 5 (au aE (au aE (au aE (ai 0) (wC (.int 1))) (ai 1)) (wC (.int 2))))
  vZ)
def v7:W Fl:=(aV (br 4 (au aE (au aE (au aE (ai 0) (wC (.int 1))) (ai 1)) (wC (.int 1))))
  v5)
def v8:W Fl:=(aV (br 3 (bz (aZ b8 (aq (au aE (ai 0) (wC (.int 0))) aC))))
  v7)
theorem DJ:ab4 3 3 jP v8:=by
 rintro ls js - ⟨R,k,w,hk,rfl,hR,h⟩;have ha:=hR.ask _ (ZM hk);have h1:=ha.one;have h2:=ha.other;have hlo:=hR.lo;have hhi:=hR.hi;walk_at"v8";walk_at"v7";refine⟨_,aW hk,?_⟩;walk_at"w";walk_at"v5";refine⟨_,aW hk,?_⟩;walk_at"w";walk_at"vZ";have f1:=yY h1 h2;have f2:=yY h2 h1;have b1:=abC (R.asks[k].other+R.n-R.asks[k].one) (y:=R.n) xL;have b2:=abC (R.asks[k].one+R.n-R.asks[k].other) (y:=R.n) xL;split
 .
  rename_i hw;subst hw;rw[f1];refine⟨xL,⟨xL,xL⟩,?_⟩;rw[iO,aak];refine⟨by rw[ZL,aac];exact ZR (show _<=12 by omega) xp,?_⟩;refine df (h:=λs=>D.int (((R.asks[k].one+s) % R.n:Nat):Int)) _ _ _ (λs hs Q q=>?_) λl'=>?_
  . walk_at"vX";refine⟨xL,?_⟩;rw[ER];exact q
  . walk_at"w";intro c;refine⟨_,ag (ag (ag aD)),?_⟩;have:=h c;simp only[xc,WY,aaX,aag]at this;exact this
 .
  rename_i hw;have hw:w=false:=by simpa using hw
  subst hw;walk_at"vY";rw[f2];refine⟨xL,⟨xL,xL⟩,?_⟩;rw[iO,aak];refine⟨by rw[ZL,aac];exact ZR (show _<=12 by omega) xp,?_⟩;refine df (h:=λs=>D.int (((R.asks[k].one+R.n-1-s) % R.n:Nat):Int)) _ _ _ (λs hs Q q=>?_) λl'=>?_
  . walk_at"vW";refine⟨xL,?_⟩;have hs:=ZT.mp hs;rw[LH xL xL];exact q
  . walk_at"w";intro c;refine⟨_,ag (ag (ag aD)),?_⟩;have:=h c;simp only[xc,C9,aaw,aa3,aag]at this;exact this
def nB:FS:=λls js=>∃(R:aB)(k:Nat)(w:Bool)(t:Nat)(hk:k<R.asks.length),ls=[.d (aI R),.d (.int k),.d (.str (jh w)),.d (.int t)]/\R.Ok/\t<R.n/\js (.d (.bl (sS R.n R.asks[k] t == w))) ls
def v9:W Fl:=(a9 (au qV (ai 7) (au qV (ai 2) (wC (.str "on")))))
def wa:W Fl:=(aV (br 7 (au uR (au j8 (au nE (ai 3) (ai 5)) (ai 4)) (au j8 (au nE (ai 6) (ai 5)) (ai 4))))
  v9)
def wb:W Fl:=(aV (br 6 (au aE (au aE (au aE (ai 0) (wC (.int 1))) (ai 1)) (wC (.int 2))))
  wa)
def wc:W Fl:=(aV (br 5 (au aE (au aE (au aE (ai 0) (wC (.int 1))) (ai 1)) (wC (.int 1))))
  wb)
def wd:W Fl:=(aV (br 4 (bz (aZ b8 (aq (au aE (ai 0) (wC (.int 0))) aC))))
  wc)
theorem DK:ab4 4 4 nB wd:=by
 rintro ls js - ⟨R,k,w,t,hk,rfl,hR,ht,h⟩;have ha:=hR.ask _ (ZM hk);have h1:=ha.one;have h2:=ha.other;walk_at"wd";walk_at"wc";refine⟨_,aW hk,?_⟩;walk_at"w";walk_at"wb";refine⟨_,aW hk,?_⟩;walk_at"w";walk_at"wa";rw[yY h1 h2,yY h1 ht];refine⟨xL,xL,?_⟩;walk_at"v9";refine⟨_,ag (ag (ag (ag aD))),?_⟩
 have e:decide (decide ((((t+R.n-R.asks[k].one) % R.n:Nat):Int)<(((R.asks[k].other+R.n-R.asks[k].one) % R.n:Nat):Int))=decide (w=true))=(sS R.n R.asks[k] t == w):=by
  have e1:decide ((((t+R.n-R.asks[k].one) % R.n:Nat):Int)<(((R.asks[k].other+R.n-R.asks[k].one) % R.n:Nat):Int))=sS R.n R.asks[k] t:=by unfold sS WZ;rw[abb];omega
  rw[e1];cases sS R.n R.asks[k] t<;>cases w<;>rfl
 rw[e];exact h
def mC:FS:=λls js=>∃(R:aB)(ps:List Rat)(k t:Nat)(hk:k<R.asks.length)(hp:k<ps.length),ls=[.d (aI R),.d (.lst (ps.map Wz)),.d (.int k),.d (.int t)]/\R.Ok/\RB 4400 ps[k]/\t<R.n/\js (.d (Wz (qt R.n R.asks[k] ps[k] t))) ls
def pE:W Fl:=(aV (Wj (aM (av nB (aq (ai 0) (aq (ai 2) (aq (wC (.str "on")) (aq (ai 3) aC)))))) (a9 (au aE (ai 1) (ai 2))) bF)
  (a9 (av dU (aq (au aE (au aE (au aE (ai 0) (wC (.int 1))) (ai 2)) (wC (.int 3))) (aq (au aE (ai 1) (ai 2)) aC)))))
theorem zR:ab4 4 0 mC pE:=by
 rintro ls js - ⟨R,ps,k,t,hk,hp,rfl,hR,hb,ht,h⟩;have ha:=hR.ask _ (ZM hk);walk_at"pE";refine⟨R,k,true,t,hk,rfl,hR,ht,?_⟩;walk_at"w";unfold qt at h;cases e:sS R.n R.asks[k] t
 . rw[e]at h;walk_at"w";refine⟨_,aW hk,?_⟩;walk_at"w";refine⟨_,aW hp,?_⟩;exact gi ((hR.rb (ZM hk)).mono xp) (hb.mono xp) ⟨_,ag (ag (ag (ag aD))),h⟩
 . rw[e]at h;walk_at"w";exact⟨_,aW hp,_,ag (ag (ag (ag aD))),h⟩
def rW:FS:=λls js=>∃(R:aB)(ps:List Rat)(t:Nat),ls=[.d (aI R),.d (.lst (ps.map Wz)),.d (.int t)]/\R.Ok/\ps.length=R.asks.length/\LB R ps/\t<R.n/\js (.d (Wz (cm R.n R.asks ps t))) ls
def we:W L:=(av mC (aq (ai 1) (aq (ai 2) (aq (ai 0) (aq (ai 3) aC)))))
def wg:W Fl:=(a9 (av qG (aq (bz (fj 1 [0,1,2] (oN (aZ b8 (aq (au aE (ai 0) (wC (.int 1))) aC))) (aU 0) dO we)) aC)))
theorem DL:ab4 3 0 rW wg:=by
 rintro ls js - ⟨R,ps,t,rfl,hR,hl,hb,ht,h⟩;have hfew:=hR.few;walk_at"wg";refine⟨⟨xL,xL⟩,?_⟩;rw[aak,iO];refine⟨by rw[ZL,aac];exact ZR hfew xp,?_⟩;refine df (h:=λk=>Wz (((R.asks.zip ps).map λx=>qt R.n x.1 x.2 t).getD k 0)) _ _ _ (λk hk Q q=>?_) λl' a=>?_
 .
  have hk:=ZT.mp hk;walk_at"we";refine⟨R,ps,k,t,hk,xL,rfl,hR,(hb.p _ (ZM _)).mono xp,ht,?_⟩;walk_at"w";have e:(((R.asks.zip ps).map λx=>qt R.n x.1 x.2 t).getD k 0)=qt R.n R.asks[k] (ps[k]'(by omega)) t:=by rw[tu,ZZ,gV (by rw[aaH];omega),abp];rfl
  rw[e]at q;exact q
 .
  walk_at"w";have e:(List.range R.asks.length).map (λk=>Wz (((R.asks.zip ps).map λx=>qt R.n x.1 x.2 t).getD k 0))=((R.asks.zip ps).map λx=>qt R.n x.1 x.2 t).map Wz:=by refine IR _ (by rw[ZL,aaH];omega) _ λk hk=>?_;rw[tu,gV hk];rfl
  rw[e];refine⟨_,_,rfl,.inl rfl,by rw[ZL,aaH];omega,λq hq=>?_,hb.sm t,⟨_,ag (ag (ag aD)),h⟩⟩;obtain⟨x,hx,rfl⟩:=ZW.mp hq;obtain⟨j,hj,e⟩:=List.mem_iff_getElem.mp hx;have hj':j<R.asks.length:=by rw[aaH]at hj;omega
  rw[abp]at e;rw[<- e];exact(hb.st j hj' xL t).mono xp
def pF:FS:=λls js=>∃(R:aB)(ps:List Rat),ls=[.d (aI R),.d (.lst (ps.map Wz))]/\R.Ok/\ps.length=R.asks.length/\LB R ps/\∀a,js (.own a (WX R.n (cm R.n R.asks ps))) ls
def tF:W L:=(av rW (aq (ai 1) (aq (ai 2) (aq (ai 0) aC))))
def rX:W Fl:=(a9 (fj 1 [0,1] (oN (aZ b8 (aq (au aE (ai 0) (wC (.int 0))) aC))) (aU 0) dO tF))
theorem BQ:ab4 2 0 pF rX:=by
 rintro ls js - ⟨R,ps,rfl,hR,hl,hb,h⟩;have hhi:=hR.hi;walk_at"rX";refine⟨⟨xL,xL⟩,?_⟩;rw[aak,iO];refine⟨by rw[ZL,aac];exact ZR hhi xp,?_⟩;refine df (h:=λt=>Wz (cm R.n R.asks ps t)) _ _ _ (λt ht Q q=>?_) λl' a=>?_
 . walk_at"tF";refine⟨R,ps,t,rfl,hR,hl,hb,ZT.mp ht,?_⟩;walk_at"w";exact q
 . walk_at"w";exact⟨_,ag (ag aD),h a⟩
def kK:FS:=λls js=>∃(R:aB)(ps:List Rat),ls=[.d (aI R),.d (.lst (ps.map Wz))]/\R.Ok/\ps.length=R.asks.length/\LB R ps/\∀a,js (.own a (WX R.n (aO R ps))) ls
def n8:W L:=(av zG (aq (ai 0) (aq (ai 1) aC)))
def mD:W Fl:=(a9 (fj 2 [] (Q9 (av pF (aq (ai 0) (aq (ai 1) aC))) (au aE (ai 0) (wC (.int 0)))) (eF [0,1]) dO n8))
theorem xD:ab4 2 0 kK mD:=by
 rintro ls js - ⟨R,ps,rfl,hR,hl,hb,h⟩;have hhi:=hR.hi;walk_at"mD";refine⟨R,ps,rfl,hR,hl,hb,λ_=>?_⟩;walk_at"w";rw[Ff,IV];refine⟨by rw[ZL,aac];exact ZR hhi xp,?_⟩;refine vb (h:=λt=>Wz (aO R ps t)) _ _ _ _ (λt ht Q q=>?_) λl m a=>?_
 . have ht:=ZT.mp ht;obtain⟨r1,r2⟩:=dY hR ht;walk_at"n8";exact⟨_,_,rfl,(hb.all hl t).mono xp,r2.mono xp,(by grind),q⟩
 . walk_at"w";exact⟨_,ag (ag aD),h a⟩
noncomputable def UF(R:aB)(ps:List Rat):D:=.tup [Wz (aO R ps (Cs R.n (aO R ps))),.int (Cs R.n (aO R ps):Nat)]
def wj:FS:=λls js=>∃(R:aB)(ps:List Rat),ls=[.d (aI R),.d (.lst (ps.map Wz))]/\R.Ok/\ps.length=R.asks.length/\LB R ps/\js (.d (UF R ps)) ls
def yA:W Fl:=(Wj (aM (av bM (aq (au aE (ai 2) (ai 3)) (aq (ai 5) aC)))) (br 3 (ai 4)) bF)
def zS:W Fl:=(aV (br 2 (bz (av kK (aq (ai 0) (aq (ai 1) aC)))))
  (aV (br 3 (wC (.int 0)))
  (aV (oO (xr (ai 2)) (eF [4,5]) yA)
  (a9 (lz (aq (au aE (ai 2) (ai 3)) (aq (ai 3) aC)))))))
theorem GH:ab4 2 4 wj zS:=by
 rintro ls js - ⟨R,ps,rfl,hR,hl,hb,h⟩;have hlo:=hR.lo;have sb:∀t,t<R.n->RB 4400 (aO R ps t):=λt ht=>((hb.all hl t).div (dY hR ht).2 (by have:=(dY hR ht).1;grind)).mono xp;walk_at"zS";refine⟨R,ps,rfl,hR,hl,hb,λ_=>?_⟩;walk_at"w";rw[O6]
 refine eI (enc:=λ(t:Nat)=>D.tup [.int (t:Int),Wz (aO R ps t)]) (List.range R.n) (λpre Z=>∃(b:Nat)(x4 x5:L),Z=[.d (aI R),.d (.lst (ps.map Wz)),.d (.lst (WX R.n (aO R ps))),.d (.int b),x4,x5]/\b=pre.foldl (λb t=>if aO R ps b<aO R ps t then t else b) 0/\b<R.n) _ ⟨0,_,_,rfl,rfl,xL⟩ ?_ ?_
 .
  rintro pre t suf Z hsp ⟨b,x4,x5,rfl,hbe,hbn⟩ Q h1 h2 h3 h4;have ht:t<R.n:=ZT.mp (by rw[hsp];simp)
  have ef:(pre++[t]).foldl (λb t=>if aO R ps b<aO R ps t then t else b) 0=if aO R ps b<aO R ps t then t else b:=by rw[abm,<- hbe];rfl
  walk_at"yA";refine⟨_,IE hbn,_,_,rfl,(sb _ hbn).mono xp,(sb _ ht).mono xp,?_⟩;walk_at"w";split
  . rename_i hlt;rw[if_pos hlt]at ef;exact h1 _ ⟨t,_,_,rfl,ef.symm,ht⟩
  . rename_i hlt;rw[if_neg hlt]at ef;exact h1 _ ⟨b,_,_,rfl,ef.symm,hbn⟩
 . rintro Z ⟨b,x4,x5,rfl,hbe,hbn⟩;walk_at"w";refine⟨_,IE hbn,xp,_,ag (ag aD),?_⟩;have e:b=Cs R.n (aO R ps):=hbe;rw[e];exact h
def gz:FS:=λls js=>∃(qs:List Rat)(P:Nat),ls=[.d (.lst (qs.map Wz))]/\(∀q∈qs,q.den∣P)/\0<P/\P<2^4400/\js (.d (.int (W5 qs))) ls
def jQ:W Fl:=(br 1 (av g9 (aq (ai 1) (aq (au aE (ai 2) (wC (.int 1))) aC))))
def hW:W Fl:=(aV (br 1 (wC (.int 1)))
  (aV (oO (qY (ai 0)) (aU 2) jQ)
  (a9 (jD 1))))
theorem rY:ab4 1 2 gz hW:=by
 rintro ls js - ⟨qs,P,rfl,hd,hP,hP2,h⟩;walk_at"hW";refine eI (enc:=Wz) qs (λpre Z=>∃x2,Z=[.d (.lst (qs.map Wz)),.d (.int (W5 pre)),x2]) _ ⟨_,rfl⟩ ?_ ?_
 .
  rintro pre q suf Z hsp ⟨x2,rfl⟩ Q h1 h2 h3 h4;have hq:q.den∣P:=hd q (by rw[hsp];simp);have hc:W5 pre∣P:=LW λp hp=>hd p (by rw[hsp];simp[hp]);have e:W5 (pre++[q])=Nat.lcm (W5 pre) q.den:=by unfold W5;rw[abm];rfl
  rw[e]at h1;walk_at"jQ";refine⟨W5 pre,q.den,rfl,den_pos q,ZS (aaY hP hc) hP2,ZS (aaY hP hq) hP2,?_⟩;exact h1 _ ⟨_,rfl⟩
 . rintro Z ⟨x2,rfl⟩;walk_at"w";exact⟨_,ag aD,h⟩
def kL:FS:=λls js=>∃(qs:List Rat)(u:Nat),ls=[.d (.lst (qs.map Wz)),.d (.int u)]/\qs.length<=63/\(∀q∈qs,RB 4400 q)/\u<2^4400/\∀c,js (.own c (qs.map λq=>D.int (nF u q))) ls
def tG:W L:=(au bp (au aE (ai 0) (wC (.int 0))) (au tT (ai 1) (au aE (ai 0) (wC (.int 1)))))
def rZ:W Fl:=(a9 (fj 1 [1] (qY (ai 0)) (aU 0) dO tG))
theorem BR:ab4 2 0 kL rZ:=by
 rintro ls js - ⟨qs,u,rfl,hl,hq,hu,h⟩;walk_at"rZ";refine⟨ZR hl xp,?_⟩;refine df (h:=λq=>D.int (nF u q)) _ _ _ (λq hm Q hQ=>?_) λl' c=>?_
 .
  walk_at"tG";have hb:=hq q hm;have e:(u:Int).fdiv (q.den:Int)=((u / q.den:Nat):Int):=by rw[aa2 _ xL,Int.natCast_ediv]
  rw[e];refine⟨lU q,?_,hb.bn xp,?_,hQ⟩
  . rw[Z4];exact k5 hb.2 (ZN xp xp)
  . exact qn (n:=4400) (by rw[Z4];exact ZS (Nat.div_le_self _ _) hu) xp
 . walk_at"w";exact⟨_,ag (ag aD),h c⟩
def r6:FS:=λls js=>∃(R:aB)(q:Rat),ls=[.d (aI R),.d (Wz q)]/\R.Ok/\RB 1750 q/\js (.d (.tup [.int (a6 R q),.lst (vo R.asks.length (wI R q)),.lst (vo R.n (W7 R q))])) ls
def wm:W L:=(av qF (aq (ai 1) (aq (ai 0) aC)))
def wo:W L:=(au aE (ai 0) (wC (.int 3)))
def wq:W Fl:=(aV (br 2 (fj 1 [] (qY (au aE (ai 0) (wC (.int 1)))) (aU 0) dO wo))
  (aV (br 3 (fj 1 [1] (qY (au aE (ai 0) (wC (.int 0)))) (aU 0) dO wm))
  (aV (br 4 (bz (au bp (wC (.int 2)) (av gz (aq (bz (au jE (ai 2) (ai 3))) aC)))))
  (a9 (lz (aq (ai 4) (aq (bz (av kL (aq (ai 2) (aq (ai 4) aC)))) (aq (bz (av kL (aq (ai 3) (aq (ai 4) aC)))) aC))))))))
theorem DM:ab4 2 3 r6 wq:=by
 rintro ls js - ⟨R,q,rfl,hR,hq,h⟩;have hfew:=hR.few;have hhi:=hR.hi;walk_at"wq";refine⟨ZR hfew xp,?_⟩;refine df (h:=λa=>Wz a.size) _ _ _ (λa hm Q hQ=>?_) λl' c1=>?_
 . walk_at"wo";exact hQ
 walk_at"w";refine⟨ZR hhi xp,?_⟩;refine df (h:=λr=>Wz (q*r)) _ _ _ (λr hm Q hQ=>?_) λl' c2=>?_
 . walk_at"wm";refine⟨_,_,rfl,hq.mono xp,(hR.room r hm).2.mono xp,?_⟩;walk_at"w";exact hQ
 obtain⟨u0,u1⟩:=gK hR hq;have e1:R.asks.map (λa=>Wz a.size)=(nY R).map Wz:=by unfold nY;rw[aag];rfl
 have e2:R.rooms.map (λr=>Wz (q*r))=(xt R q).map Wz:=by unfold xt;rw[aag];rfl
 rw[e1,e2];walk_at"w";rw[<- aaW];have ls1:(nY R).length<=20:=by unfold nY;rw[ZL];exact hfew
 have ls2:(xt R q).length<=12:=by unfold xt;rw[ZL];exact hhi
 have c0:=Jj R q;have c1':W6 R q<2^3750:=ZS (show W6 R q<=a6 R q by unfold a6;omega) u1;refine⟨ZR (show _<=32 by omega) xp,λ_=>⟨_,W6 R q,rfl,λp hp=>Jf hp,c0,k5 c1' (ZN xp xp),?_⟩⟩;walk_at"w";have eu:(2:Int)*((W5 (nY R++xt R q):Nat):Int)=((a6 R q:Nat):Int):=by show(2:Int)*((W6 R q:Nat):Int)=((2*W6 R q:Nat):Int);omega
 rw[eu];have u2:a6 R q<2^4400:=k5 u1 (ZN xp xp);refine⟨dg xp,qn (n:=3750) (by rw[Z4];exact c1') xp,?_⟩;refine⟨nY R,a6 R q,rfl,xL,λp hp=>?_,u2,λc3=>?_⟩
 . obtain⟨a,ha,rfl⟩:=ZW.mp hp;exact(hR.rb ha).mono xp
 walk_at"w";refine⟨xt R q,a6 R q,rfl,xL,λp hp=>?_,u2,λc4=>?_⟩
 . obtain⟨r,hr,rfl⟩:=ZW.mp hp;exact(hq.mul (hR.room r hr).2).mono xp
 walk_at"w";rw[RF,RG];exact⟨xp,_,ag (ag aD),h⟩
def hX:FS:=λls js=>∃(R:aB)(k:Nat)(w:Nat->Int)(c:Nat×Nat),ls=[.d (aI R),.d (.int k),.d (.lst (vo R.asks.length w)),.d (dR c)]/\R.Ok/\k<R.asks.length/\bN R.n c/\js (.d (.int (dI R w (k+1) c.1 c.2))) ls
def lD:W L:=(au aE (ai 1) (ai 0))
def ju:W Fl:=(aV (br 4 (au aE (ai 0) (wC (.int 1))))
  (a9 (aZ OA (aq (bz (fj 1 [2,3,4] (F4 (au jE (ai 1) (wC (.int 1))) (aZ b8 (aq (ai 4) aC))) (aU 0) (aM (av cR (aq (ai 2) (aq (au aE (au aE (ai 3) (ai 0)) (wC (.int 1))) (aq (au aE (au aE (ai 3) (ai 0)) (wC (.int 2))) aC))))) lD)) aC))))
theorem t8:ab4 4 1 hX ju:=by
 rintro ls js - ⟨R,k,w,c,rfl,hR,hk,hc,h⟩;have hfew:=hR.few;walk_at"ju";have el:((R.asks.length:Int)-((k:Int)+1)).toNat=R.asks.length-(k+1):=by omega
 rw[el]
 have er:q5 ((k:Int)+1) (R.asks.length-(k+1))=(List.range (R.asks.length-(k+1))).map λ(i:Nat)=>D.int ((k+1+i:Nat):Int):=by
  unfold q5;refine aaC λi _=>?_
  congr 1
 rw[er];refine⟨⟨xL,xL⟩,⟨xL,xL⟩,by rw[ZL,aac];exact ZR (show _<=20 by omega) xp,?_⟩
 refine fZ (h:=λi=>if apart c (aS R (k+1+i)).one (aS R (k+1+i)).other=true then some (D.int (w (k+1+i)))else none) _ _ _ (λi hi Q q=>?_) λl' cc=>?_
 .
  have hi:k+1+i<R.asks.length:=by have:=ZT.mp hi;omega
  walk_at"lD";refine⟨_,aW hi,?_⟩;walk_at"w";refine⟨_,aW hi,?_⟩;walk_at"w";refine⟨c,_,_,rfl,?_⟩;rw[fL hi]at q;cases e:apart c R.asks[k+1+i].one R.asks[k+1+i].other
  . rw[e]at q;walk_at"w";exact q
  . rw[e]at q;walk_at"w";exact⟨_,zg hi,q⟩
 .
  walk_at"w";rw[kq (λi=>apart c (aS R (k+1+i)).one (aS R (k+1+i)).other) (λi=>w (k+1+i))];refine⟨_,rfl,?_⟩;rw[vp]
  have e:dI R w (k+1) c.1 c.2=((List.range (R.asks.length-(k+1))).map λi=>if apart c (aS R (k+1+i)).one (aS R (k+1+i)).other=true then w (k+1+i)else 0).sum:=by
   unfold dI
   congr 1
   refine aaC λi hi=>?_;have hi:k+1+i<R.asks.length:=by have:=ZT.mp hi;omega
   rw[vg (km hR hi) hc];rfl
  rw[<- e];exact⟨_,ag (ag (ag (ag aD))),h⟩
def r9:FS:=λls js=>∃(R:aB)(k:Nat)(w f:Nat->Int),ls=[.d (aI R),.d (.int k),.d (.lst (vo R.asks.length w)),.d (.lst (vo R.n f))]/\R.Ok/\k<R.asks.length/\cI (w k)/\js (.d (.int (y9 R w f k))) ls
def wu:W Fl:=(br 5 (bz (aZ Hx (aq (ai 5) (aq (au nE (au jE (au aE (ai 3) (ai 6)) (au aE (ai 3) (ai 7))) (av hX (aq (ai 0) (aq (ai 1) (aq (ai 2) (aq (lz (aq (ai 6) (aq (ai 7) aC))) aC)))))) aC)))))
def wx:W Fl:=(Wj (aM (au Ht (ai 6) (ai 7))) wu bF)
def wy:W Fl:=(oO (qY (ai 4)) (aU 7) wx)
def wz:W Fl:=(aV (br 4 (bz (aZ Ez (aq (bz (av jP (aq (ai 0) (aq (ai 1) (aq (wC (.str "on")) aC))))) aC))))
  (aV (br 5 (bz (au bp (wC (.int 2)) (au aE (ai 2) (ai 1)))))
  (aV (oO (qY (ai 4)) (aU 6) wy)
  (a9 (au tT (ai 5) (wC (.int 2)))))))
theorem DN:ab4 4 4 r9 wz:=by
 rintro ls js - ⟨R,k,w,f,rfl,hR,hk,hb,h⟩;have hhi:=hR.hi;walk_at"wz";refine⟨R,k,true,hk,rfl,hR,λc=>?_⟩;walk_at"w";have hwl:=IL (hR.ask _ (ZM hk)) true;refine⟨(xc R.n R.asks[k] true).map λ(t:Nat)=>(t:Int),by rw[aag];rfl,by rw[ZL];omega,λc2=>?_⟩;rw[<- fL hk,LS,aag];have eT:(W2 R k).map (D.int ∘ λ(t:Nat)=>(t:Int))=(W2 R k).map λ(t:Nat)=>D.int (t:Int):=rfl;rw[eT];walk_at"w";refine⟨_,zg hk,dg xp,hb,?_⟩;have hT:∀t∈W2 R k,t<R.n:=λt ht=>((oW hR hk).mp ht).1;refine eI (enc:=λ(t:Nat)=>D.int (t:Int)) (W2 R k) (λpre Z=>∃x6 x7,Z=[.d (aI R),.d (.int k),.d (.lst (vo R.asks.length w)),.d (.lst (vo R.n f)),.d (.lst ((W2 R k).map λ(t:Nat)=>D.int (t:Int))),.d (.int (nX R w f k pre)),x6,x7]) _ ⟨_,_,rfl⟩ ?_ ?_
 .
  rintro pre g suf Z hsp ⟨x6,x7,rfl⟩ Q h1 h2 h3 h4;have hg:g<R.n:=hT g (by rw[hsp];simp);have e1:nX R w f k (pre++[g])=lY R w f k (nX R w f k pre) g (W2 R k):=by unfold nX;rw[abm];rfl
  rw[e1]at h1;walk_at"wy";refine eI (enc:=λ(t:Nat)=>D.int (t:Int)) (W2 R k) (λpre2 Z=>∃x7,Z=[.d (aI R),.d (.int k),.d (.lst (vo R.asks.length w)),.d (.lst (vo R.n f)),.d (.lst ((W2 R k).map λ(t:Nat)=>D.int (t:Int))),.d (.int (lY R w f k (nX R w f k pre) g pre2)),.d (.int g),x7]) _ ⟨_,rfl⟩ ?_ ?_
  .
   rintro pre2 t suf2 Z hsp2 ⟨x7,rfl⟩ Q2 g1 g2 g3 g4;have ht:t<R.n:=hT t (by rw[hsp2];simp)
   have e2:lY R w f k (nX R w f k pre) g (pre2++[t])=if decide (g<=t)then W1 (lY R w f k (nX R w f k pre) g pre2) (LU R w f k g t)else lY R w f k (nX R w f k pre) g pre2:=by unfold lY;rw[abm];rfl
   rw[e2]at g1;walk_at"wx";by_cases hgt:g<=t
   .
    have hgt':(g:Int)<=(t:Int):=by omega
    simp only[hgt,hgt',abX,aaX]at g1 ⊢;walk_at"wu";refine⟨_,zg hg,_,zg ht,?_⟩;walk_at"w";refine⟨xp,R,k,w,(g,t),rfl,hR,hk,⟨hgt,ht⟩,?_⟩;walk_at"w";exact g1 _ ⟨_,rfl⟩
   .
    have hgt':¬(g:Int)<=(t:Int):=by omega
    simp only[hgt,hgt',abK,aa3,aaw]at g1 ⊢;exact g1 _ ⟨_,rfl⟩
  . rintro Z ⟨x7,rfl⟩;exact h1 _ ⟨_,_,rfl⟩
 . rintro Z ⟨x6,x7,rfl⟩;walk_at"w";exact⟨xp,y_,_,ag (ag (ag (ag aD))),h⟩
def mE:FS:=λls js=>∃(R:aB)(k:Nat)(w f:Nat->Int)(p:Int),ls=[.d (aI R),.d (.int k),.d (.lst (vo R.n f)),.d (.int p),.d (.int (w k-p))]/\R.Ok/\k<R.asks.length/\∀c,js (.own c (vo R.n (vi R w f k p))) ls
def qI:W L:=(au nE (ai 1) (GU (aM (av nB (aq (ai 2) (aq (ai 3) (aq (wC (.str "on")) (aq (ai 0) aC)))))) (ai 4) (ai 5)))
def pG:W Fl:=(a9 (fj 2 [0,1,3,4] (xr (ai 2)) (eF [0,1]) dO qI))
theorem BS(n:Nat)(f:Nat->Int):eG (vo n f)=(List.range n).map λ(t:Nat)=>D.tup [.int (t:Int),.int (f t)]:=by
 refine List.ext_getElem? λj=>?_;unfold eG vo;by_cases hj:j<n
 . simp[aau,hj]
 . simp[hj]
theorem zT:ab4 5 0 mE pG:=by
 rintro ls js - ⟨R,k,w,f,p,rfl,hR,hk,h⟩;have hhi:=hR.hi;walk_at"pG";rw[BS];refine⟨by rw[ZL,aac];exact ZR hhi xp,?_⟩;refine vb (h:=λt=>D.int (vi R w f k p t)) (List.range R.n) _ _ _ (λt ht Q hQ=>?_) λl' m' c=>?_
 .
  have ht:=ZT.mp ht;walk_at"qI";refine⟨R,k,true,t,hk,rfl,hR,ht,?_⟩;unfold vi W0 at hQ;rw[fL hk]at hQ;cases e:sS R.n R.asks[k] t
  . rw[e]at hQ;walk_at"w";exact hQ
  . rw[e]at hQ;walk_at"w";exact hQ
 . walk_at"w";exact⟨_,ag (ag (ag (ag (ag aD)))),h c⟩
def cL:FS:=λls js=>∃(R:aB)(q:Rat),ls=[.d (aI R),.d (Wz q)]/\R.Ok/\RB 1750 q/\∀c,js (.own c ((bY R q).map Wz)) ls
def ia:W Fl:=(aV (br 8 (bz (av r9 (aq (ai 0) (aq (ai 6) (aq (ai 3) (aq (ai 4) aC)))))))
  (aV (br 4 (bz (av mE (aq (ai 0) (aq (ai 6) (aq (ai 4) (aq (ai 8) (aq (au nE (ai 7) (ai 8)) aC))))))))
  (AM (Oi 5 (av zF (aq (ai 8) (aq (au aE (ai 2) (wC (.int 0))) aC)))))))
def fC:W Fl:=(aV (br 2 (bz (av r6 (aq (ai 0) (aq (ai 1) aC)))))
  (aV (br 3 (au aE (ai 2) (wC (.int 1))))
  (aV (br 4 (au aE (ai 2) (wC (.int 2))))
  (aV (br 5 (AO aC))
  (aV (oO (xr (ai 3)) (eF [6,7]) ia)
  (a9 (jD 5)))))))
theorem J1{m k:Nat}{pre suf:List Nat}(h:List.range m=pre++k::suf):pre=List.range k/\k<m:=by
 have h1:(List.range m)[pre.length]?=some k:=by rw[h];simp
 have hl:pre.length<m:=by have:=congrArg List.length h;simp at this;omega
 rw[aau hl]at h1;have h1:pre.length=k:=by simpa using h1
 refine⟨?_,xL⟩;have h2:(List.range m).take pre.length=pre:=by rw[h];simp
 rw[<- h2,List.take_range,h1]
 congr 1
 omega
theorem R5{R:aB}(hR:R.Ok){q:Rat}(hq:RB 1750 q){k:Nat}(hk:k<R.asks.length):cI (wI R q k):=by exact qn (n:=4050) (Pa hR hq hk) xp
theorem pH:ab4 2 7 cL fC:=by
 rintro ls js - ⟨R,q,rfl,hR,hq,h⟩;have hfew:=hR.few;obtain⟨u0,u1⟩:=gK hR hq;walk_at"fC";refine⟨R,q,rfl,hR,hq,?_⟩;walk_at"w";refine⟨xp,λc=>?_⟩;rw[BS];refine eI (enc:=λ(t:Nat)=>D.tup [.int (t:Int),.int (wI R q t)]) (List.range R.asks.length) (λpre Z=>∃x6 x7 x8,Z=[.d (aI R),.d (Wz q),.d (.tup [.int (a6 R q),.lst (vo R.asks.length (wI R q)),.lst (vo R.n (W7 R q))]),.d (.lst (vo R.asks.length (wI R q))),.d (.lst (vo R.n (W3 R (wI R q) (W7 R q) pre.length))),.own c ((pre.map (vn R q)).map Wz),x6,x7,x8]) _ ⟨_,_,_,rfl⟩ ?_ ?_
 .
  rintro pre k suf Z hsp ⟨x6,x7,x8,rfl⟩ Q h1 h2 h3 h4;obtain⟨ep,hk⟩:=J1 hsp;have el:pre.length=k:=by rw[ep,aac]
  have e1:(pre++[k]).length=k+1:=by rw[aaK,el];rfl
  rw[e1,aaW,aaW]at h1;rw[el];walk_at"ia";refine⟨R,k,wI R q,_,rfl,hR,hk,R5 hR hq hk,?_⟩;walk_at"w";refine⟨R,k,wI R q,_,_,rfl,hR,hk,λc2=>?_⟩;walk_at"w";refine⟨_,_,rfl,xL,?_,?_⟩
  . rw[Z4];exact k5 u1 (ZN xp xp)
  walk_at"w";refine⟨k5 (show _<21 by rw[el];omega) xp,?_⟩;exact h1 _ ⟨_,_,_,rfl⟩
 . rintro Z ⟨x6,x7,x8,rfl⟩;walk_at"w";exact⟨_,ag (ag aD),h c⟩
def se:FS:=λls js=>∃(R:aB)(q:Rat),ls=[.d (aI R),.d (Wz q)]/\R.Ok/\RB 1750 q/\(q < (bB R).1->js (.bx none [.d (.str "cut"),.d (dR (bB R).2)]) ls)/\(¬ q < (bB R).1->∀ c,js (.bx none [.d (.str "sending"),.own c ((bY R q).map Wz)]) ls)
def wA:W Fl:=(aV (br 2 (bz (av b9 (aq (ai 0) aC))))
  (aV (Wj (aM (av bM (aq (ai 1) (aq (au aE (ai 2) (wC (.int 0))) aC)))) (a9 (Ii (aq (wC (.str "cut")) (aq (au aE (ai 2) (wC (.int 1))) aC)))) bF)
  (a9 (Ii (aq (wC (.str "sending")) (aq (av cL (aq (ai 0) (aq (ai 1) aC))) aC))))))
theorem DO:ab4 2 1 se wA:=by
 rintro ls js - ⟨R,q,rfl,hR,hq,h,h'⟩;walk_at"wA";refine⟨R,rfl,hR,?_⟩;walk_at"w";refine⟨_,_,rfl,hq.mono xp,(kg hR).mono xp,?_⟩;walk_at"w";split
 . rename_i hlt;walk_at"w";exact⟨xp,_,ag (ag aD),h hlt⟩
 . rename_i hlt;walk_at"w";refine⟨R,q,rfl,hR,hq,λc=>?_⟩;walk_at"w";exact⟨xp,_,ag (ag aD),h' hlt c⟩
def jv:FS:=λls js=>∃(R:aB)(c:Nat×Nat)(q:Rat),ls=[.d (aI R),.d (dR c),.d (Wz q)]/\R.Ok/\bN R.n c/\RB 1750 q/\js (.d (Wz (lX R q c))) ls
def kM:W Fl:=(a9 (av dU (aq (bz (av qF (aq (ai 2) (aq (bz (av kF (aq (ai 0) (aq (ai 1) aC)))) aC)))) (aq (bz (av qH (aq (ai 0) (aq (ai 1) aC)))) aC))))
theorem wB:ab4 3 0 jv kM:=by rintro ls js - ⟨R,c,q,rfl,hR,hc,hq,h⟩;obtain⟨r1,r2⟩:=dP hR hc;obtain⟨f1,f2⟩:=vh hR hq hc;walk_at"kM";refine⟨R,c,rfl,hR,hc,?_⟩;walk_at"w";refine⟨_,_,rfl,hq.mono xp,r2.mono xp,?_⟩;walk_at"w";refine⟨R,c,rfl,hR,?_⟩;walk_at"w";refine gi (f1.mono xp) ((jJ hR c).mono xp) ?_;walk_at"w";exact⟨_,ag (ag (ag aD)),h⟩
def mF:FS:=λls js=>∃(R:aB)(i j:Nat)(q:Rat),ls=[.d (aI R),.d (.int i),.d (.int j),.d (Wz q)]/\R.Ok/\RB 1750 q /\
 js (.d (if q < (bB R).1 then .tup [.str "none",dR (bB R).2]else IX ((vV R.n i j).foldl (oV R q) none))) ls
def qJ:W Fl:=(aV (br 7 (bz (av jv (aq (ai 0) (aq (ai 6) (aq (ai 3) aC))))))
  (Wj (Wg (aM (au CL (ai 5) (wC .non))) (aM (av bM (aq (ai 7) (aq (au aE (ai 5) (wC (.int 1))) aC))))) (br 5 (lz (aq (wC (.str "most")) (aq (ai 7) (aq (ai 6) aC))))) bF))
def pJ:W Fl:=(aV (br 4 (bz (av b9 (aq (ai 0) aC))))
  (aV (Wj (aM (av bM (aq (ai 3) (aq (au aE (ai 4) (wC (.int 0))) aC)))) (a9 (lz (aq (wC (.str "none")) (aq (au aE (ai 4) (wC (.int 1))) aC)))) bF)
  (aV (br 5 (wC .non))
  (aV (oO (qY (av kJ (aq (ai 0) (aq (ai 1) (aq (ai 2) aC))))) (aU 6) qJ)
  (a9 (jD 5))))))
theorem zU:ab4 4 4 mF pJ:=by
 rintro ls js - ⟨R,i,j,q,rfl,hR,hq,h⟩;walk_at"pJ";refine⟨R,rfl,hR,?_⟩;walk_at"w";refine⟨_,_,rfl,hq.mono xp,(kg hR).mono xp,?_⟩;walk_at"w";split
 . rename_i hlt;rw[if_pos hlt]at h;walk_at"w";exact⟨xp,_,ag (ag (ag (ag aD))),h⟩
 .
  rename_i hlt;rw[if_neg hlt]at h;walk_at"w";refine⟨R,i,j,rfl,hR,λcc=>?_⟩;walk_at"w";refine eI (enc:=dR) (vV R.n i j) (λpre Z=>∃x6 x7,Z=[.d (aI R),.d (.int i),.d (.int j),.d (Wz q),.d (gP (bB R)),.d (IX (pre.foldl (oV R q) none)),x6,x7]/\∀p,pre.foldl (oV R q) none=some p->RB 3420 p.1) _ ⟨_,_,rfl,λp e=>by cases e⟩ ?_ ?_
  .
   rintro pre c suf Z hsp ⟨x6,x7,rfl,hb⟩ Q h1 h2 h3 h4;have hc:bN R.n c:=iP.mp ((aam.mp (show c∈vV R.n i j by rw[hsp];simp)).1);obtain⟨f1,f2⟩:=vh hR hq hc;have e2:(pre++[c]).foldl (oV R q) none=oV R q (pre.foldl (oV R q) none) c:=by rw[abm];rfl
   rw[e2]at h1;walk_at"qJ";refine⟨R,c,q,rfl,hR,hc,hq,?_⟩;walk_at"w"
   cases e:pre.foldl (oV R q) none with
   | none =>
    rw[e]at h1;simp only[IX];walk_at"w";exact⟨xp,h1 _ ⟨_,_,rfl,λp e=>by cases e;exact f2⟩⟩
   | some p =>
    rw[e]at h1;have hp:=hb p e;simp only[IX];walk_at"w";refine⟨_,_,rfl,f2.mono xp,hp.mono xp,?_⟩;walk_at"w";split
    .
     rename_i hl;have e3:oV R q (some p) c=some (lX R q c,c):=by unfold oV;simp only[hl,aaX]
     rw[e3]at h1;exact⟨xp,h1 _ ⟨_,_,rfl,λp e=>by cases e;exact f2⟩⟩
    .
     rename_i hl;have e3:oV R q (some p) c=some p:=by unfold oV;simp only[hl,aa3]
     rw[e3]at h1;exact h1 _ ⟨_,_,rfl,λp e=>by cases e;exact hp⟩
  . rintro Z ⟨x6,x7,rfl,hb⟩;walk_at"w";exact⟨_,ag (ag (ag (ag aD))),h⟩
def d5:FS:=λls js=>∃(R:aB)(ps:List Rat),ls=[.d (aI R),.d (.lst (ps.map Wz))]/\R.Ok/\ps.length=R.asks.length/\(∀p∈ps,RB 4400 p)/\js (.d (U1 (eK (bX R ps) ps.length))) ls
def gF:W Fl:=(Wj (Wg (aM (av bM (aq (ai 3) (aq (wC (.tup [(.int 0),(.int 1)])) aC)))) (aM (av bM (aq (au aE (au aE (au aE (ai 0) (wC (.int 1))) (ai 2)) (wC (.int 3))) (aq (ai 3) aC))))) (a9 (jD 2)) bF)
def eO:W Fl:=(aV (oO (xr (ai 1)) (eF [2,3]) gF)
  (a9 (wC .non)))
theorem nJ:ab4 2 2 d5 eO:=by
 rintro ls js - ⟨R,ps,rfl,hR,hl,hb,h⟩;walk_at"eO";rw[Fe];refine eI (enc:=λ(t:Nat)=>D.tup [.int (t:Int),Wz (ps.getD t 0)]) (List.range ps.length) (λpre Z=>∃x2 x3,Z=[.d (aI R),.d (.lst (ps.map Wz)),x2,x3]/\∀j∈pre,bX R ps j=false) _ ⟨_,_,rfl,λj hj=>by simp at hj⟩ ?_ ?_
 .
  rintro pre k suf Z hsp ⟨x2,x3,rfl,hpre⟩ Q h1 h2 h3 h4;have hk:k<ps.length:=ZT.mp (by rw[hsp];simp)
  have hpk:∀j,j<k->j∈pre:=λj hj=>by
   have e:pre=List.range k:=by
    have hl2:pre.length=k:=by
     have:(pre++k::suf)[pre.length]?=some k:=by simp
     rw[<- hsp,aau (by have:=congrArg List.length hsp;simp at this;omega)]at this;exact aaf this
    have:=congrArg (List.take k) hsp;rw[List.take_range,Nat.min_eq_left xL,<- hl2,List.take_left]at this;rw[<- this,hl2]
   rw[e];exact ZT.mpr hj
  have hk2:k<R.asks.length:=by omega
  have hpb:=hb _ (ZM hk);have ha:=hR.ask _ (ZM hk2);have ew:bX R ps k=(decide (ps[k]<0) ||decide (R.asks[k].size<ps[k])):=by unfold bX;rw[kj hk,Bl hk2]
  have Vx:bX R ps k=true->Q (.rt (.d (.int (k:Int)))) [.d (aI R),.d (.lst (ps.map Wz)),.d (.int (k:Int)),.d (Wz ps[k])]:=λhw=>by refine h4 _ _ ?_;have e:=Fg hk hw λj hj=>hpre j (hpk j hj);rw[e]at h;exact⟨_,ag (ag aD),h⟩
  have cont:bX R ps k=false->Q .nx [.d (aI R),.d (.lst (ps.map Wz)),.d (.int (k:Int)),.d (Wz ps[k])]:=λhw=>by
   refine h1 _ ⟨_,_,rfl,λj hj=>?_⟩;rcases aap.mp hj with hj|hj
   . exact hpre j hj
   . rw[aaS.mp hj];exact hw
  have z0:D.tup [.int 0,.int 1]=Wz 0:=rfl;rw[kj hk];walk_at"gF";rw[z0];refine⟨_,_,rfl,hpb.mono xp,RB.zero.mono xp,?_⟩;walk_at"w";split
  . rename_i c;exact Vx (by rw[ew,aaa c];rfl)
  .
   rename_i c;refine⟨_,aW hk2,?_⟩;walk_at"w";refine⟨_,_,rfl,(hR.rb (ZM hk2)).mono xp,hpb.mono xp,?_⟩;walk_at"w";split
   . rename_i c2;exact Vx (by rw[ew,aaa c2,Bool.or_true])
   . rename_i c2;exact cont (by rw[ew,ZP c,ZP c2];rfl)
 . rintro Z ⟨x2,x3,rfl,hpre⟩;walk_at"w";have e:eK (bX R ps) ps.length=none:=jK.mpr λk hk=>hpre k (ZT.mpr hk);rw[e]at h;exact⟨_,ag (ag aD),h⟩
def kN:FS:=λls js=>∃(R:aB)(d:D),ls=[.d (aI R),.d d]/\R.Ok/\(∀(xs:List D)(q:Rat),d=.lst xs->Wz q∈xs->RB 4400 q)/\js (.d (.bl (qw R d))) ls
def n9:W L:=(av hJ (aq (ai 0) aC))
def iX:W Fl:=(aV (Wj (Wg (oJ (aM (Wi (lK "list") (ai 1)))) (aM (au um (aZ b8 (aq (ai 1) aC)) (aZ b8 (aq (au aE (ai 0) (wC (.int 1))) aC))))) (a9 (wC (.bl false))) bF)
  (a9 (iG (aZ OB (aq (bz (fj 1 [] (qY (ai 1)) (aU 0) dO n9)) aC)) (au CL (av d5 (aq (ai 0) (aq (ai 1) aC))) (wC .non)))))
theorem xE:ab4 2 0 kN iX:=by
 rintro ls js - ⟨R,d,rfl,hR,hb,h⟩;have few:=hR.few;by_cases hd:∃xs,d=.lst xs
 .
  obtain⟨xs,rfl⟩:=hd;walk_at"iX";have es:qw R (.lst xs)=(decide (xs.length=R.asks.length) && (xs.all kr && (eK (bX R (xs.map Bn)) xs.length).isNone)):=rfl;rw[es]at h;by_cases hl:xs.length=R.asks.length
  .
   rw[aaa hl,aaR]at h;rw[if_neg (by rw[hl];simp)];refine⟨ZR (by omega:xs.length<=20) xp,?_⟩;rw[show xs=xs.map (λd=>d)from(List.map_id' xs).symm];refine df (enc:=λd=>d) (h:=λd=>D.bl (kr d)) xs _ _ (λd hd Q hQ=>?_) λl'=>?_
   . walk_at"n9";refine⟨_,rfl,?_⟩;walk_at"w";exact hQ
   .
    simp only[List.map_id'];walk_at"w";intro _;refine⟨xs.map kr,by rw[aag];rfl,?_⟩;have ea:(xs.map kr).all id=xs.all kr:=by simp
    rw[ea]
    cases e:xs.all kr with
    | false =>
     rw[e,aaD]at h;walk_at"w";exact⟨_,ag (ag aD),h⟩
    | true =>
     obtain⟨ps,rfl⟩:=zk e;rw[nj,ZL,e,aaR]at h;walk_at"w";refine⟨R,ps,rfl,hR,by simpa using hl,λp hp=>hb _ _ rfl (ZW.mpr ⟨p,hp,rfl⟩),?_⟩
     cases e:eK (bX R ps) ps.length with
     |none=>rw[e]at h;exact⟨_,ag (ag aD),h⟩
     |some k=>rw[e]at h;exact⟨_,ag (ag aD),h⟩
  . rw[ZP hl,aaD]at h;rw[if_pos (by omega)];exact⟨_,ag (ag aD),h⟩
 .
  have e:qw R d=false:=by
   unfold qw;split
   . exact absurd ⟨_,rfl⟩ hd
   . rfl
  rw[e]at h
  have ei:oQ "list" d=false:=by
   cases d<;>first
    |exact absurd ⟨_,rfl⟩ hd
    |rfl
  walk_at"iX";rw[ei];walk_at"w";exact⟨_,ag (ag aD),h⟩
def kO:FS:=λls js=>∃(R:aB)(d:D),ls=[.d (aI R),.d d]/\(∀xs,d=.lst xs->xs.length<=99)/\js (.d (.bl (Nx R.asks.length d))) ls
def tH:W L:=(av mz (aq (ai 0) aC))
def sf:W Fl:=(aV (Wj (Wg (oJ (aM (Wi (lK "list") (ai 1)))) (aM (au um (aZ b8 (aq (ai 1) aC)) (aZ b8 (aq (au aE (ai 0) (wC (.int 1))) aC))))) (a9 (wC (.bl false))) bF)
  (a9 (aZ OB (aq (bz (fj 1 [] (qY (ai 1)) (aU 0) dO tH)) aC))))
theorem R6(xs:List D):(xs.map λx=>Aw x).all id=xs.all Aw:=by rw[List.all_map];rfl
theorem BU:ab4 2 0 kO sf:=by
 rintro ls js - ⟨R,d,rfl,hl,h⟩;have bk:∀b:Bool,js (.d (.bl b)) [.d (aI R),.d d]->aL [.d (aI R),.d d] js (.rt (.d (.bl b))) [.d (aI R),.d d]:=λb h=>⟨_,ag (ag aD),h⟩;have h:=bk _ h;unfold sf;by_cases ht:∃xs,d=.lst xs
 .
  obtain⟨xs,rfl⟩:=ht;have hl:=hl xs rfl;unfold Nx at h;walk_at"w";by_cases e:xs.length=R.asks.length
  .
   rw[if_neg (by omega)];refine⟨Nl hl,Jv (h:=λx=>D.bl (Aw x)) xs _ _ (λx hx Q hQ=>?_) λl c=>?_⟩
   . walk_at"tH";exact⟨x,rfl,hQ⟩
   rw[aa5];refine⟨xs.map λx=>Aw x,by rw[aag];rfl,?_⟩;walk_at"w";rw[R6];simp only[e,abX,aaR]at h;exact h
  . rw[if_pos (by omega)];simp only[e,abK,aaD]at h;exact h
 .
  have ei:oQ "list" d=false:=by
   cases d<;>first
    |exact absurd ⟨_,rfl⟩ ht
    |rfl
  have ea:Nx R.asks.length d=false:=by
   cases d<;>first
    |exact absurd ⟨_,rfl⟩ ht
    |rfl
  rw[ea]at h;walk_at"w";rw[ei];exact h
def mG:FS:=λls js=>∃(R:aB),ls=[.d (aI R)]/\R.Ok/\∀c,js (.bx none [.d (Wz (bB R).1),.own c ((bY R (bB R).1).map Wz),.d (dR (bB R).2)]) ls
def pK:W Fl:=(aV (br 1 (bz (av b9 (aq (ai 0) aC))))
  (a9 (Ii (aq (au aE (ai 1) (wC (.int 0))) (aq (av cL (aq (ai 0) (aq (au aE (ai 1) (wC (.int 0))) aC))) (aq (au aE (ai 1) (wC (.int 1))) aC))))))
theorem zV:ab4 1 1 mG pK:=by rintro ls js - ⟨R,rfl,hR,h⟩;walk_at"pK";refine⟨R,rfl,hR,?_⟩;walk_at"w";refine⟨R,_,rfl,hR,(kg hR).mono xp,λc=>?_⟩;walk_at"w";exact⟨xp,_,ag aD,h c⟩
def si:FS:=λls js=>∃(R:aB)(d:D)(q:Rat),ls=[.d (aI R),.d d,.d (Wz q)]/\R.Ok/\sU R d/\js (.d (.bl (Nm R q d))) ls
def wD:W Fl:=(a9 (iG (av kN (aq (ai 0) (aq (ai 1) aC))) (au qV (au aE (av wj (aq (ai 0) (aq (ai 1) aC))) (wC (.int 0))) (ai 2))))
theorem DP:ab4 3 0 si wD:=by
 rintro ls js - ⟨R,d,q,rfl,hR,hs,h⟩;walk_at"wD";refine⟨R,d,rfl,hR,hs.rb,?_⟩
 cases e:qw R d with
 | false =>
  rw[Ph e]at h;walk_at"w";exact⟨_,ag (ag (ag aD)),h⟩
 | true =>
  obtain⟨ps,rfl,hl,hn⟩:=Me e;rw[Fq hl hn]at h;walk_at"w";refine⟨R,ps,rfl,hR,hl,hs.lb ps rfl hl hn,?_⟩;simp only[UF];walk_at"w";exact⟨_,ag (ag (ag aD)),h⟩
def mH:FS:=λls js=>∃(R:aB)(d:D)(q:Rat),ls=[.d (aI R),.d d,.d (Wz q)]/\R.Ok/\js (.d (.bl (Di R q d))) ls
def pL:W Fl:=(a9 (iG (av vU (aq (ai 0) (aq (ai 1) aC))) (au qV (av kG (aq (ai 0) (aq (ai 1) aC))) (ai 2))))
theorem zW:ab4 3 0 mH pL:=by
 rintro ls js - ⟨R,d,q,rfl,hR,h⟩;walk_at"pL";refine⟨R,d,rfl,?_⟩
 cases e:GV R.n d with
 | false =>
  rw[Mg e]at h;walk_at"w";exact⟨_,ag (ag (ag aD)),h⟩
 | true =>
  obtain⟨c,rfl,hc⟩:=Pg e;rw[Bo hc]at h;walk_at"w";refine⟨R,c,rfl,hR,hc,?_⟩;walk_at"w";exact⟨_,ag (ag (ag aD)),h⟩
def eQ:FS:=λls js=>∃(R:aB)(d:D),ls=[.d (aI R),.d d]/\R.Ok/\(∀a b c,d=.tup [a,b,c]->sU R b)/\js (.d (.bl (vv R d))) ls
def gj:W Fl:=(aV (Wj (Wg (oJ (aM (Wi (lK "tuple") (ai 1)))) (Wg (aM (au um (aZ b8 (aq (ai 1) aC)) (wC (.int 3)))) (oJ (aM (av hJ (aq (au aE (ai 1) (wC (.int 0))) aC)))))) (a9 (wC (.bl false))) bF)
  (a9 (iG (av si (aq (ai 0) (aq (au aE (ai 1) (wC (.int 1))) (aq (au aE (ai 1) (wC (.int 0))) aC)))) (av mH (aq (ai 0) (aq (au aE (ai 1) (wC (.int 2))) (aq (au aE (ai 1) (wC (.int 0))) aC)))))))
theorem xF:ab4 2 0 eQ gj:=by
 rintro ls js - ⟨R,d,rfl,hR,hs,h⟩;by_cases hd:∃xs,d=.tup xs
 .
  obtain⟨xs,rfl⟩:=hd;by_cases h3:xs.length=3
  .
   obtain⟨a,b,c,rfl⟩:∃a b c,xs=[a,b,c]:=by
    match xs,h3 with
    |[a,b,c],_=>exact⟨a,b,c,rfl⟩
   have hb:=hs a b c rfl;walk_at"gj";refine⟨_,rfl,?_⟩;have el:vv R (.tup [a,b,c])=(kr a && (Nm R (Bn a) b && Di R (Bn a) c)):=rfl;rw[el]at h
   cases ea:kr a with
   | false =>
    rw[ea,aaD]at h;walk_at"w";exact⟨_,ag (ag aD),h⟩
   | true =>
    obtain⟨q,rfl⟩:=Js ea;rw[ea,aaR,vq]at h;walk_at"w";refine⟨R,b,q,rfl,hR,hb,?_⟩
    cases eb:Nm R q b with
    | false =>
     rw[eb,aaD]at h;walk_at"w";exact⟨_,ag (ag aD),h⟩
    | true =>
     rw[eb,aaR]at h;walk_at"w";refine⟨R,c,q,rfl,hR,?_⟩;walk_at"w";exact⟨_,ag (ag aD),h⟩
  .
   have el:vv R (.tup xs)=false:=by
    unfold vv;split
    . rename_i e;injection e with e;subst e;exact absurd rfl h3
    . rfl
   rw[el]at h;walk_at"gj";rw[if_pos (by omega)];exact⟨_,ag (ag aD),h⟩
 .
  have el:vv R d=false:=by
   unfold vv;split
   . exact absurd ⟨_,rfl⟩ hd
   . rfl
  rw[el]at h
  have ei:oQ "tuple" d=false:=by
   cases d<;>first
    |exact absurd ⟨_,rfl⟩ hd
    |rfl
  walk_at"gj";rw[ei];walk_at"w";exact⟨_,ag (ag aD),h⟩
noncomputable def Zx(a:WW):Nat:=max a.one a.other
def cS:FS:=λls js=>∃(R:aB)(k:Nat)(hk:k<R.asks.length),ls=[.d (aI R),.d (.int k)]/\js (.d (.int (Xp R.asks[k]))) ls
def jw:W Fl:=(a9 (aZ Hx (aq (au aE (au aE (au aE (ai 0) (wC (.int 1))) (ai 1)) (wC (.int 1))) (aq (au aE (au aE (au aE (ai 0) (wC (.int 1))) (ai 1)) (wC (.int 2))) aC))))
theorem t9:ab4 2 0 cS jw:=by
 rintro ls js - ⟨R,k,hk,rfl,h⟩;walk_at"jw";refine⟨_,aW hk,?_⟩;walk_at"w";refine⟨_,aW hk,?_⟩;walk_at"w"
 have e:(if((R.asks[k].other:Nat):Int)<(R.asks[k].one:Int)then((R.asks[k].other:Nat):Int)else(R.asks[k].one:Int))=((Xp R.asks[k]:Nat):Int):=by unfold Xp;split<;>omega
 first|rw[e] | skip
 exact⟨_,ag (ag aD),h⟩
def dW:FS:=λls js=>∃(R:aB)(k:Nat)(hk:k<R.asks.length),ls=[.d (aI R),.d (.int k)]/\js (.d (.int ((max R.asks[k].one R.asks[k].other:Nat):Int))) ls
def ib:W Fl:=(a9 (aZ KY (aq (au aE (au aE (au aE (ai 0) (wC (.int 1))) (ai 1)) (wC (.int 1))) (aq (au aE (au aE (au aE (ai 0) (wC (.int 1))) (ai 1)) (wC (.int 2))) aC))))
theorem sj:ab4 2 0 dW ib:=by
 rintro ls js - ⟨R,k,hk,rfl,h⟩;walk_at"ib";refine⟨_,aW hk,?_⟩;walk_at"w";refine⟨_,aW hk,?_⟩;walk_at"w"
 have e:(if((R.asks[k].other:Nat):Int) > (R.asks[k].one:Int)then((R.asks[k].other:Nat):Int)else(R.asks[k].one:Int))=((max R.asks[k].one R.asks[k].other:Nat):Int):=by split<;>omega
 first|rw[e] | skip
 exact⟨_,ag (ag aD),h⟩
noncomputable def BV(a b:WW):Bool:=decide (min a.one a.other<min b.one b.other/\min b.one b.other<max a.one a.other/\max a.one a.other<max b.one b.other) ||decide (min b.one b.other<min a.one a.other/\min a.one a.other<max b.one b.other/\max b.one b.other<max a.one a.other)
def pM:FS:=λls js=>∃(R:aB)(k l:Nat)(hk:k<R.asks.length)(hl:l<R.asks.length),ls=[.d (aI R),.d (.int k),.d (.int l)]/\js (.d (.bl (BV R.asks[k] R.asks[l]))) ls
def sq:W Fl:=(aV (br 3 (bz (av cS (aq (ai 0) (aq (ai 1) aC)))))
  (aV (br 4 (bz (av dW (aq (ai 0) (aq (ai 1) aC)))))
  (aV (br 5 (bz (av cS (aq (ai 0) (aq (ai 2) aC)))))
  (aV (br 6 (bz (av dW (aq (ai 0) (aq (ai 2) aC)))))
  (a9 (Sj (uZ (ai 3) [(uR,(ai 5)),(uR,(ai 4)),(uR,(ai 6))]) (uZ (ai 5) [(uR,(ai 3)),(uR,(ai 6)),(uR,(ai 4))])))))))
theorem ME(a b:WW){A B C D':Int}(hA:A=((min a.one a.other:Nat):Int))(hB:B=((min b.one b.other:Nat):Int))(hC:C=((max a.one a.other:Nat):Int))(hD:D'=((max b.one b.other:Nat):Int)):BV a b=(decide (A<B/\B<C/\C<D') ||decide (B<A/\A<D'/\D' < C)):=by subst hA hB hC hD;unfold BV;simp only[Int.ofNat_lt]
theorem BW:ab4 3 4 pM sq:=by
 rintro ls js - ⟨R,k,l,hk,hl,rfl,h⟩;walk_at"sq";refine⟨R,k,hk,rfl,?_⟩;walk_at"w";refine⟨R,k,hk,rfl,?_⟩;walk_at"w";refine⟨R,l,hl,rfl,?_⟩;walk_at"w";refine⟨R,l,hl,rfl,?_⟩;walk_at"w";have Vx:∀b:Bool,b=BV R.asks[k] R.asks[l]->∀x3 x4 x5 x6:L,aL [.d (aI R),.d (.int k),.d (.int l)] js (.rt (.d (.bl b))) [.d (aI R),.d (.int k),.d (.int l),x3,x4,x5,x6]:=λb hb x3 x4 x5 x6=>by subst hb;exact⟨_,ag (ag (ag aD)),h⟩
 have ec:=ME R.asks[k] R.asks[l] (A:=(Xp R.asks[k]:Int)) (B:=(Xp R.asks[l]:Int)) rfl rfl rfl rfl;generalize hA:((Xp R.asks[k]:Nat):Int)=A at *;generalize hB:((Xp R.asks[l]:Nat):Int)=B at *;generalize hC:((max R.asks[k].one R.asks[k].other:Nat):Int)=C at *;generalize hD:((max R.asks[l].one R.asks[l].other:Nat):Int)=D' at *
 by_cases c1:A<B<;>by_cases c2:B<C<;>by_cases c3:C<D'<;>by_cases c4:B<A<;>by_cases c5:A<D'<;>by_cases c6:D' < C <;>
  simp only[c1,c2,c3,c4,c5,c6,aaX,aa3,ite_true,ite_false,abX,abK,FW,aaw]<;>refine Vx _ ?_ _ _ _ _<;>rw[ec]<;>simp only[c1,c2,c3,c4,c5,c6]<;>decide
noncomputable def PR(R:aB)(ps:List Rat)(k:Nat):Bool:=decide (0<ps.getD k 0) && decide (ps.getD k 0<R.sz k)
noncomputable def gA(R:aB)(ps:List Rat):List Nat:=(List.range ps.length).filter (PR R ps)
def cf:FS:=λls js=>∃(R:aB)(ps:List Rat)(c:Nat),ls=[.d (aI R),.d (.lst (ps.map Wz))]/\R.Ok/\ps.length=R.asks.length/\(∀p∈ps,RB c p)/\c<=400000/\∀a,js (.own a ((gA R ps).map λ(k:Nat)=>D.int (k:Int))) ls
def qK:W L:=(ai 0)
def pN:W Fl:=(a9 (fj 2 [0] (xr (ai 1)) (eF [0,1]) (QQ (aM (av bM (aq (wC (.tup [(.int 0),(.int 1)])) (aq (ai 1) aC)))) (aM (av bM (aq (ai 1) (aq (au aE (au aE (au aE (ai 2) (wC (.int 1))) (ai 0)) (wC (.int 3))) aC))))) qK))
theorem J2{α:Type}{e1 e2:α->D}{p:α->Bool}{caps:Ev}{ti:W Bool}{te:W L}{k:List D->Ev->Prop}{g:α->D}(as:List α)(acc:List D)(l m:L)
  (h1:∀a∈as,∀Q:Bool->Ev->Prop,Q (p a) (.d (e1 a)::.d (e2 a)::caps)->ti (.d (e1 a)::.d (e2 a)::caps) Q)
  (h2:∀a∈as,p a=true->∀Q:L->Ev->Prop,Q (.d (g a)) (.d (e1 a)::.d (e2 a)::caps)->te (.d (e1 a)::.d (e2 a)::caps) Q)
  (hk:∀l m,k (acc++(as.filter p).map g) (l::m::caps)):de (eF [0,1]) ti te (as.map λa=>D.tup [e1 a,e2 a]) (l::m::caps) acc k:=by
 induction as generalizing acc l m with
 |nil=>simpa[de]using hk l m
 | cons a as ih =>
  rw[aae];unfold de;rw[Bc];refine h1 a k4 _ ?_
  cases hp:p a with
  | false =>
   rw[if_neg (by decide)];refine ih acc _ _ (λb hb=>h1 b (fI _ hb)) (λb hb=>h2 b (fI _ hb)) λl m=>?_;have:=hk l m;rw[aao,if_neg (by rw[hp];decide)]at this;exact this
  | true =>
   rw[if_pos rfl];refine h2 a k4 hp _ ?_;refine ih _ _ _ (λb hb=>h1 b (fI _ hb)) (λb hb=>h2 b (fI _ hb)) λl m=>?_;have:=hk l m;rw[aao,if_pos hp,aae]at this;rw[aaJ];exact this
theorem zX:ab4 2 0 cf pN:=by
 rintro ls js - ⟨R,ps,c,rfl,hR,hl,hb,hc,h⟩;walk_at"pN";rw[Fe];refine⟨by rw[ZL,aac,hl];exact ZR hR.few xp,?_⟩;refine J2 (p:=PR R ps) (g:=λ(k:Nat)=>D.int (k:Int)) _ _ _ _ (λk hk Q hq=>?_) (λk hk hp Q hq=>?_) λl m=>?_
 .
  have hk':k<ps.length:=by simpa using hk
  have hb':=hb _ (ZM hk');rw[<- kj hk']at hb';walk_at"w";refine⟨0,_,rfl,RB.zero.mono xp,hb'.mono hc,?_⟩;walk_at"w";unfold PR at hq;by_cases h0:0<ps.getD k 0
  . rw[if_pos h0];refine⟨_,aW xL,?_⟩;walk_at"w";refine⟨_,_,rfl,hb'.mono hc,(hR.rb (ZM _)).mono xp,?_⟩;walk_at"w";rw[Bl xL]at hq;simpa only[h0,abX,aaR]using hq
  . rw[if_neg h0];simpa only[h0,abK,aaD]using hq
 . walk_at"qK";exact hq
 . intro a;walk_at"w";exact⟨_,ag (ag aD),h a⟩
def a7:FS:=λls js=>∃(R:aB)(ks:List Nat),ls=[.d (aI R),.d (.lst (ks.map λ(k:Nat)=>D.int (k:Int)))]/\ks.length<=20/\(∀k∈ks,k<R.asks.length)/\js (.d (Dk (Xk (Xj R) ks))) ls
def bq:W Fl:=(Wj (oJ (aM (av pM (aq (ai 0) (aq (ai 3) (aq (ai 4) aC)))))) (a9 (lz (aq (ai 3) (aq (ai 4) aC)))) bF)
def fm:W Fl:=(oO (qY (SF (ai 1) (some (au jE (ai 2) (wC (.int 1)))) none)) (aU 4) bq)
def dG:W Fl:=(aV (oO (xr (ai 1)) (eF [2,3]) fm)
  (a9 (wC .non)))
theorem BX{R:aB}{X:D}{x2:L}{k:Nat}(hk:k<R.asks.length){Q:Fl->Ev->Prop}:∀(ls:List Nat)(x4:L),(∀l∈ls,l<R.asks.length) ->
  (∀l,ls.find? (λl=>!Xj R k l)=some l->∀Z,Cp Z [.d (aI R),.d X] [.d (aI R),.d X]->Q (.rt (.d (.tup [.int (k:Int),.int (l:Int)]))) Z)->(ls.find? (λl=>!Xj R k l)=none->∀x4,Q .nx [.d (aI R),.d X,x2,.d (.int (k:Int)),x4]) ->
  fW (aU 4) bq (ls.map λ(k:Nat)=>D.int (k:Int)) [.d (aI R),.d X,x2,.d (.int (k:Int)),x4] Q
 |[],x4,_,_,h2=>h2 rfl x4
 | l::ls,x4,hl,h1,h2=>by
  have hl0:=hl l k4;show fW (aU 4) bq (D.int (l:Int)::ls.map λ(k:Nat)=>D.int (k:Int)) _ Q;unfold fW;show bq [.d (aI R),.d X,x2,.d (.int (k:Int)),.d (.int (l:Int))] _;walk_at"bq";refine⟨R,k,l,hk,hl0,rfl,?_⟩;have ec:BV R.asks[k] R.asks[l]=Xj R k l:=by unfold Xj;rw[iQ hk,iQ hl0];rfl
  walk_at"w";rw[ec]
  cases e:Xj R k l with
  | false =>
   walk_at"w";exact⟨xp,h1 l (by rw[List.find?_cons,e];rfl) _ (ag (ag aD))⟩
  | true =>
   walk_at"w";exact BX hk ls _ (λm hm=>hl m (fI _ hm)) (λm hm=>h1 m (by rw[List.find?_cons,e];exact hm)) (λhm=>h2 (by rw[List.find?_cons,e];exact hm))
theorem MF{cr:Nat->Nat->Bool}{ks:List Nat}{j:Nat}(h:j<ks.length):Xk cr (ks.drop j)=match (ks.drop (j+1)).find? (λl=>!cr ks[j] l)with
  |some l=>some (ks[j],l)
  |none=>Xk cr (ks.drop (j+1)):=by
 rw[aaB h];rfl
theorem lM:ab4 2 3 a7 dG:=by
 rintro ls js - ⟨R,ks,rfl,h20,hks,h⟩;walk_at"dG";refine cJ _ (λj Z=>(∃x2 x3 x4,Z=[.d (aI R),.d (.lst (ks.map λ(k:Nat)=>D.int (k:Int))),x2,x3,x4])/\Xk (Xj R) (ks.drop j)=Xk (Xj R) ks) _ ⟨⟨_,_,_,rfl⟩,rfl⟩ ?_ ?_
 .
  rintro j x Z hj ⟨⟨x2,x3,x4,rfl⟩,hf⟩ Q h1 h2 h3 h4;have hj':j<ks.length:=by have:=(so.mp hj).1;simpa[eG]using this
  have ex:x=.tup [.int (j:Int),.int (ks[j]:Int)]:=by
   have:(eG (ks.map λ(k:Nat)=>D.int (k:Int)))[j]?=some (.tup [.int (j:Int),.int (ks[j]:Int)]):=by simp[eG,hj']
   rw[this]at hj;exact(aaf hj).symm
  subst ex;walk_at"fm";rw[show(j:Int)+1=((j+1:Nat):Int) by omega,Lo,Lx (show j+1<=ks.length by omega)];rw[MF hj']at hf;refine λ_=>BX (hks _ (ZM hj')) _ _ (λl hl=>hks l (List.mem_of_mem_drop hl)) (λl e Z b=>h4 _ _ ?_) λe x4=>h1 _ ⟨⟨_,_,_,rfl⟩,?_⟩
  . rw[e]at hf;rw[<- hf]at h;exact⟨_,b,h⟩
  . rw[e]at hf;exact hf
 .
  rintro Z ⟨⟨x2,x3,x4,rfl⟩,hf⟩;have e:ks.drop (eG (ks.map λ(k:Nat)=>D.int (k:Int))).length=[]:=by simp[eG]
  rw[e]at hf;rw[<- hf]at h;exact⟨_,ag (ag aD),h⟩
def fP:FS:=λls js=>∃(p am:Rat)(w:Bool),ls=[.d (Wz p),.d (.str (jh w)),.d (Wz am)]/\RB 4400 p/\RB 4400 am/\js (.d (Wz (Xe p w am))) ls
def kP:W Fl:=(a9 (GU (aM (au qV (ai 1) (wC (.str "on")))) (av jq (aq (ai 0) (aq (ai 2) aC))) (av dU (aq (ai 0) (aq (ai 2) aC)))))
theorem wF:ab4 3 0 fP kP:=by
 rintro ls js - ⟨p,am,w,rfl,hp,ha,h⟩;unfold kP;unfold Xe at h;walk_at"w"
 cases w with
 | true =>
  walk_at"w";exact FE hp ha ⟨_,ag (ag (ag aD)),h⟩
 | false =>
  walk_at"w";exact gi hp ha ⟨_,ag (ag (ag aD)),h⟩
def iY:FS:=λls js=>∃(ps:List Rat)(s:iH),ls=[.d (.lst (ps.map Wz)),.d (Xa s)]/\ps.length<=20/\s.k<ps.length/\s.l<ps.length/\s.k≠s.l/\(∀p∈ps,RB 4000 p)/\RB 4000 s.am/\∀a,js (.own a ((Xf ps s).map Wz)) ls
def pO:W Fl:=(aV (br 2 (aZ AS (aq (ai 0) aC)))
  (aV (xq 2 (au aE (ai 1) (wC (.int 0))) (av fP (aq (fY 2 (CI 2 (au aE (ai 1) (wC (.int 0)))) (au aE (ai 2) (au aE (ai 1) (wC (.int 0))))) (aq (au aE (ai 1) (wC (.int 1))) (aq (au aE (ai 1) (wC (.int 4))) aC)))))
  (aV (xq 2 (au aE (ai 1) (wC (.int 2))) (av fP (aq (fY 2 (CI 2 (au aE (ai 1) (wC (.int 2)))) (au aE (ai 2) (au aE (ai 1) (wC (.int 2))))) (aq (au aE (ai 1) (wC (.int 3))) (aq (au aE (ai 1) (wC (.int 4))) aC)))))
  (a9 (jD 2)))))
theorem J3{n k:Nat}(h:k<n):VS n (k:Int)=some k:=by unfold VS;rw[if_pos (by omega),if_pos (by omega)];simp
theorem zY:ab4 2 1 iY pO:=by
 rintro ls js - ⟨ps,s,rfl,h20,hk,hl,hkl,hp,ha,h⟩;unfold pO;simp only[Xa];walk_at"w";have r1:=hp _ (ZM hk);have r2:=hp _ (ZM hl);refine λa=>⟨_,aW hk,ps[s.k],s.am,s.kw,rfl,r1.mono xp,ha.mono xp,?_⟩;walk_at"w";have hl':s.l<(ps.set s.k (Xe ps[s.k] s.kw s.am)).length:=by rw[abg];exact hl
 have e1:(ps.set s.k (Xe ps[s.k] s.kw s.am))[s.l]=ps[s.l]:=by rw[List.getElem_set_ne hkl]
 refine⟨s.k,J3 hk,?_⟩;rw[<- List.map_set];refine⟨_,aW hl',_,s.am,s.lw,rfl,by rw[e1];exact r2.mono xp,ha.mono xp,?_⟩;walk_at"w";refine⟨s.l,J3 (by simpa using hl),_,ag (ag aD),?_⟩;have h:=h a;unfold Xf at h;rw[dE hk,dE hl',List.map_set]at h;exact h
def eR:FS:=λls js=>∃(R:aB)(k l:Nat)(kw lw:Bool)(hk:k<R.asks.length)(hl:l<R.asks.length),ls=[.d (aI R),.d (.int (k:Int)),.d (.str (jh kw)),.d (.int (l:Int)),.d (.str (jh lw))]/\R.Ok/\js (.d (.bl (nG R.n R.asks[k] kw R.asks[l] lw))) ls
def lE:W L:=(au (CJ false) (ai 0) (ai 1))
def jx:W Fl:=(aV (br 5 (bz (av jP (aq (ai 0) (aq (ai 3) (aq (ai 4) aC))))))
  (a9 (FY (aM (aZ Rf (aq (bz (fj 1 [5] (qY (av jP (aq (ai 0) (aq (ai 1) (aq (ai 2) aC))))) (aU 0) dO lE)) aC))))))
theorem ua:ab4 5 1 eR jx:=by
 rintro ls js - ⟨R,k,l,kw,lw,hk,hl,rfl,hR,h⟩;walk_at"jx";refine⟨R,l,lw,hl,rfl,hR,λc=>?_⟩;walk_at"w";refine⟨R,k,kw,hk,rfl,hR,λc2=>?_⟩;walk_at"w";have b0:=IL (hR.ask _ (ZM hk)) kw;have hhi:=hR.hi;refine⟨Nl xL,df (h:=λt=>.bl (decide (t∈xc R.n R.asks[l] lw))) (xc R.n R.asks[k] kw) [] _ (λt hm Q hq=>?_) λl' a0=>?_⟩
 . walk_at"lE";refine⟨rfl,by simp[tX],?_⟩;rw[uz];exact hq
 . rw[aa5];refine⟨(xc R.n R.asks[k] kw).map λt=>decide (t∈xc R.n R.asks[l] lw),by rw[aag];rfl,?_⟩;walk_at"w";refine⟨_,ag (ag (ag (ag (ag aD)))),?_⟩;unfold nG at h;simpa[List.any_map]using h
def dH:FS:=λls js=>∃(d:D)(n:Nat),ls=[.d d,.d (.int (n:Int))]/\js (.d (.bl (xv n d))) ls
def cT:W Fl:=(a9 (iG (av mz (aq (au aE (ai 0) (wC (.int 1))) aC)) (iG (av mz (aq (au aE (ai 0) (wC (.int 3))) aC)) (av hJ (aq (au aE (ai 0) (wC (.int 4))) aC)))))
def cU:W Fl:=(aV (Wj (Wg (oJ (aM (av cK (aq (au aE (ai 0) (wC (.int 0))) (aq (ai 1) aC))))) (oJ (aM (av cK (aq (au aE (ai 0) (wC (.int 2))) (aq (ai 1) aC)))))) (a9 (wC (.bl false))) bF)
  cT)
def d6:W Fl:=(aV (Wj (Wg (oJ (aM (Wi (lK "tuple") (ai 0)))) (aM (au um (aZ b8 (aq (ai 0) aC)) (wC (.int 5))))) (a9 (wC (.bl false))) bF)
  cU)
theorem R7{a b c d e:D}{z:L}{js:Fl->Ev->Prop}(h:js (.rt (.d (.bl (Aw b && (Aw d && kr e))))) [.d (.tup [a,b,c,d,e]),z]):cT [.d (.tup [a,b,c,d,e]),z] js:=by
 walk_at"cT";refine⟨_,rfl,?_⟩
 cases e3:Aw b with
 | false =>
  rw[e3]at h;exact h
 | true =>
  rw[e3,aaR]at h;refine⟨_,rfl,?_⟩
  cases e4:Aw d with
  | false =>
   rw[e4]at h;exact h
  | true =>
   rw[e4,aaR]at h;exact⟨_,rfl,h⟩
theorem R8{a b c d e:D}{n:Nat}{js:Fl->Ev->Prop}(h:js (.rt (.d (.bl (vC a n && (vC c n && (Aw b && (Aw d && kr e))))))) [.d (.tup [a,b,c,d,e]),.d (.int (n:Int))]):cU [.d (.tup [a,b,c,d,e]),.d (.int (n:Int))] js:=by
 walk_at"cU";refine⟨_,_,rfl,?_⟩
 cases e1:vC a n with
 | false =>
  rw[e1]at h;exact h
 | true =>
  rw[e1,aaR]at h;refine⟨_,_,rfl,?_⟩
  cases e2:vC c n with
  | false =>
   rw[e2]at h;exact h
  | true =>
   rw[e2,aaR]at h;exact R7 h
theorem mI:ab4 2 0 dH d6:=by
 rintro ls js - ⟨d,n,rfl,h⟩;have bk:∀b:Bool,js (.d (.bl b)) [.d d,.d (.int (n:Int))]->aL [.d d,.d (.int (n:Int))] js (.rt (.d (.bl b))) [.d d,.d (.int (n:Int))]:=λb h=>⟨_,ag (ag aD),h⟩;have h:=bk _ h;unfold d6;by_cases ht:∃xs,d=.tup xs
 .
  obtain⟨xs,rfl⟩:=ht;by_cases h5:xs.length=5
  . obtain⟨a,b,c,d,e,rfl⟩:=U3 h5;rw[Po]at h;walk_at"w";exact R8 h
  .
   rw[Jy h5]at h;walk_at"w";have:¬((xs.length:Int)=5):=by omega
   simp only[this,not_false_eq_true,abX,aaX,ite_true];exact h
 .
  rw[Mr (λxs e=>ht ⟨xs,e⟩)]at h
  have ei:oQ "tuple" d=false:=by
   cases d<;>first
    |exact absurd ⟨_,rfl⟩ ht
    |rfl
  walk_at"w";rw[ei];exact h
def kQ:FS:=λls js=>∃(R:aB)(ps:List Rat)(k:Nat)(w:Bool),ls=[.d (aI R),.d (.lst (ps.map Wz)),.d (.int (k:Int)),.d (.str (jh w))]/\gu R ps/\k<ps.length/\js (.d (Wz (Xb R ps k w))) ls
def su:W Fl:=(a9 (GU (aM (au qV (ai 3) (wC (.str "on")))) (av dU (aq (au aE (au aE (au aE (ai 0) (wC (.int 1))) (ai 2)) (wC (.int 3))) (aq (au aE (ai 1) (ai 2)) aC))) (au aE (ai 1) (ai 2))))
theorem BY:ab4 4 0 kQ su:=by
 rintro ls js - ⟨R,ps,k,w,rfl,hS,hk,h⟩;have hk':k<R.asks.length:=by rw[<- hS.len];exact hk
 have r1:=hS.sz_rb hk;have r2:=hS.rb hk;rw[Bp hk']at r1;rw[dE hk]at r2;unfold Xb at h;rw[Bp hk',dE hk]at h;walk_at"su"
 cases w with
 | true =>
  walk_at"w";refine⟨_,aW hk',?_⟩;walk_at"w";refine⟨_,aW hk,?_⟩;walk_at"w";exact gi (r1.mono xp) (r2.mono xp) ⟨_,ag (ag (ag (ag aD))),h⟩
 | false =>
  walk_at"w";exact⟨_,aW hk,_,ag (ag (ag (ag aD))),h⟩
def iZ:FS:=λls js=>∃(R:aB)(ps:List Rat)(k l:Nat)(kw lw:Bool)(more:List D),ls=[.d (aI R),.d (.lst (ps.map Wz)),.d (.tup (.int (k:Int)::.str (jh kw)::.int (l:Int)::.str (jh lw)::more))]/\gu R ps/\k<ps.length/\l<ps.length/\js (.d (Wz (Xd R ps k kw l lw))) ls
def pP:W Fl:=(a9 (av vS (aq (bz (av kQ (aq (ai 0) (aq (ai 1) (aq (au aE (ai 2) (wC (.int 0))) (aq (au aE (ai 2) (wC (.int 1))) aC)))))) (aq (bz (av kQ (aq (ai 0) (aq (ai 1) (aq (au aE (ai 2) (wC (.int 2))) (aq (au aE (ai 2) (wC (.int 3))) aC)))))) aC))))
theorem zZ:ab4 3 0 iZ pP:=by rintro ls js - ⟨R,ps,k,l,kw,lw,more,rfl,hS,hk,hl,h⟩;walk_at"pP";refine⟨R,ps,k,kw,rfl,hS,hk,?_⟩;walk_at"w";refine⟨R,ps,l,lw,rfl,hS,hl,?_⟩;walk_at"w";exact⟨_,_,rfl,(Bu hS hk kw).mono xp,(Bu hS hl lw).mono xp,_,ag (ag (ag aD)),h⟩
noncomputable def Vh(R:aB)(ps:List Rat)(s:iH):Bool:=!decide (s.k=s.l) && (nG R.n (aS R s.k) s.kw (aS R s.l) s.lw && (decide (0<s.am) && !decide (Xd R ps s.k s.kw s.l s.lw<s.am)))
def pQ:FS:=λls js=>∃(R:aB)(ps:List Rat)(d:D),ls=[.d (aI R),.d (.lst (ps.map Wz)),.d d]/\gu R ps/\(∀s,xg d=some s->s.k<ps.length->s.l<ps.length->RB 400000 s.am)/\js (.d (.bl (Xn R ps d))) ls
def sx:W Fl:=(aV (Wj (Wg (oJ (aM (av dH (aq (ai 2) (aq (bz (aZ b8 (aq (au aE (ai 0) (wC (.int 1))) aC))) aC))))) (aM (au qV (au aE (ai 2) (wC (.int 0))) (au aE (ai 2) (wC (.int 2)))))) (a9 (wC (.bl false))) bF)
  (aV (Wj (oJ (aM (av eR (aq (ai 0) (aq (au aE (ai 2) (wC (.int 0))) (aq (au aE (ai 2) (wC (.int 1))) (aq (au aE (ai 2) (wC (.int 2))) (aq (au aE (ai 2) (wC (.int 3))) aC)))))))) (a9 (wC (.bl false))) bF)
  (a9 (iG (av bM (aq (wC (.tup [(.int 0),(.int 1)])) (aq (au aE (ai 2) (wC (.int 4))) aC))) (FY (aM (av bM (aq (bz (av iZ (aq (ai 0) (aq (ai 1) (aq (ai 2) aC))))) (aq (au aE (ai 2) (wC (.int 4))) aC)))))))))
theorem Uc{R:aB}{ps:List Rat}(h:gu R ps){k l:Nat}(hk:k<ps.length)(hl:l<ps.length)(kw lw:Bool):RB 400000 (Xd R ps k kw l lw):=by
 rcases(h.ms hk hl kw lw).2.2.2 with e|e
 . rw[e];exact(Bu h hk _).mono xp
 . rw[e];exact(Bu h hl _).mono xp
theorem BZ:ab4 3 0 pQ sx:=by
 rintro ls js - ⟨R,ps,d,rfl,hS,ha,h⟩;walk_at"sx";refine⟨_,R.asks.length,rfl,?_⟩
 cases ef:xv R.asks.length d with
 | false =>
  have e:Xn R ps d=false:=by
   unfold xv at ef;unfold Xn;rw[hS.len];split
   . rename_i s e;rw[e]at ef;have ef:(decide (s.k<R.asks.length) && decide (s.l<R.asks.length))=false:=ef;rw[<- Bool.and_assoc,ef];rfl
   . rfl
  rw[e]at h;walk_at"w";exact⟨_,ag (ag (ag aD)),h⟩
 |true =>
 obtain⟨s,es,hk',hl'⟩:∃s,xg d=some s/\s.k<R.asks.length/\s.l<R.asks.length:=by
  unfold xv at ef;split at ef
  . rename_i s e;rw[Z5,ZX,ZX]at ef;exact⟨s,e,ef.1,ef.2⟩
  . cases ef
 have hk:s.k<ps.length:=by rw[hS.len];exact hk'
 have hl:s.l<ps.length:=by rw[hS.len];exact hl'
 have ha2:=ha s es hk hl;have:=Jx es;subst this;rw[Nv hk hl]at h;unfold Wv at h;rw[iQ hk',iQ hl']at h;simp only[Xa]at h ⊢;walk_at"w";by_cases e:s.k=s.l
 . rw[if_pos (by omega)];rw[aaa e]at h;exact⟨_,ag (ag (ag aD)),h⟩
 rw[if_neg (by omega)];rw[ZP e]at h;refine⟨R,s.k,s.l,s.kw,s.lw,hk',hl',rfl,hS.ok,?_⟩;walk_at"w"
 cases e1:nG R.n R.asks[s.k] s.kw R.asks[s.l] s.lw with
 | false =>
  rw[e1]at h;walk_at"w";exact⟨_,ag (ag (ag aD)),h⟩
 | true =>
  rw[e1]at h;walk_at"w";refine⟨0,s.am,rfl,RB.zero.mono xp,ha2,?_⟩;walk_at"w";by_cases e2:0<s.am
  . rw[aaa e2]at h;rw[if_pos e2];refine⟨R,ps,s.k,s.l,s.kw,s.lw,_,rfl,hS,hk,hl,?_⟩;walk_at"w";refine⟨_,s.am,rfl,Uc hS hk hl _ _,ha2,?_⟩;walk_at"w";refine⟨_,ag (ag (ag aD)),?_⟩;simpa using h
  . rw[ZP e2]at h;rw[if_neg e2];exact⟨_,ag (ag (ag aD)),h⟩
def jR:FS:=λls js=>∃(R:aB)(ps:List Rat)(ss:List D)(D:Nat),ls=[.d (aI R),.d (.lst (ps.map Wz)),.d (.lst ss)]/\gu R ps/\ss.length<=99/\(∀d∈ss,∀s,xg d=some s->RB 4000 s.am/\s.am.den∣D)/\(0<D/\D<2^1500/\(∀a∈R.asks,a.size.den∣D)/\(∀p∈ps,p.den∣D)) /\
 Bw R 0 ps ss=none/\∀a,js (.own a ((sV R ps ss).map Wz)) ls
def wG:W Fl:=(aV (Wj (oJ (aM (av pQ (aq (ai 0) (aq (ai 3) (aq (ai 5) aC)))))) AN bF)
  (br 3 (av iY (aq (ai 3) (aq (ai 5) aC)))))
def wH:W Fl:=(aV (Wj (oJ (aM (Wi (lK "list") (ai 2)))) AN bF)
  (aV (br 3 (aZ AS (aq (ai 1) aC)))
  (aV (oO (xr (ai 2)) (eF [4,5]) wG)
  (a9 (jD 3)))))
theorem DQ:ab4 3 3 jR wH:=by
 rintro ls js - ⟨R,ps,ss,D,rfl,hS,h20,hs,⟨d0,d1,da,dp⟩,hbn,h⟩;walk_at"wH";refine λa0=>cJ _ (λj Z=>∃(qs:List Rat)(a:Addr)(x4 x5:L),Z=[.d (aI R),.d (.lst (ps.map Wz)),.d (.lst ss),.own a (qs.map Wz),x4,x5]/\XA R qs D/\qs.length=ps.length/\Bw R j qs (ss.drop j)=Bw R 0 ps ss/\sV R qs (ss.drop j)=sV R ps ss) _ ⟨ps,_,_,_,rfl,⟨hS,d0,d1,da,dp⟩,rfl,rfl,rfl⟩ ?_ ?_
 .
  rintro j x Z hj ⟨qs,a,x4,x5,rfl,hD,hl,hb,hr⟩ Q h1 h2 h3' h4;obtain⟨hj',ex⟩:=Mt hj;subst ex;have hm:=ZM hj';have s3:=hs _ hm;rw[JD hj']at hb;have hr':sV R (Xz qs ss[j]) (ss.drop (j+1))=sV R ps ss:=by rw[<- hr,aaB hj'];rfl
  walk_at"wG";refine⟨R,qs,ss[j],rfl,hD.ok,λs e _ _=>(s3 s e).1.mono xp,?_⟩;walk_at"w"
  cases e:Xn R qs ss[j]with
  | false =>
   rw[e,if_neg (by decide),hbn]at hb;cases hb
  | true =>
   rw[e,if_pos rfl]at hb;obtain⟨s,es,hk,hl',e'⟩:=Nw e;have dd:=JC hD.ok hk hl' e';have es':xg ss[j]=some s:=by rw[es];exact rC s
   obtain⟨s4,s5⟩:=s3 s es';have est:Xz qs ss[j]=Xf qs s:=by unfold Xz;rw[es']
   rw[est]at hb hr';rw[es];walk_at"w";refine⟨qs,s,rfl,by rw[hD.ok.len];exact hD.ok.ok.few,hk,hl',dd.kl,NA hD.ok,s4,λc=>?_⟩;walk_at"w";exact h1 _ ⟨_,_,_,_,rfl,hD.slid dd s5,by rw[l6];exact hl,hb,hr'⟩
 .
  rintro Z ⟨qs,a,x4,x5,rfl,hD,hl,hb,hr⟩;have e:ss.drop (eG ss).length=[]:=by simp[eG]
  rw[e]at hb hr;walk_at"w";have h:=h a;rw[<- hr]at h;exact⟨_,ag (ag (ag aD)),h⟩
def kR:FS:=λls js=>∃(R:aB)(k l:Nat)(hk:k<R.asks.length)(hl:l<R.asks.length),ls=[.d (aI R),.d (.int (k:Int)),.d (.int (l:Int))]/\R.Ok/\js (.d (.tup [.str (jh (bP R.n R.asks[k] R.asks[l]).1),.str (jh (bP R.n R.asks[k] R.asks[l]).2)])) ls
def jy:W Fl:=(Wj (aM (av eR (aq (ai 0) (aq (ai 1) (aq (au aE (ai 3) (wC (.int 0))) (aq (ai 2) (aq (au aE (ai 3) (wC (.int 1))) aC))))))) (a9 (jD 3)) bF)
def mJ:W Fl:=(aV (oO (qY (lz (aq (lz (aq (wC (.str "on")) (aq (wC (.str "on")) aC))) (aq (lz (aq (wC (.str "on")) (aq (wC (.str "back")) aC))) (aq (lz (aq (wC (.str "back")) (aq (wC (.str "on")) aC))) aC))))) (aU 3) jy)
  (a9 (lz (aq (wC (.str "back")) (aq (wC (.str "back")) aC)))))
theorem DS{R:aB}{k l:Nat}(hk:k<R.asks.length)(hl:l<R.asks.length)(hR:R.Ok)(aw bw:Bool){Q:Fl->Ev->Prop}(h1:nG R.n R.asks[k] aw R.asks[l] bw=true->∀Z,Cp Z [.d (aI R),.d (.int (k:Int)),.d (.int (l:Int))] [.d (aI R),.d (.int (k:Int)),.d (.int (l:Int))]->Q (.rt (.d (.tup [.str (jh aw),.str (jh bw)]))) Z)
  (h2:nG R.n R.asks[k] aw R.asks[l] bw=false->Q .nx [.d (aI R),.d (.int (k:Int)),.d (.int (l:Int)),.d (.tup [.str (jh aw),.str (jh bw)])]) :
  jy [.d (aI R),.d (.int (k:Int)),.d (.int (l:Int)),.d (.tup [.str (jh aw),.str (jh bw)])] Q:=by
 walk_at"jy";refine⟨R,k,l,aw,bw,hk,hl,rfl,hR,?_⟩;walk_at"w"
 cases e:nG R.n R.asks[k] aw R.asks[l] bw with
 |true=>exact h1 e _ (ag (ag (ag aD)))
 |false=>exact h2 e
theorem xG:ab4 3 1 kR mJ:=by
 rintro ls js - ⟨R,k,l,hk,hl,rfl,hR,h⟩;walk_at"mJ";have e1:Str.ofString "on"=jh true:=rfl;have e2:Str.ofString "back"=jh false:=rfl;rw[e1,e2];refine⟨xp,xp,xp,xp,?_⟩;unfold bP at h;unfold fW;refine DS hk hl hR true true (λe Z b=>?_) λe=>?_
 . rw[if_pos e]at h;exact⟨_,b,h⟩
 rw[if_neg (by simp[e])]at h;unfold fW;refine DS hk hl hR true false (λe Z b=>?_) λe=>?_
 . rw[if_pos e]at h;exact⟨_,b,h⟩
 rw[if_neg (by simp[e])]at h;unfold fW;refine DS hk hl hR false true (λe Z b=>?_) λe=>?_
 . rw[if_pos e]at h;exact⟨_,b,h⟩
 rw[if_neg (by simp[e])]at h;unfold fW;exact⟨xp,_,ag (ag (ag aD)),h⟩
def fE:FS:=λls js=>∃(R:aB)(ps:List Rat)(k l:Nat)(hk:k<R.asks.length)(hl:l<R.asks.length),ls=[.d (aI R),.d (.lst (ps.map Wz)),.d (.int (k:Int)),.d (.int (l:Int))]/\gu R ps/\js (.d (Xa (Xi R ps k l (bP R.n R.asks[k] R.asks[l])))) ls
def gB:W Fl:=(aV (br 4 (bz (av kR (aq (ai 0) (aq (ai 2) (aq (ai 3) aC))))))
  (aV (br 5 (lz (aq (ai 2) (aq (au aE (ai 4) (wC (.int 0))) (aq (ai 3) (aq (au aE (ai 4) (wC (.int 1))) aC))))))
  (a9 (au EE (ai 5) (lz (aq (bz (av iZ (aq (ai 0) (aq (ai 1) (aq (ai 5) aC))))) aC))))))
theorem qL:ab4 4 2 fE gB:=by rintro ls js - ⟨R,ps,k,l,hk,hl,rfl,hS,h⟩;walk_at"gB";refine⟨R,k,l,hk,hl,rfl,hS.ok,?_⟩;walk_at"w";refine⟨xp,R,ps,k,l,_,_,[],rfl,hS,by rw[hS.len];exact hk,by rw[hS.len];exact hl,?_⟩;walk_at"w";refine⟨xp,x_,x_,xp,_,ag (ag (ag (ag aD))),h⟩
def kT:FS:=λls js=>∃(R:aB)(ps:List Rat),ls=[.d (aI R),.d (.lst (ps.map Wz))]/\gu R ps/\∀a,js (.own a ((xu R 20 ps).map Xa)) ls
def oa:W Fl:=(aV (br 5 (bz (av fE (aq (ai 0) (aq (ai 2) (aq (au aE (ai 4) (wC (.int 0))) (aq (au aE (ai 4) (wC (.int 1))) aC)))))))
  (aV (AM (Oi 3 (ai 5)))
  (aV (br 2 (bz (av iY (aq (ai 2) (aq (ai 5) aC)))))
  (br 4 (bz (av a7 (aq (ai 0) (aq (bz (av cf (aq (ai 0) (aq (ai 2) aC)))) aC))))))))
def mK:W Fl:=(aV (br 2 (ai 1))
  (aV (br 3 (AO aC))
  (aV (br 4 (bz (av a7 (aq (ai 0) (aq (bz (av cf (aq (ai 0) (aq (ai 2) aC)))) aC)))))
  (aV (AQ (aM (au yg (ai 4) (wC .non))) oa)
  (a9 (jD 3))))))
theorem B0{R:aB}{ps:List Rat}(h:gu R ps){js:L->List L->Prop}(q:js (.d (Dk (Xk (Xj R) (Xm R ps)))) [.d (aI R),.d (.lst ((Xm R ps).map λ(k:Nat)=>D.int (k:Int)))]):a7 [.d (aI R),.d (.lst ((Xm R ps).map λ(k:Nat)=>D.int (k:Int)))] js:=by refine⟨R,Xm R ps,rfl,?_,λk hk=>by rw[<- h.len];exact(l5 hk).1,q⟩;refine ZR (aaM _ _) ?_;rw[aac,h.len];exact h.ok.few
theorem yB{R:aB}{ps:List Rat}(h:gu R ps){js:L->List L->Prop}(q:∀a,js (.own a ((Xm R ps).map λ(k:Nat)=>D.int (k:Int))) [.d (aI R),.d (.lst (ps.map Wz))]):cf [.d (aI R),.d (.lst (ps.map Wz))] js:=by refine⟨R,ps,1800,rfl,h.ok,h.len,λp hp=>?_,xp,q⟩;obtain⟨i,hi,rfl⟩:=aaZ hp;rw[<- dE hi];exact h.rb hi
theorem Ud{R:aB}{ps:List Rat}(h:gu R ps){k l:Nat}(hk:k<ps.length)(hl:l<ps.length)(w:Bool×Bool):RB 4000 (Xi R ps k l w).am:=by
 show RB 4000 (Xd R ps k w.1 l w.2);rcases(h.ms hk hl w.1 w.2).2.2.2 with e|e
 . rw[e];exact(Bu h hk _).mono xp
 . rw[e];exact(Bu h hl _).mono xp
theorem Ue{R:aB}{ps:List Rat}(h:gu R ps):∀p∈ps,RB 4000 p:=λp hp=>by obtain⟨i,hi,rfl⟩:=aaZ hp;rw[<- dE hi];exact(h.rb hi).mono xp
theorem xH:ab4 2 4 kT mK:=by
 rintro ls js - ⟨R,ps,rfl,hS,h⟩;walk_at"mK";refine⟨xp,λa=>yB hS λb=>?_⟩;walk_at"w";refine B0 hS ?_;walk_at"w";have h20:(Xm R ps).length<=20:=by refine ZR (aaM _ _) ?_;rw[aac,hS.len];exact hS.ok.few
 refine⟨λn Z=>∃(qs:List Rat)(done:List iH)(m:Nat)(x5:L),Z=[.d (aI R),.d (.lst (ps.map Wz)),.d (.lst (qs.map Wz)),.own a (done.map Xa),.d (Dk (Xk (Xj R) (Xm R qs))),x5]/\gu R qs/\(Xm R qs).length=n/\n<=m/\done.length+m=20/\done++xu R m qs=xu R 20 ps,
  ⟨_,ps,[],20,_,rfl,hS,rfl,h20,rfl,rfl⟩,?_⟩
 rintro n Z ⟨qs,done,m,x5,rfl,hQ,hn,hm,hd,hs⟩
 cases e:Xk (Xj R) (Xm R qs)with
 | none =>
  walk_at"Dk"
  have e0:xu R m qs=[]:=by
   cases m with
   |zero=>rfl
   |succ m=>unfold xu Bt;rw[e];rfl
  rw[e0,abh]at hs;subst hs;exact⟨_,ag (ag aD),h a⟩
 | some p =>
  obtain⟨k,l⟩:=p;obtain⟨hk,hl,hkl,hc⟩:=uC (yt R qs) e;obtain⟨hk1,hk2⟩:=l5 hk;obtain⟨hl1,hl2⟩:=l5 hl;have hk':k<R.asks.length:=by rw[<- hQ.len];exact hk1
  have hl':l<R.asks.length:=by rw[<- hQ.len];exact hl1
  have hkl':k≠l:=by omega
  simp only[Dk];walk_at"w";walk_at"oa";refine⟨R,qs,k,l,hk',hl',rfl,hQ,?_⟩;have en:Bt R qs=some (Xi R qs k l (bP R.n R.asks[k] R.asks[l])):=by unfold Bt;rw[e];show some (Xi R qs k l (bP R.n (aS R k) (aS R l)))=_;rw[iQ hk',iQ hl']
  have ok2:=Nq hQ hk1 hl1 hkl' (bP R.n R.asks[k] R.asks[l]);have less:=Fv hQ hk hl hkl' (bP R.n R.asks[k] R.asks[l]);have arb:=Ud hQ hk1 hl1 (bP R.n R.asks[k] R.asks[l]);generalize hs':Xi R qs k l (bP R.n R.asks[k] R.asks[l])=s at *;have sk:s.k=k:=by rw[<- hs'];rfl
  have sl:s.l=l:=by rw[<- hs'];rfl
  walk_at"w";refine⟨?_,qs,s,rfl,by rw[hQ.len];exact hQ.ok.few,by rw[sk];exact hk1,by rw[sl];exact hl1,by rw[sk,sl];exact hkl',Ue hQ,arb,λc=>?_⟩
  . exact ZS (show done.length<=20 by omega) xp
  walk_at"w";refine yB ok2 λd=>?_;walk_at"w";refine B0 ok2 ?_;walk_at"w"
  cases m with
  |zero=>omega
  | succ m =>
   refine⟨_,by rw[<- hn];exact less,Xf qs s,done++[s],m,_,by rw[aaW];rfl,ok2,rfl,xL,by simp;omega,?_⟩;rw[<- hs,aaJ]
   congr 1
   show s::xu R m (Xf qs s)=xu R (m+1) qs
   conv=>rhs;unfold xu
   rw[en]
def fQ:FS:=λls js=>∃(a:WW)(p:Rat),ls=[.d (lV a),.d (Wz p)]/\js (.d (.str (jh (decide (p=a.size))))) ls
def kU:W Fl:=(a9 (GU (aM (au qV (ai 1) (au aE (ai 0) (wC (.int 3))))) (wC (.str "on")) (wC (.str "back"))))
theorem wJ:ab4 2 0 fQ kU:=by
 rintro ls js - ⟨a,p,rfl,h⟩;unfold kU;have es:lV a=.tup [.str a.nm,.int a.one,.int a.other,Wz a.size]:=rfl;rw[es]at h ⊢;walk_at"w";by_cases hp:p=a.size
 . rw[if_pos hp];rw[aaa hp]at h;exact⟨_,ag (ag aD),h⟩
 . rw[if_neg hp];rw[ZP hp]at h;exact⟨_,ag (ag aD),h⟩
def d7:FS:=λls js=>∃(R:aB)(ps:List Rat)(ks:List Nat)(ws:List Bool),ls=[.d (aI R),.d (.lst (ps.map Wz)),.d (.lst (ks.map λ(k:Nat)=>D.int (k:Int))),.d (.lst (ws.map lP))]/\ps.length=R.asks.length/\ws.length=R.asks.length/\ks.length<=20/\R.asks.length<=20 /\
 js (.d (.bl ((List.range R.asks.length).all (Xw R ps ks ws)))) ls
def gG:W Fl:=(Wj (QQ (aM (au (CJ true) (ai 4) (ai 2))) (QQ (aM (au um (au aE (ai 5) (wC (.int 3))) (wC (.tup [(.int 0),(.int 1)])))) (aM (au um (au aE (ai 3) (ai 4)) (av fQ (aq (ai 5) (aq (au aE (ai 1) (ai 4)) aC))))))) (a9 (wC (.bl false))) bF)
def eU:W Fl:=(aV (oO (xr (au aE (ai 0) (wC (.int 1)))) (eF [4,5]) gG)
  (a9 (wC (.bl true))))
theorem R9(v w:Bool):Wp (lP v) (.str (jh w))=decide (v=w):=by cases v<;>cases w<;>decide +kernel
theorem nK:ab4 4 2 d7 eU:=by
 rintro ls js - ⟨R,ps,ks,ws,rfl,hl,hw,h20,hn,h⟩;walk_at"eU";rw[Ju];refine eI (enc:=λ(k:Nat)=>D.tup [.int (k:Int),lV (aS R k)]) (List.range R.asks.length) (λpre Z=>pre.all (Xw R ps ks ws)=true/\∃x4 x5,Z=[.d (aI R),.d (.lst (ps.map Wz)),.d (.lst (ks.map λ(k:Nat)=>D.int (k:Int))),.d (.lst (ws.map lP)),x4,x5]) _ ⟨rfl,_,_,rfl⟩ ?_ ?_
 .
  rintro pre k suf Z hsp ⟨hp,x4,x5,rfl⟩ Q h1 h2 h3 h4
  have hk:k<R.asks.length:=by
   have:k∈List.range R.asks.length:=by rw[hsp];simp
   simpa using this
  walk_at"gG";have ek:Xw R ps ks ws k=(decide (k∈ks) ||decide (R.asks[k].size=0) ||decide (ws[k]=decide (ps[k]=R.asks[k].size))):=by unfold Xw;rw[Bl hk,kj (show k<ps.length by omega),tu,gV (show k<ws.length by omega)];rfl
  have go:Xw R ps ks ws k=true->(pre++[k]).all (Xw R ps ks ws)=true:=λz=>by rw[List.all_append,hp,abP,z];rfl
  have no:Xw R ps ks ws k=false->(List.range R.asks.length).all (Xw R ps ks ws)=false:=λz=>by rw[hsp,List.all_append,abP,z,aaD,Bool.and_false]
  refine⟨rfl,Bh ks,?_⟩;rw[uz,fL hk];by_cases c1:k∈ks
  . rw[if_neg (by simp[c1])];exact h1 _ ⟨go (by rw[ek];simp[c1]),_,_,rfl⟩
  rw[if_pos (by simp[c1])];refine⟨Ex 0,?_⟩;have ez:Wp (Wz R.asks[k].size) (.tup [.int 0,.int 1])=decide (R.asks[k].size=0):=M9 _ 0;rw[ez];by_cases c2:R.asks[k].size=0
  . rw[if_neg (by simp[c2])];exact h1 _ ⟨go (by rw[ek];simp[c2]),_,_,rfl⟩
  rw[if_pos (by simp[c2])];refine⟨_,aW xL,_,aW xL,_,_,rfl,gY _,gY _,?_⟩;rw[R9];by_cases c3:ws[k]=decide (ps[k]=R.asks[k].size)
  . rw[if_neg (by rw[aaa c3];decide)];exact h1 _ ⟨go (by rw[ek,aaa c3,Bool.or_true]),_,_,rfl⟩
  . rw[if_pos (ZP c3)];refine h4 _ _ ⟨_,ag (ag (ag (ag aD))),?_⟩;rw[no (by rw[ek,ZP c1,ZP c2,ZP c3];rfl)]at h;exact h
 . rintro Z ⟨hp,x4,x5,rfl⟩;rw[hp]at h;exact⟨_,ag (ag (ag (ag aD))),h⟩
def cu:FS:=λls js=>∃(R:aB)(ks:List Nat),ls=[.d (aI R),.d (.lst (ks.map λ(k:Nat)=>D.int (k:Int)))]/\R.Ok/\(∀k∈ks,k<R.asks.length)/\js (.d (Wz (gh R ks))) ls
def gH:W Fl:=(br 2 (bz (av rR (aq (ai 2) (aq (au aE (au aE (au aE (ai 0) (wC (.int 1))) (ai 3)) (wC (.int 3))) aC)))))
def eV:W Fl:=(aV (br 2 (wC (.tup [(.int 0),(.int 1)])))
  (aV (oO (qY (ai 1)) (aU 3) gH)
  (a9 (av qF (aq (ai 2) (aq (wC (.tup [(.int 1),(.int 2)])) aC))))))
theorem J4:RB 2 (1 / 2:Rat):=by
 have e:(1 / 2:Rat).num=1/\(1 / 2:Rat).den=2:=by decide +kernel
 unfold RB;rw[e.1,e.2];decide
theorem MG:Wz (1 / 2:Rat)=.tup [.int 1,.int 2]:=by
 have e:(1 / 2:Rat).num=1/\(1 / 2:Rat).den=2:=by decide +kernel
 unfold Wz;rw[e.1,e.2];rfl
theorem ND{R:aB}(hR:R.Ok):∀(ks:List Nat)(g:Rat),(∀k∈ks,k<R.asks.length)->RB 1540 g->RB 1540 (Xr R ks g)
 |[],g,_,h=>h
 | k::ks,g,hk,h=>by
  show RB 1540 (Xr R ks _);refine ND hR ks _ (λx hx=>hk x (fI _ hx)) ?_;dsimp only;split
  . rw[Bp (hk k k4)];exact hR.rb (ZM _)
  . exact h
theorem J5{R:aB}(hR:R.Ok){ks:List Nat}(hk:∀k∈ks,k<R.asks.length):RB 1542 (gh R ks):=(ND hR ks 0 hk (RB.zero.mono xp)).mul J4
theorem nL:ab4 2 2 cu eV:=by
 rintro ls js - ⟨R,ks,rfl,hR,hk,h⟩;walk_at"eV";refine cJ _ (λj Z=>∃(g:Rat)(x:L),Z=[.d (aI R),.d (.lst (ks.map λ(k:Nat)=>D.int (k:Int))),.d (Wz g),x]/\RB 1540 g/\Xr R (ks.drop j) g=Xr R ks 0) _ ⟨0,_,rfl,RB.zero.mono xp,rfl⟩ ?_ ?_
 .
  rintro j x Z hj ⟨g,x3,rfl,hg,e⟩ Q h1 h2 h3 h4;rw[ZZ]at hj
  have hj':j<ks.length:=by
   rcases Nat.lt_or_ge j ks.length with q|q
   . exact q
   . rw[abH q]at hj;exact absurd hj x_
  rw[gV hj']at hj;cases hj;have hk':=hk _ (ZM hj');have rb:=hR.rb (ZM hk');rw[aaB hj']at e;walk_at"gH";refine⟨_,aW hk',?_⟩;walk_at"w";refine⟨_,_,rfl,hg.mono xp,rb.mono xp,?_⟩;walk_at"w";refine h1 _ ⟨_,_,rfl,?_,?_⟩
  .
   split
   . exact rb
   . exact hg
  .
   rw[<- e]
   show _=Xr R _ (if g<R.sz ks[j]then R.sz ks[j]else g)
   rw[Bl hk']
 . rintro Z ⟨g,x,rfl,hg,e⟩;rw[ZL,List.drop_length]at e;walk_at"w";refine⟨g,1 / 2,by rw[MG],hg.mono xp,J4.mono xp,?_⟩;walk_at"w";have e':g=Xr R ks 0:=e;rw[e'];exact⟨_,ag (ag aD),h⟩
def cH:FS:=λls js=>∃(R:aB)(k:Nat)(hk:k<R.asks.length),ls=[.d (.int (k:Int)),.d (aI R)]/\js (.d (.int (Xp R.asks[k]))) []
def cV:W L:=(av cS (aq (ai 1) (aq (ai 0) aC)))
theorem kW:∀a d js,cH [.d a,.d d] js->cV [.d a,.d d] (λr _=>js r []):=by rintro a d js ⟨R,k,hk,e,h⟩;cases e;walk_at"cV";exact⟨R,k,hk,rfl,h⟩
def cM:FS:=λls js=>∃(R:aB)(ks:List Nat),ls=[.d (aI R),.d (.lst (ks.map λ(k:Nat)=>D.int (k:Int)))]/\ks.length<=20/\(∀k∈ks,k<R.asks.length) /\
 ∀(a:Addr)(os:List Nat),os.Perm ks->os.Pairwise (λi j=>Xq R i<=Xq R j)->js (.own a (os.map λ(k:Nat)=>D.int (k:Int))) ls
def fF:W Fl:=(a9 (Nd cH 0 (ai 1)))
theorem pR:ab4 2 0 cM fF:=by
 rintro ls js - ⟨R,ks,rfl,hl,hk,h⟩;walk_at"fF";refine⟨ks.map λ(k:Nat)=>(k:Int),λn=>(Xq R n.toNat:Int),by rw[aag];rfl,by rw[ZL];omega,λn hn=>?_,λa out op os=>?_⟩
 . obtain⟨k,hkm,rfl⟩:=ZW.mp hn;have hk':=hk k hkm;refine⟨R,k,hk',rfl,?_⟩;show D.int _=D.int ((Xq R ((k:Int)).toNat:Nat):Int);rw[aak];unfold Xq;rw[tu,gV hk'];rfl
 .
  obtain⟨ms,rfl⟩:∃ms:List Nat,out=ms.map λ(k:Nat)=>(k:Int):=by
   refine⟨out.map Int.toNat,?_⟩;rw[aag]
   conv=>lhs;rw[<- List.map_id out]
   refine aaC λn hn=>?_;obtain⟨k,_,rfl⟩:=ZW.mp (op.mem_iff.mp hn);simp
  have inj:∀{l1 l2:List Nat},(l1.map λ(k:Nat)=>(k:Int)).Perm (l2.map λ(k:Nat)=>(k:Int))->l1.Perm l2:=λ{l1 l2} p=>by have:=p.map Int.toNat;rw[aag,aag]at this;simpa[Function.comp_def]using this
  refine⟨_,ag (ag aD),?_⟩
  have:=h a ms (inj op) (by
   rw[List.pairwise_map]at os
   exact os.imp λ{i j} q=>by
    simp only[aak]at q
    omega)
  rw[aag];exact this
def eW:FS:=λls js=>∃(R:aB)(k:Nat),ls=[.d (aI R),.d (.int (k:Int))]/\k<R.asks.length/\js (.d (.str (jh (zp R k)))) ls
def mL:W Fl:=(a9 (GU (aM (au uR (au aE (au aE (au aE (ai 0) (wC (.int 1))) (ai 1)) (wC (.int 1))) (au aE (au aE (au aE (ai 0) (wC (.int 1))) (ai 1)) (wC (.int 2))))) (wC (.str "on")) (wC (.str "back"))))
theorem xI:ab4 2 0 eW mL:=by
 rintro ls js - ⟨R,k,rfl,hk,h⟩;have e:zp R k=decide (R.asks[k].one<R.asks[k].other):=by unfold zp;rw[tu,gV hk];rfl
 rw[e]at h;walk_at"mL";refine⟨_,aW hk,?_⟩;walk_at"w";refine⟨_,aW hk,?_⟩;walk_at"w";by_cases c:R.asks[k].one<R.asks[k].other
 . rw[if_pos (by omega)];rw[aaa c]at h;exact⟨_,ag (ag aD),h⟩
 . rw[if_neg (by omega)];rw[ZP c]at h;exact⟨_,ag (ag aD),h⟩
def gQ:FS:=λls js=>∃(R:aB)(ps:List Rat)(k:Nat)(w:Bool),ls=[.d (aI R),.d (.lst (ps.map Wz)),.d (.int (k:Int)),.d (lP w)]/\k<R.asks.length/\k<ps.length/\RB 1900 (R.sz k)/\RB 1900 (ps.getD k 0)/\js (.d (Wz (dZ R ps k w))) ls
def wK:W Fl:=(aV (br 4 (au aE (au aE (au aE (ai 0) (wC (.int 1))) (ai 2)) (wC (.int 3))))
  (aV (br 5 (bz (GU (aM (au qV (av eW (aq (ai 0) (aq (ai 2) aC))) (wC (.str "on")))) (au aE (ai 1) (ai 2)) (av dU (aq (ai 4) (aq (au aE (ai 1) (ai 2)) aC))))))
  (a9 (av dU (aq (GU (aM (au qV (ai 3) (av eW (aq (ai 0) (aq (ai 2) aC))))) (ai 4) (wC (.tup [(.int 0),(.int 1)]))) (aq (ai 5) aC))))))
theorem Sb(v w:Bool):Wp (lP v) (.str (jh w))=decide (v=w):=by cases v<;>cases w<;>decide +kernel
theorem FF{p q:Rat}{b c:Bool}{e:Ev}{js:L->List L->Prop}(hp:RB 1900 p)(hq:RB 3802 q)(h:js (.d (Wz ((if b=c then p else 0)-q))) e)(K:L->Prop)(hK:∀r,js r e->K r) :
  (if decide (b=c)=true then dU [.d (Wz p),.d (Wz q)] λr _=>K r else dU [.d (.tup [.int 0,.int 1]),.d (Wz q)] λr _=>K r):=by
 by_cases x:b=c
 . rw[if_pos x]at h;rw[if_pos (aaa x)];exact gi (hp.mono xp) (hq.mono xp) (hK _ h)
 . rw[if_neg x]at h;rw[if_neg (by simp[x])];exact gi (p:=0) (RB.zero.mono xp) (hq.mono xp) (hK _ h)
theorem J6{R:aB}{ps:List Rat}(h:gu R ps){k:Nat}(hk:k<ps.length)(w:Bool):RB 5703 (dZ R ps k w):=by
 have a:RB 1900 (if w=zp R k then R.sz k else 0):=by
  split
  . exact(h.sz_rb hk).mono xp
  . exact RB.zero.mono xp
 have b:RB 3802 (if zp R k=true then ps.getD k 0 else R.sz k-ps.getD k 0):=by
  split
  . exact(h.rb hk).mono xp
  . exact((h.sz_rb hk).sub (h.rb hk)).mono xp
 exact(a.sub b).mono xp
theorem FG{R:aB}{ps:List Rat}{D:Nat}(hl:ps.length=R.asks.length)(d0:0<D)(da:∀a∈R.asks,a.size.den∣D)(dp:∀p∈ps,p.den∣D){k:Nat}(hk:k<ps.length)(w:Bool):(dZ R ps k w).den∣D:=by
 have s:(R.sz k).den∣D:=by rw[Bp xL];exact da _ (ZM _)
 have p:(ps.getD k 0).den∣D:=by rw[dE hk];exact dp _ (ZM _)
 unfold dZ;refine vz d0 ?_ ?_
 .
  split
  . exact s
  . exact⟨D,(Nat.one_mul D).symm⟩
 .
  split
  . exact p
  . exact vz d0 s p
theorem DT:ab4 4 2 gQ wK:=by
 rintro ls js - ⟨R,ps,k,w,rfl,hk,hp,b1,b2,h⟩;walk_at"wK";refine⟨_,aW hk,?_⟩;walk_at"w";refine⟨R,k,rfl,hk,?_⟩;walk_at"w";unfold dZ at h;rw[<- Bl hk];by_cases c:zp R k=true
 . rw[if_pos c]at h ⊢;refine⟨_,aW hp,?_⟩;rw[<- kj hp];refine⟨R,k,rfl,hk,?_⟩;refine⟨gY _,gY _,?_⟩;rw[Sb];exact FF b1 (b2.mono xp) h _ λr hr=>⟨_,ag (ag (ag (ag aD))),hr⟩
 . rw[if_neg c]at h ⊢;refine⟨_,aW hp,?_⟩;rw[<- kj hp];refine gi (b1.mono xp) (b2.mono xp) ?_;refine⟨R,k,rfl,hk,?_⟩;refine⟨gY _,gY _,?_⟩;rw[Sb];exact FF b1 ((b1.sub b2).mono xp) h _ λr hr=>⟨_,ag (ag (ag (ag aD))),hr⟩
def ic:FS:=λls js=>∃(R:aB)(ps:List Rat)(ks:List Nat)(ws:List Bool),ls=[.d (aI R),.d (.lst (ps.map Wz)),.d (.lst (ks.map λ(k:Nat)=>D.int (k:Int))),.d (.lst (ws.map lP))]/\gu R ps/\ws.length=R.asks.length/\ks.length<=20/\(∀k∈ks,k<R.asks.length) /\
 ∀os:List Nat,os.Perm ks->os.Pairwise (λi j=>Xq R i<=Xq R j)->js (.d (.bl (Xx (gh R ks) 0 (Xy R ps ws os)))) ls
def lF:W Fl:=(aV (br 5 (bz (av jq (aq (ai 5) (aq (bz (av gQ (aq (ai 0) (aq (ai 1) (aq (ai 6) (aq (au aE (ai 3) (ai 6)) aC)))))) aC)))))
  (Wj (Wg (aM (av bM (aq (ai 4) (aq (ai 5) aC)))) (aM (av bM (aq (ai 5) (aq (bz (av dU (aq (wC (.tup [(.int 0),(.int 1)])) (aq (ai 4) aC)))) aC))))) (a9 (wC (.bl false))) bF))
def jz:W Fl:=(aV (br 4 (bz (av cu (aq (ai 0) (aq (ai 2) aC)))))
  (aV (br 5 (wC (.tup [(.int 0),(.int 1)])))
  (aV (oO (qY (av cM (aq (ai 0) (aq (ai 2) aC)))) (aU 6) lF)
  (a9 (wC (.bl true))))))
theorem MH(hf t g:Rat)(gs:List Rat):Xx hf t (g::gs)=(!(decide (hf<t+g) ||decide (t+g<0-hf)) && Xx hf (t+g) gs):=rfl
theorem ub:ab4 4 3 ic jz:=by
 rintro ls js - ⟨R,ps,ks,ws,rfl,hS,hw,h20,hk,h⟩;have hb:=J5 hS.ok hk;obtain⟨M,d0,d1,da,dp⟩:=hS.cd;have hl:=hS.len;walk_at"jz";refine⟨R,ks,rfl,hS.ok,hk,?_⟩;walk_at"w";refine⟨R,ks,rfl,h20,hk,λa os op ow=>?_⟩;walk_at"w";have h:=h os op ow;have hko:∀k∈os,k<R.asks.length:=λk m=>hk k (op.mem_iff.mp m);have hol:os.length<=20:=by rw[op.length_eq];exact h20
 refine cJ _ (λj Z=>∃(t:Rat)(x:L),Z=[.d (aI R),.d (.lst (ps.map Wz)),.d (.lst (ks.map λ(k:Nat)=>D.int (k:Int))),.d (.lst (ws.map lP)),.d (Wz (gh R ks)),.d (Wz t),x]/\RB (5704*j+1) t/\t.den∣M/\Xx (gh R ks) t (Xy R ps ws (os.drop j))=Xx (gh R ks) 0 (Xy R ps ws os)) _ ⟨0,_,rfl,RB.zero,⟨M,(Nat.one_mul M).symm⟩,rfl⟩ ?_ ?_
 .
  rintro j x Z hj ⟨t,x6,rfl,ht,td,e⟩ Q h1 h2 h3 h4;rw[ZZ]at hj
  have hj':j<os.length:=by
   rcases Nat.lt_or_ge j os.length with q|q
   . exact q
   . rw[abH q]at hj;exact absurd hj x_
  rw[gV hj']at hj;cases hj;have hk':=hko _ (ZM hj');have hkp:os[j]<ps.length:=by omega
  rw[aaB hj']at e;have gr:=J6 hS hkp (ws.getD os[j] true);have gd:=FG hl d0 da dp hkp (ws.getD os[j] true);have sr:=ht.add gr;have sd:=vx d0 td gd;walk_at"lF";have ew:ws[os[j]]'(by omega)=ws.getD os[j] true:=by rw[tu,gV xL];rfl
  refine⟨_,aW xL,?_⟩;rw[ew];have b6:5704*(j+1)+1<=114081:=by omega
  have tn:t.den*(dZ R ps os[j] (ws.getD os[j] true)).den<2^9000 :=
   k5 (bc (ZS (aaY d0 td) d1) (ZS (aaY d0 gd) d1)) (ZN xp xp)
  refine⟨R,ps,_,_,rfl,hk',hkp,(hS.sz_rb hkp).mono xp,(hS.rb hkp).mono xp,?_⟩;refine⟨t,_,rfl,ht.mono xL,gr.mono xp,tn,?_⟩;have e:Xx (gh R ks) t (dZ R ps os[j] (ws.getD os[j] true)::Xy R ps ws (os.drop (j+1)))=Xx (gh R ks) 0 (Xy R ps ws os):=e;rw[MH]at e;refine⟨_,_,rfl,hb.mono xp,sr.mono xL,?_⟩
  show if _ then _ else _
  by_cases c1:gh R ks<t+dZ R ps os[j] (ws.getD os[j] true)
  . rw[if_pos (aaa c1)];rw[aaa c1,Bool.true_or,Bool.not_true,aaD]at e;refine h4 _ _ ⟨_,ag (ag (ag (ag aD))),?_⟩;rw[<- e]at h;exact h
  rw[if_neg (by rw[ZP c1];decide)];refine gi (p:=0) (RB.zero.mono xp) (hb.mono xp) ?_;have mb:RB 1544 (0-gh R ks):=(RB.zero.sub hb).mono xp;refine⟨_,_,rfl,sr.mono xL,mb.mono xp,?_⟩
  show if _ then _ else _
  by_cases c2:t+dZ R ps os[j] (ws.getD os[j] true)<0-gh R ks
  . rw[if_pos (aaa c2)];rw[aaa c2,Bool.or_true,Bool.not_true,aaD]at e;refine h4 _ _ ⟨_,ag (ag (ag (ag aD))),?_⟩;rw[<- e]at h;exact h
  . rw[if_neg (by rw[ZP c2];decide)];rw[ZP c1,ZP c2,Bool.or_self,Bool.not_false,aaR]at e;exact h1 _ ⟨_,_,rfl,sr.mono xL,sd,e⟩
 . rintro Z ⟨t,x,rfl,_,_,e⟩;rw[ZL,List.drop_length]at e;walk_at"w";rw[<- e]at h;exact⟨_,ag (ag (ag (ag aD))),h⟩
def cC:FS:=λls js=>∃(R:aB)(ps:List Rat)(d:D)(M:Nat),ls=[.d (aI R),.d (.lst (ps.map Wz)),.d d]/\gu R ps/\(0<M/\M<2^1500/\(∀a∈R.asks,a.size.den∣M)/\(∀p∈ps,p.den∣M)) /\
 (∀x y,d=.tup [x,y]->(∀xs,y=.lst xs->xs.length<=99)/\∃ss,x=.lst ss/\ss.length<=99/\∀u∈ss,∀s,xg u=some s->RB 4000 s.am/\s.am.den∣M) /\
 (∀ss y,d=.tup [.lst ss,y]->Bw R 0 ps ss=none) /\
 ((∀(ss:List D)(ws:List Bool),d=.tup [.lst ss,.lst (ws.map lP)]->ws.length=R.asks.length->Bw R 0 ps ss=none->Xk (Xj R) (Xm R (sV R ps ss))=none->False)->js (.d (.bl false)) ls) /\
 ∀(ss:List D)(ws:List Bool)(os:List Nat),d=.tup [.lst ss,.lst (ws.map lP)]->ws.length=R.asks.length->Bw R 0 ps ss=none->Xk (Xj R) (Xm R (sV R ps ss))=none->os.Perm (Xm R (sV R ps ss))->os.Pairwise (λi j=>Xq R i<=Xq R j) ->
  js (.d (.bl ((List.range R.asks.length).all (Xw R (sV R ps ss) (Xm R (sV R ps ss)) ws) && Xx (gh R (Xm R (sV R ps ss))) 0 (Xy R (sV R ps ss) ws os)))) ls
def jS:W Fl:=(a9 (iG (av d7 (aq (ai 0) (aq (ai 3) (aq (ai 4) (aq (au aE (ai 2) (wC (.int 1))) aC))))) (av ic (aq (ai 0) (aq (ai 3) (aq (ai 4) (aq (au aE (ai 2) (wC (.int 1))) aC)))))))
def jT:W Fl:=(aV (Wj (aM (au yg (av a7 (aq (ai 0) (aq (ai 4) aC))) (wC .non))) (a9 (wC (.bl false))) bF)
  jS)
def jU:W Fl:=(aV (br 4 (bz (av cf (aq (ai 0) (aq (ai 3) aC)))))
  jT)
def jV:W Fl:=(aV (br 3 (bz (av jR (aq (ai 0) (aq (ai 1) (aq (au aE (ai 2) (wC (.int 0))) aC))))))
  jU)
def ie:W Fl:=(aV (Wj (Wg (oJ (aM (Wi (lK "tuple") (ai 2)))) (Wg (aM (au um (aZ b8 (aq (ai 2) aC)) (wC (.int 2)))) (oJ (aM (av kO (aq (ai 0) (aq (au aE (ai 2) (wC (.int 1))) aC))))))) (a9 (wC (.bl false))) bF)
  jV)
theorem PU{n:Nat}{d:D}(h:Nx n d=true):∃ws:List Bool,d=.lst (ws.map lP)/\ws.length=n:=by
 unfold Nx at h
 cases d with
 | lst xs =>
  rw[Z5,ZX]at h;obtain⟨h1,h2⟩:=h;refine⟨xs.map λx=>(oX x).getD true,?_,by rw[ZL];exact h1⟩
  congr 1
  rw[aag]
  conv=>lhs;rw[<- List.map_id xs]
  refine aaC λx hx=>?_;have:=aaP.mp h2 x hx;rw[zo]at this;obtain⟨w,e⟩:=Option.isSome_iff_exists.mp this;show x=lP ((oX x).getD true);rw[e];exact zm e
 |_=>cases h
theorem MI{n:Nat}{ws:List Bool}(h:ws.length=n):Nx n (.lst (ws.map lP))=true:=by unfold Nx;rw[Z5,ZX,ZL];refine⟨h,?_⟩;rw[List.all_map,aaP];intro w _;show Aw (.str (jh w))=true;rw[zo,vB];rfl
theorem DU{as bs:List D}{x y:D}(e:D.tup [.lst as,x]=.tup [.lst bs,y]):as=bs:=by injection e with e;injection e with e _;injection e
theorem Ug{k:W Fl}{R:aB}{P d x3 x4:D}{js:Fl->Ev->Prop}(hy:∀x y,d=.tup [x,y]->∀xs,y=.lst xs->xs.length<=99)
  (h1:(∀(x:D)(ws:List Bool),d=.tup [x,.lst (ws.map lP)]->ws.length=R.asks.length->False)->js (.rt (.d (.bl false))) [.d (aI R),.d P,.d d,.un,.un])
  (h2:∀(x:D)(ws:List Bool),d=.tup [x,.lst (ws.map lP)]->ws.length=R.asks.length->k [.d (aI R),.d P,.d d,.un,.un] js) :
  aV (Wj (Wg (oJ (aM (Wi (lK "tuple") (ai 2)))) (Wg (aM (au um (aZ b8 (aq (ai 2) aC)) (wC (.int 2)))) (oJ (aM (av kO (aq (ai 0) (aq (au aE (ai 2) (wC (.int 1))) aC))))))) (a9 (wC (.bl false))) bF) k [.d (aI R),.d P,.d d,.un,.un] js:=by
 by_cases ht:∃xs,d=.tup xs
 .
  obtain⟨xs,rfl⟩:=ht;by_cases hl:xs.length=2
  .
   match xs,hl with
   | [x,y],_ =>
    walk_at"w";refine⟨R,y,rfl,hy x y rfl,?_⟩;walk_at"w"
    cases e:Nx R.asks.length y with
    | false =>
     walk_at"w";refine h1 λx' ws ed hw=>?_;cases ed;rw[MI hw]at e;cases e
    | true =>
     obtain⟨ws,ew,hw⟩:=PU e;walk_at"w";exact h2 x ws (by rw[ew]) hw
  .
   have hn:¬((xs.length:Int)=2):=by omega
   walk_at"w";rw[if_pos (by simpa using hn)];refine h1 λx' ws ed hw=>?_;cases ed;exact hl rfl
 .
  have ei:oQ "tuple" d=false:=by
   cases d<;>first
    |exact absurd ⟨_,rfl⟩ ht
    |rfl
  walk_at"w";rw[ei];walk_at"w";refine h1 λx' ws ed hw=>ht ⟨_,ed⟩
theorem PV{k:W Fl}{R:aB}{ps:List Rat}{ss:List D}{y:D}{M:Nat}{js:Fl->Ev->Prop}(hS:gu R ps)(h99:ss.length<=99)(ha:∀u∈ss,∀s,xg u=some s->RB 4000 s.am/\s.am.den∣M)(hD:0<M/\M<2^1500/\(∀a∈R.asks,a.size.den∣M)/\(∀p∈ps,p.den∣M))
  (hb:Bw R 0 ps ss=none) (h1:k [.d (aI R),.d (.lst (ps.map Wz)),.d (.tup [.lst ss,y]),.d (.lst ((sV R ps ss).map Wz)),.un] js) :
  aV (br 3 (bz (av jR (aq (ai 0) (aq (ai 1) (aq (au aE (ai 2) (wC (.int 0))) aC)))))) k [.d (aI R),.d (.lst (ps.map Wz)),.d (.tup [.lst ss,y]),.un,.un] js:=by
 walk_at"w";refine⟨R,ps,ss,M,rfl,hS,h99,ha,hD,hb,λa=>?_⟩;walk_at"w";exact h1
theorem PX{k:W Fl}{R:aB}{ps qs:List Rat}{d:D}{js:Fl->Ev->Prop}(hS:gu R qs)
  (h:k [.d (aI R),.d (.lst (ps.map Wz)),.d d,.d (.lst (qs.map Wz)),.d (.lst ((Xm R qs).map λ(k:Nat)=>D.int (k:Int)))] js) :
  aV (br 4 (bz (av cf (aq (ai 0) (aq (ai 3) aC))))) k [.d (aI R),.d (.lst (ps.map Wz)),.d d,.d (.lst (qs.map Wz)),.un] js:=by
 walk_at"w";refine⟨R,qs,4000,rfl,hS.ok,hS.len,NA hS,xp,λa=>?_⟩;walk_at"w";exact h
theorem PY{k:W Fl}{R:aB}{ps qs:List Rat}{d:D}{js:Fl->Ev->Prop}(hS:gu R qs)
  (h1:Xk (Xj R) (Xm R qs)=none->k [.d (aI R),.d (.lst (ps.map Wz)),.d d,.d (.lst (qs.map Wz)),.d (.lst ((Xm R qs).map λ(k:Nat)=>D.int (k:Int)))] js)
  (h2:Xk (Xj R) (Xm R qs)≠none->js (.rt (.d (.bl false))) [.d (aI R),.d (.lst (ps.map Wz)),.d d,.d (.lst (qs.map Wz)),.d (.lst ((Xm R qs).map λ(k:Nat)=>D.int (k:Int)))]) :
  aV (Wj (aM (au yg (av a7 (aq (ai 0) (aq (ai 4) aC))) (wC .non))) (a9 (wC (.bl false))) bF) k [.d (aI R),.d (.lst (ps.map Wz)),.d d,.d (.lst (qs.map Wz)),.d (.lst ((Xm R qs).map λ(k:Nat)=>D.int (k:Int)))] js:=by
 walk_at"w";refine⟨R,_,rfl,(JE hS).1,(JE hS).2,?_⟩
 cases e:Xk (Xj R) (Xm R qs)with
 | none =>
  walk_at"Dk";exact h1 e
 | some p =>
  obtain⟨a,b⟩:=p;walk_at"Dk";exact h2 (by rw[e];exact λz=>nomatch z)
theorem MJ{as bs:List Bool}(h:as.map lP=bs.map lP):as=bs:=by
 have e:∀l:List Bool,(l.map lP).map (λd=>(oX d).getD true)=l:=λl=>by
  rw[aag]
  conv=>rhs;rw[<- List.map_id l]
  exact aaC λw _=>by show(oX (.str (jh w))).getD true=w;rw[vB];rfl
 rw[<- e as,<- e bs,h]
theorem MK{x y:D}{as bs:List Bool}(e:D.tup [x,.lst (as.map lP)]=.tup [y,.lst (bs.map lP)]):as=bs:=by injection e with e;injection e with _ e;injection e with e _;injection e with e;exact MJ e
theorem ML{R:aB}{ps:List Rat}{ss:List D}{ws:List Bool}{M:Nat}{js:L->List L->Prop}(hD:XA R ps M)(h99:ss.length<=99)(ha:∀u∈ss,∀s,xg u=some s->RB 4000 s.am/\s.am.den∣M)(hw:ws.length=R.asks.length)(hb0:Bw R 0 ps ss=none)
  (h0:(Bw R 0 ps ss=none->Xk (Xj R) (Xm R (sV R ps ss))=none->False)->js (.d (.bl false)) [.d (aI R),.d (.lst (ps.map Wz)),.d (.tup [.lst ss,.lst (ws.map lP)])])
  (h1:∀os:List Nat,Bw R 0 ps ss=none->Xk (Xj R) (Xm R (sV R ps ss))=none->os.Perm (Xm R (sV R ps ss))->os.Pairwise (λi j=>Xq R i<=Xq R j) ->
   js (.d (.bl ((List.range R.asks.length).all (Xw R (sV R ps ss) (Xm R (sV R ps ss)) ws) && Xx (gh R (Xm R (sV R ps ss))) 0 (Xy R (sV R ps ss) ws os)))) [.d (aI R),.d (.lst (ps.map Wz)),.d (.tup [.lst ss,.lst (ws.map lP)])]) :
  cC [.d (aI R),.d (.lst (ps.map Wz)),.d (.tup [.lst ss,.lst (ws.map lP)])] js:=by
 refine⟨R,ps,_,M,rfl,hD.ok,⟨hD.d0,hD.d1,hD.da,hD.dp⟩,λx y e=>?_,λss' y e=>by rw[<- DU e];exact hb0,λno=>h0 λa b=>no ss ws rfl hw a b,λss' ws' os e hw' hb hc op ow=>?_⟩
 . cases e;have:=hD.ok.ok.few;exact⟨λxs e=>by cases e;rw[ZL];omega,ss,rfl,h99,ha⟩
 . obtain rfl:=MK e;obtain rfl:=DU e;exact h1 os hb hc op ow
theorem MM{R:aB}{ps:List Rat}{M:Nat}{os:List Nat}{js:L->List L->Prop}(hD:XA R ps M)(op:os.Perm (Xm R (yu R 20 ps)))(ow:os.Pairwise λi j=>Xq R i<=Xq R j)
  (h:js (.d (.bl true)) [.d (aI R),.d (.lst (ps.map Wz)),.d (.tup [.lst ((xu R 20 ps).map Xa),.lst ((Xu R (yu R 20 ps) (gh R (Xm R (yu R 20 ps))) 0 (Xv R (yu R 20 ps)) os).map lP)])]) :
  cC [.d (aI R),.d (.lst (ps.map Wz)),.d (.tup [.lst ((xu R 20 ps).map Xa),.lst ((Xu R (yu R 20 ps) (gh R (Xm R (yu R 20 ps))) 0 (Xv R (yu R 20 ps)) os).map lP)])] js:=by
 obtain⟨r1,r2,r3⟩:=Dn 20 0 ps hD;have hc:=JG hD.ok;refine ML hD (by rw[ZL];exact ZR (RN hD.ok) xp) (RO (JF 20 ps hD)) (by rw[Ny,Nz r3.ok]) r1 (λno=>(no r1 (by rw[r2];exact hc)).elim) λos' _ _ op' ow'=>?_;rw[r2]at op' ⊢;obtain rfl:=Py hc op ow op' ow';rw[Pw r3.ok op,Px r3.ok op];exact h
theorem sy:ab4 3 2 cC ie:=by
 rintro ls js - ⟨R,ps,d,M,rfl,hS,hM,hd,hbn,hf,ht⟩;have bk:∀(b:Bool)(x y:L),js (.d (.bl b)) [.d (aI R),.d (.lst (ps.map Wz)),.d d]->aL [.d (aI R),.d (.lst (ps.map Wz)),.d d] js (.rt (.d (.bl b))) [.d (aI R),.d (.lst (ps.map Wz)),.d d,x,y]:=λb x y h=>⟨_,ag (ag (ag aD)),h⟩;unfold ie;refine Ug (x3:=.non) (x4:=.non) (λx y e=>(hd x y e).1) (λno=>bk _ _ _ (hf λss ws e hw _ _=>no _ ws e hw)) λx ws e hw=>?_;subst e;obtain⟨_,ss,rfl,h99,ha⟩:=hd _ _ rfl;unfold jV;have hb:=hbn _ _ rfl;refine PV hS h99 ha hM hb ?_
 .
  have hQ:gu R (sV R ps ss):=(NB ss 0 ps ⟨hS,hM.1,hM.2.1,hM.2.2.1,hM.2.2.2⟩ ha hb).ok;unfold jU;refine PX hQ ?_;unfold jT;refine PY hQ (λhc=>?_) λhc=>bk _ _ _ (hf λss' ws' e hw' hb' hc'=>?_)
  .
   walk_at"jS";obtain⟨p1,p2⟩:=JE hQ;refine⟨R,_,_,ws,rfl,hQ.len,hw,p1,hQ.ok.few,?_⟩;have ht:=ht ss ws;generalize sV R ps ss=qs at *
   cases e:(List.range R.asks.length).all (Xw R qs (Xm R qs) ws)with
   | false =>
    walk_at"w";obtain⟨os,op,ow⟩:=RM R (Xm R qs);have:=ht os rfl hw hb hc op ow;rw[e,aaD]at this;exact bk _ _ _ this
   | true =>
    walk_at"w";refine⟨R,_,_,ws,rfl,hQ,hw,p1,p2,λos op ow=>?_⟩;have:=ht os rfl hw hb hc op ow;rw[e,aaR]at this;exact bk _ _ _ this
  . obtain rfl:=DU e;exact hc hc'
def ig:FS:=λls js=>∃(R:aB)(ps:List Rat),ls=[.d (aI R),.d (.lst (ps.map Wz))]/\gu R ps /\
 ∀(a:Addr)(os:List Nat),os.Perm (gA R ps)->os.Pairwise (λi j=>Xq R i<=Xq R j)->js (.own a ((Xu R ps (gh R (gA R ps)) 0 (Xv R ps) os).map lP)) ls
def lG:W Fl:=(aV (xq 3 (ai 6) (av eW (aq (ai 0) (aq (ai 6) aC))))
  (aV (Wj (aM (av bM (aq (ai 4) (aq (bz (av jq (aq (ai 5) (aq (bz (av gQ (aq (ai 0) (aq (ai 1) (aq (ai 6) (aq (fY 3 (CI 3 (ai 6)) (au aE (ai 3) (ai 6))) aC)))))) aC)))) aC)))) (xq 3 (ai 6) (av mB (aq (fY 3 (CI 3 (ai 6)) (au aE (ai 3) (ai 6))) aC))) bF)
  (br 5 (bz (av jq (aq (ai 5) (aq (bz (av gQ (aq (ai 0) (aq (ai 1) (aq (ai 6) (aq (fY 3 (CI 3 (ai 6)) (au aE (ai 3) (ai 6))) aC)))))) aC)))))))
def lH:W L:=(av fQ (aq (ai 0) (aq (ai 1) aC)))
def jA:W Fl:=(aV (br 2 (bz (av cf (aq (ai 0) (aq (ai 1) aC)))))
  (aV (br 3 (fj 2 [] (Q9 (au aE (ai 0) (wC (.int 1))) (ai 1)) (eF [0,1]) dO lH))
  (aV (br 4 (bz (av cu (aq (ai 0) (aq (ai 2) aC)))))
  (aV (br 5 (wC (.tup [(.int 0),(.int 1)])))
  (aV (oO (qY (av cM (aq (ai 0) (aq (ai 2) aC)))) (aU 6) lG)
  (a9 (jD 3)))))))
theorem uc:ab4 2 5 ig jA:=by
 rintro ls js - ⟨R,ps,rfl,hS,h⟩;have hl:=hS.len;have few:=hS.ok.few;have prb:∀p∈ps,RB 1800 p:=λp hp=>by obtain⟨i,hi,rfl⟩:=aaZ hp;rw[<- dE hi];exact hS.rb hi
 walk_at"jA";refine⟨R,ps,1800,rfl,hS.ok,hl,prb,xp,λa0=>?_⟩;walk_at"w";have e:Gd (R.asks.map lV) (ps.map Wz)=(R.asks.zip ps).map λx=>D.tup [lV x.1,Wz x.2]:=by unfold Gd;rw[List.zip_map,aag];rfl
 rw[e];refine⟨by rw[ZL,aaH];exact ZR (show min R.asks.length ps.length<=20 by omega) xp,?_⟩;refine vb (h:=λx=>lP (decide (x.2=x.1.size))) _ _ _ _ (λx hx Q q=>?_) λl m a=>?_
 . walk_at"lH";exact⟨_,_,rfl,q⟩
 have hkp:∀k∈gA R ps,k<ps.length:=λk hk=>by unfold gA at hk;simpa using(aam.mp hk).1
 have pl:(gA R ps).length<=20:=by unfold gA;refine ZR (aaM _ _) ?_;rw[aac];omega
 have hkr:∀k∈gA R ps,k<R.asks.length:=λk hk=>by have:=hkp k hk;omega
 refine⟨R,_,rfl,hS.ok,hkr,?_⟩;refine⟨R,_,rfl,pl,hkr,λb os op ow=>?_⟩;walk_at"w";have h:=h a os op ow;have hko:∀k∈os,k<R.asks.length:=λk m=>hkr k (op.mem_iff.mp m);have hol:os.length<=20:=by rw[op.length_eq];exact pl
 have hb:=J5 hS.ok hkr;obtain⟨M,d0,d1,da,dp⟩:=hS.cd;have en:(R.asks.zip ps).map (λx=>lP (decide (x.snd=x.fst.size)))=(Xv R ps).map lP:=by unfold Xv;rw[aag];rfl
 rw[en];have nl:(Xv R ps).length=R.asks.length:=by unfold Xv;rw[ZL,aaH];omega
 generalize gh R (gA R ps)=hf at hb h ⊢;refine cJ _ (λj Z=>∃(t:Rat)(ws:List Bool)(x:L),Z=[.d (aI R),.d (.lst (ps.map Wz)),.d (.lst ((gA R ps).map λ(k:Nat)=>D.int (k:Int))),.own a (ws.map lP),.d (Wz hf),.d (Wz t),x]/\ws.length=R.asks.length/\RB (5704*j+1) t/\t.den∣M/\Xu R ps hf t ws (os.drop j)=Xu R ps hf 0 (Xv R ps) os) _ ⟨0,_,_,rfl,nl,RB.zero,⟨M,(Nat.one_mul M).symm⟩,rfl⟩ ?_ ?_
 .
  rintro j x Z hj ⟨t,ws,x6,rfl,wl,ht,td,e⟩ Q h1 h2 h3 h4;rw[ZZ]at hj
  have hj':j<os.length:=by
   rcases Nat.lt_or_ge j os.length with q|q
   . exact q
   . rw[abH q]at hj;exact absurd hj x_
  rw[gV hj']at hj;cases hj;have hk':=hko _ (ZM hj');rw[aaB hj']at e;generalize os[j]=k at hk' e ⊢;have hkp:k<ps.length:=by omega
  have gr:=λw=>J6 hS hkp w;have gd:=λw=>FG hl d0 da dp hkp w;have sr:=λw=>ht.add (gr w);have sd:=λw=>vx d0 td (gd w);have b6:5704*(j+1)+1<=114081:=by omega
  have tn:∀w,t.den*(dZ R ps k w).den<2^9000:=λw =>
   k5 (bc (ZS (aaY d0 td) d1) (ZS (aaY d0 (gd w)) d1)) (ZN xp xp)
  have kl:k<ws.length:=by omega
  have ix:∀{n:Nat},k<n->VS n (k:Int)=some k:=λ{n} hn=>by unfold VS;rw[if_pos (by omega),if_pos (by omega),aak]
  have st:∀(us:List Bool)(w:Bool),(us.map lP).set k (.str (jh w))=(us.set k w).map lP:=λus w=>by rw[List.map_set];rfl
  have at1:∀(us:List Bool)(w:Bool),k<us.length->VT ((us.set k w).map lP) (k:Int)=some (lP w):=λus w hu=>by rw[aW (by rw[abg];exact hu),List.getElem_set_self]
  have pls:∀(w:Bool)(js:L->List L->Prop),js (.d (Wz (t+dZ R ps k w))) [.d (Wz t),.d (Wz (dZ R ps k w))]->jq [.d (Wz t),.d (Wz (dZ R ps k w))] js:=λw js q=>⟨t,_,rfl,ht.mono xL,(gr w).mono xp,tn w,q⟩;have gns:∀(w:Bool)(js:L->List L->Prop),js (.d (Wz (dZ R ps k w))) [.d (aI R),.d (.lst (ps.map Wz)),.d (.int (k:Int)),.d (lP w)]->gQ [.d (aI R),.d (.lst (ps.map Wz)),.d (.int (k:Int)),.d (lP w)] js:=λw js q=>⟨R,ps,k,w,rfl,hk',hkp,(hS.sz_rb hkp).mono xp,(hS.rb hkp).mono xp,q⟩;have e:Xu R ps hf (t+dZ R ps k (Xs R ps hf t k)) (ws.set k (Xs R ps hf t k)) (os.drop (j+1))=_:=e;walk_at"lG";refine⟨R,k,rfl,hk',?_⟩;dsimp only;refine⟨k,ix kl,?_⟩;rw[st];refine⟨_,at1 _ _ kl,gns _ _ (pls _ _ ⟨hf,_,rfl,hb.mono xp,(sr _).mono xL,?_⟩)⟩;dsimp only;by_cases c:hf<t+dZ R ps k (zp R k)
  . have ew:Xs R ps hf t k=!zp R k:=if_pos c;rw[ew]at e;rw[if_pos (aaa c)];refine⟨_,at1 _ _ kl,_,rfl,?_⟩;dsimp only;refine⟨k,ix (by simpa using kl),?_⟩;rw[st];refine⟨_,at1 _ _ (by simpa using kl),gns _ _ (pls _ _ ?_)⟩;rw[abz];exact h1 _ ⟨_,_,_,rfl,by rw[abg];exact wl,(sr _).mono xL,sd _,e⟩
  . have ew:Xs R ps hf t k=zp R k:=if_neg c;rw[ew]at e;rw[if_neg (by rw[ZP c];decide)];refine⟨_,at1 _ _ kl,gns _ _ (pls _ _ ?_)⟩;exact h1 _ ⟨_,_,_,rfl,by rw[abg];exact wl,(sr _).mono xL,sd _,e⟩
 . rintro Z ⟨t,ws,x,rfl,_,_,_,e⟩;rw[ZL,List.drop_length]at e;have e:ws=_:=e;walk_at"w";rw[<- e]at h;exact⟨_,ag (ag aD),h⟩
def jB:FS:=λls js=>∃(R:aB)(ps:List Rat),ls=[.d (aI R),.d (.lst (ps.map Wz))]/\gu R ps /\
 ∀(a b:Addr)(os:List Nat),os.Perm (gA R (yu R 20 ps))->os.Pairwise (λi j=>Xq R i<=Xq R j) ->
  js (.bx none [.own a ((xu R 20 ps).map Xa),.own b ((Xu R (yu R 20 ps) (gh R (gA R (yu R 20 ps))) 0 (Xv R (yu R 20 ps)) os).map lP)]) ls
def kX:W Fl:=(aV (br 2 (av kT (aq (ai 0) (aq (ai 1) aC))))
  (a9 (OO 2 (M1 2 (aq (av ig (aq (ai 0) (aq (bz (HV 2 (av jR (aq (ai 0) (aq (ai 1) (aq (ai 2) aC)))))) aC))) aC)))))
theorem wL:ab4 2 1 jB kX:=by
 rintro ls js - ⟨R,ps,rfl,hS,h⟩;obtain⟨M,d0,d1,da,dp⟩:=hS.cd;have hD:XA R ps M:=⟨hS,d0,d1,da,dp⟩;obtain⟨r1,r2,r3⟩:=Dn 20 0 ps hD;walk_at"kX";refine⟨R,ps,rfl,hS,λa=>?_⟩;walk_at"w";have len:((xu R 20 ps).map Xa).length<=99:=by rw[ZL];refine ZR (Dm 20 ps hS) (ZR (aaM _ _) ?_);rw[aac,hS.len];exact ZR hS.ok.few xp
 refine⟨R,ps,_,M,rfl,hS,len,λd hd s es=>?_,⟨d0,d1,da,dp⟩,r1,λb=>?_⟩
 . obtain⟨u,hu,rfl⟩:=ZW.mp hd;rw[rC]at es;cases es;exact JF 20 ps hD _ hu
 . rw[r2];refine⟨by walk_at"w",?_⟩;refine⟨R,yu R 20 ps,rfl,r3.ok,λc os op ow=>?_⟩;exact⟨xp,⟨_,_,rfl⟩,_,ag (ag aD),h a c os op ow⟩
def cW:FS:=λls js=>∃(a:Addr)(xs:List D)(m:Int),ls=[.own a xs,.d (.int m)]/\Rv xs/\0<m/\m<=10^60/\∀(r:Int)(ys:List D),Rv ys->0<=r->r<m->js (.d (.int r)) [.own a ys,.d (.int m)]
def kY:W Fl:=(aV (xq 0 (wC (.int 1)) (au j8 (au jE (au bp (fY 0 (CI 0 (wC (.int 1))) (au aE (ai 0) (wC (.int 1)))) (wC (.int 39373))) (wC (.int 17))) (wC (.int 2147483647))))
  (br 3 (bz (au jE (au bp (ai 3) (wC (.int 2147483629))) (au j8 (au bp (fY 0 (CI 0 (wC (.int 1))) (au aE (ai 0) (wC (.int 1)))) (fY 0 (CI 0 (wC (.int 1))) (au aE (ai 0) (wC (.int 1))))) (wC (.int 2147483629)))))))
def pS:W Fl:=(aV (Wj (aM (fY 0 (CI 0 (wC (.int 2))) (au aE (ai 0) (wC (.int 2))))) (aV (br 2 (au j8 (fY 0 (CI 0 (wC (.int 0))) (au aE (ai 0) (wC (.int 0)))) (ai 1)))
  (aV (xq 0 (wC (.int 0)) (au tT (fY 0 (CI 0 (wC (.int 0))) (au aE (ai 0) (wC (.int 0)))) (ai 1)))
  (aV (xq 0 (wC (.int 2)) (au Qe (fY 0 (CI 0 (wC (.int 0))) (au aE (ai 0) (wC (.int 0)))) (wC (.int 0))))
  (a9 (jD 2))))) bF)
  (aV (br 3 (wC (.int 0)))
  (aV (oO (oN (au jE (wC (.int 1)) (au bp (wC (.int 8)) (aZ Hy (aq (au Qe (ai 1) (au Hs (wC (.int 10)) (wC (.int 6)))) aC))))) (aU 4) kY)
  (a9 (au j8 (au tT (ai 3) (wC (.int 64))) (ai 1))))))
theorem B1{a:Addr}{c:Int}{m x2:L}{js:Fl->Ev->Prop}:∀(items:List D)(sd dr:Int)(j:Nat)(x4:L),j+items.length<=100->0<=sd->sd<2147483647->0<=dr->dr<2^(40*j) ->
  (∀sd' dr' x',0<=sd'->sd' < 2147483647->0<=dr'->js .nx [.own a [.int c,.int sd',.bl false],m,x2,.d (.int dr'),x']) ->
  fW (aU 4) kY items [.own a [.int c,.int sd,.bl false],m,x2,.d (.int dr),x4] js
 |[],sd,dr,j,x4,_,h0,h1,h2,h3,h=>h sd dr x4 h0 h1 h2
 | y::items,sd,dr,j,x4,hl,h0,h1,h2,h3,h=>by
  unfold fW kY;walk_at"w";obtain⟨r0,r1⟩:=qo (sd*39373+17) (m:=2147483647) xp;generalize (sd*39373+17).fmod 2147483647=s' at r0 r1 ⊢;obtain⟨q0,q1⟩:=qo (s'*s') (m:=2147483629) xp;generalize (s'*s').fmod 2147483629=t' at q0 q1 ⊢;have hl':j+(items.length+1)<=100:=hl;have b1:cI sd:=C1 (n:=40) h0 xL xp;have b2:cI s':=C1 (n:=40) r0 xL xp;have b3:cI dr:=C1 (n:=40*j) h2 h3 xL;have b4:cI 39373:=dg xp;have b5:cI 2147483629:=dg xp;refine⟨b1,b4,xp,b3,b5,b2,b2,xp,?_⟩;refine B1 items s' (dr*2147483629+t') (j+1) _ xL r0 r1 xL ?_ h;have e:(2:Int)^(40*(j+1))=2^(40*j)*1099511627776:=by rw[Nat.mul_succ,Int.pow_add];rfl
  omega
theorem z4:ab4 2 3 cW pS:=by
 rintro ls js - ⟨a,xs,m,rfl,⟨c,sd,t,rfl,h0,h1⟩,hm,hM,h⟩;unfold pS;have hm0:m≠0:=by omega
 have hmz:=Io xL hM
 cases t with
 | true =>
  walk_at"w";obtain⟨r0,r1⟩:=qo c hm;exact⟨hm0,hm0,hmz,_,Ei k4 (ag aD),h _ _ ⟨_,_,_,rfl,h0,h1⟩ r0 r1⟩
 | false =>
  walk_at"w";refine⟨xp,xp,xp,dg xp,dg (by split<;>decide),⟨by split<;>decide,by split<;>decide⟩,?_⟩;refine B1 (c:=c) _ sd 0 0 _ (by simp only[q5,ZL,aac];split<;>decide) h0 h1 xp xp λsd' dr' x' g0 g1 g2=>?_;walk_at"w";obtain⟨r0,r1⟩:=qo (dr'.fdiv 64) hm;exact⟨xp,xp,hm0,_,Ei k4 (ag aD),h _ _ ⟨_,_,_,rfl,g0,g1⟩ r0 r1⟩
def eX:FS:=λls js=>∃(ns:List Int)(k:Int),ls=[.d (.lst (ns.map .int)),.d (.int k)]/\0<=k/\k<=100/\∀a xs,Rv xs->js (.own a xs) ls
def mM:W Fl:=(aV (br 2 (wC (.int 0)))
  (aV (Wj (aM (au uR (ai 1) (aZ b8 (aq (ai 0) aC)))) (br 2 (au aE (ai 0) (ai 1))) bF)
  (a9 (AO (aq (ai 2) (aq (au j8 (au jE (au jE (au j8 (ai 2) (wC (.int 2147483587))) (au bp (au bp (wC (.int 48271)) (ai 1)) (ai 1))) (wC (.int 13))) (wC (.int 2147483587))) (aq (au QV (ai 2) (au Hs (wC (.int 10)) (wC (.int 18)))) aC)))))))
theorem xJ:ab4 2 1 eX mM:=by
 rintro ls js - ⟨ns,k,rfl,h0,h1,h⟩;unfold mM
 have Vx:∀(c:Int)(Z:Ev)(e:Z=[.d (.lst (ns.map .int)),.d (.int k),.d (.int c)]),∀a:Addr,aL [.d (.lst (ns.map .int)),.d (.int k)] js (.rt (.own a [.int c,.int ((c.fmod 2147483587+48271*k*k+13).fmod 2147483587),.bl (decide ((10:Int)^18<=c))])) Z:=λc Z e a=>by
  refine⟨_,ag (ag aD),h a _ ⟨_,_,_,rfl,?_,?_⟩⟩
  . rw[aaQ _ xp];exact Int.emod_nonneg _ xp
  . rw[aaQ _ xp];have:=Int.emod_lt_of_pos (c.fmod 2147483587+48271*k*k+13) (b:=2147483587) xp;omega
 have hb1:cI 48271:=dg xp;have hb2:cI k:=dg (ZS (show k.natAbs<=100 by omega) xp);have hb3:cI (48271*k):=dg (ZS (show(48271*k).natAbs<=4827100 by omega) xp);walk_at"w"
 try rw[ZL]
 split
 .
  rename_i hk;have hk:k<(ns.length:Int):=by simpa using hk
  have hi:k.toNat<ns.length:=by omega
  refine⟨.int ns[k.toNat],Rt h0 (by rw[ZZ,gV hi];rfl),?_⟩;exact⟨xp,hb1,hb2,hb3,hb2,xp,xp,xp,xp,xp,Vx _ _ rfl⟩
 . exact⟨xp,hb1,hb2,hb3,hb2,xp,xp,xp,xp,xp,Vx _ _ rfl⟩
structure yC (R:aB):Prop where
 ok:R.Ok
 rm:∀q∈R.rooms,∃m:Nat,q=(m:Rat)/\1<=m/\m<=3
 sz:∀a∈R.asks,∃m:Nat,a.size=(m:Rat)/\m<100
def kZ:FS:=λls js=>∃ns:List Int,ls=[.d (.lst (ns.map .int))]/\∀R:aB,yC R->js (.d (aI R)) ls
def jW:W Fl:=(AM (Oi 5 (lz (aq (au aE (wC (.str "abcdefghijklmnopqrst")) (ai 6)) (aq (ai 7) (aq (ai 8) (aq (lz (aq (bz (uP cW 0 3 (M1 3 (aq (wC (.int 100)) aC)))) (aq (wC (.int 1)) aC))) aC)))))))
def jX:W Fl:=(aV (br 8 (au j8 (au jE (au jE (ai 7) (wC (.int 1))) (uP cW 0 3 (M1 3 (aq (au nE (ai 2) (wC (.int 1))) aC)))) (ai 2)))
  jW)
def oe:W Fl:=(aV (br 7 (bz (uP cW 0 3 (M1 3 (aq (ai 2) aC)))))
  jX)
def og:W Fl:=(a9 (lz (aq (ai 4) (aq (ai 5) aC))))
def oh:W Fl:=(aV (oO (oN (au aE (AO (aq (wC (.int 20)) (aq (wC (.int 20)) (aq (wC (.int 0)) aC)))) (ai 1))) (aU 6) oe)
  og)
def oi:W Fl:=(aV (br 5 (AO aC))
  oh)
def oj:W L:=(lz (aq (bz (au jE (wC (.int 1)) (uP cW 0 1 (M1 1 (aq (wC (.int 3)) aC))))) (aq (wC (.int 1)) aC)))
def om:W Fl:=(aV (br 3 (av eX (aq (ai 0) (aq (wC (.int 2)) aC))))
  oi)
def oo:W Fl:=(aV (br 4 (fj 1 [3] (oN (ai 2)) (aU 0) dO oj))
  om)
def ou:W Fl:=(aV (br 3 (av eX (aq (ai 0) (aq (wC (.int 1)) aC))))
  oo)
def oy:W Fl:=(aV (br 2 (au aE (AO (aq (wC (.int 12)) (aq (wC (.int 2)) (aq (wC (.int 12)) aC)))) (ai 1)))
  ou)
def mN:W Fl:=(aV (br 1 (bz (av cW (aq (av eX (aq (ai 0) (aq (wC (.int 0)) aC))) (aq (wC (.int 3)) aC)))))
  oy)
theorem FH{α:Type}{enc:α->D}{te:W L}{k:List D->Ev->Prop}(I:Ev->Prop)(P:D->Prop):∀(as:List α)(acc:List D)(l:L)(caps:Ev),I caps->(∀y∈acc,P y) ->
  (∀a∈as,∀caps,I caps->∀Q:Ev->D->Prop,(∀caps' y,I caps'->P y->Q (.d (enc a)::caps') y)->te (.d (enc a)::caps) λr Z3=>Wc r λy=>Q Z3 y) ->
  (∀l' caps' ys,I caps'->(∀y∈ys,P y)->ys.length=acc.length+as.length->k ys (l'::caps'))->de (aU 0) dO te (as.map enc) (l::caps) acc k
 |[],acc,l,caps,hi,ha,_,Vx=>Vx l caps acc hi ha x_
 | a::as,acc,l,caps,hi,ha,step,Vx=>by
  show dO (.d (enc a)::caps) λb Z2=>if b=true then te Z2 λr Z3=>Wc r λy=>de (aU 0) dO te (as.map enc) Z3 (acc++[y]) k else de (aU 0) dO te (as.map enc) Z2 acc k
  simp only[dO,aaX];refine step a k4 caps hi _ λcaps' y hi' hy=>FH I P as (acc++[y]) _ caps' hi' (λz hz=>?_) (λb hb=>step b (fI _ hb)) λl' caps'' ys h1 h2 h3=>Vx l' caps'' ys h1 h2 ?_
  .
   rcases aap.mp hz with hz|hz
   . exact ha z hz
   . rw[aaS.mp hz];exact hy
  . rw[h3,aaK,List.length_singleton,aa8];omega
theorem PZ(m:Nat):Wz (m:Rat)=.tup [.int (m:Int),.int 1]:=rfl
theorem NF{m k:Nat}(h:m<2^k)(hk:1<=k):RB k (m:Rat):=by
 refine⟨?_,?_⟩
 . show((m:Int)).natAbs<2^k;rw[Z4];exact h
 . show 1<2^k;exact k5 xp (ZN xp hk)
theorem FI{lo hi:Nat}:∀{ys:List D},(∀y∈ys,∃m:Nat,y=Wz (m:Rat)/\lo<=m/\m<=hi)->∃qs:List Rat,ys=qs.map Wz/\∀q∈qs,∃m:Nat,q=(m:Rat)/\lo<=m/\m<=hi
 |[],_=>⟨[],rfl,λq hq=>by cases hq⟩
 | y::ys,h=>by
  obtain⟨m,e,h1⟩:=h y k4;obtain⟨qs,rfl,h2⟩:=FI λz hz=>h z (fI _ hz);refine⟨(m:Rat)::qs,by rw[e];rfl,λq hq=>?_⟩;rcases ZU.mp hq with rfl|hq
  . exact⟨m,rfl,h1⟩
  . exact h2 q hq
theorem Vg{j:Nat}(h:j < 20):VT (Str.ofString "abcdefghijklmnopqrst").cps.toList (j:Int)=some (97+j):=by
 have:∀ k:Fin 20,VT (Str.ofString "abcdefghijklmnopqrst").cps.toList ((k.val:Nat):Int)=some (97+k.val):=by decide +kernel
 exact this ⟨j,h⟩
theorem P0{j:Nat}(h:j<20):PyData.strOk ⟨#[97+j]⟩=true:=by
 have:∀k:Fin 20,PyData.strOk ⟨#[97+k.val]⟩=true:=by decide +kernel
 exact this ⟨j,h⟩
theorem xK:ab4 1 8 kZ mN:=by
 rintro ls js - ⟨ns,rfl,h⟩;walk_at"mN";refine⟨ns,0,rfl,xp,xp,λb xs hx=>?_⟩;refine⟨b,xs,3,rfl,hx,xp,xp,λr ys hy r0 r1=>?_⟩;walk_at"w"
 obtain⟨n,m,n2,n12,m20,e1,e2⟩:∃n m:Nat,2<=n/\n<=12/\m<=20/\VT [D.int 12,.int 2,.int 12] r=some (.int n)/\VT [D.int 20,.int 20,.int 0] r=some (.int m):=by
  obtain rfl|rfl|rfl:r=0∨r=1∨r=2:=by omega
  . exact⟨12,20,xp,xp,xp,rfl,rfl⟩
  . exact⟨2,20,xp,xp,xp,rfl,rfl⟩
  . exact⟨12,0,xp,xp,xp,rfl,rfl⟩
 walk_at"oy";refine⟨xp,λ_=>⟨_,e1,?_⟩⟩;walk_at"w";walk_at"ou";refine⟨ns,1,rfl,xp,xp,λb xs hx=>?_⟩;walk_at"w";walk_at"oo";rw[aak,iO];refine⟨⟨xL,xL⟩,by rw[ZL,aac];exact ZR n12 xp,?_⟩;refine FH (λcaps=>∃zs,caps=[.own b zs]/\Rv zs) (λy=>∃m:Nat,y=Wz (m:Rat)/\1<=m/\m<=3) _ [] _ _ ⟨xs,rfl,hx⟩ (λy hy=>by cases hy) ?_ ?_
 . rintro a ha caps ⟨zs,rfl,hz⟩ Q hQ;walk_at"oj";refine⟨b,zs,3,rfl,hz,xp,xp,λq ws hw q0 q1=>⟨ws,rfl,?_⟩⟩;walk_at"w";obtain⟨q',rfl⟩:=abv q0;refine⟨xp,hQ [.own b ws] _ ⟨ws,rfl,hw⟩ ⟨q'+1,?_,xL,xL⟩⟩;rw[PZ,Int.natCast_add,Int.add_comm];rfl
 rintro l caps rms ⟨zs,rfl,hz⟩ hrm hl;walk_at"w";intro a1;obtain⟨rs,rfl,hrs⟩:=FI hrm;have hn:rs.length=n:=by simpa using hl
 walk_at"om";refine⟨ns,2,rfl,xp,xp,λb xs hx=>?_⟩;walk_at"oi";refine⟨xp,λa2=>?_⟩;walk_at"oh";refine⟨xp,λ_=>⟨_,e2,?_⟩⟩;walk_at"w";refine⟨⟨xL,xL⟩,?_⟩;rw[aak,iO];refine cJ _ (λj Z=>∃(as:List WW)(ys:List D)(x6 x7 x8:L),Z=[.d (.lst (ns.map .int)),.d (.int r),.d (.int (n:Int)),.own b ys,.own a1 (rs.map Wz),.own a2 (as.map lV),x6,x7,x8]/\Rv ys/\as.length=j/\∀a∈as,ke n a/\∃m:Nat,a.size=(m:Rat)/\m<100) _ ⟨[],xs,_,_,_,rfl,hx,rfl,λa ha=>by cases ha⟩ ?_ ?_
 .
  rintro j x Z hj ⟨as,ys,x6,x7,x8,rfl,hy,ha,hok⟩ Q h1 h2 h3 h4;have hj':j<m:=by have:=(so.mp hj).1;simpa using this
  obtain rfl:x=.int (j:Int):=by rw[ZZ,aau hj']at hj;exact(aaf hj).symm
  walk_at"oe";refine⟨b,ys,n,rfl,hy,xL,xL,λo zs hz o0 o1=>⟨zs,rfl,?_⟩⟩;walk_at"w";walk_at"jX";refine⟨b,zs,(n:Int)-1,rfl,hz,xL,xL,λq ws hw q0 q1=>⟨ws,rfl,?_⟩⟩;walk_at"w";refine⟨xL,?_⟩;obtain⟨o',rfl⟩:=abv o0;obtain⟨q',rfl⟩:=abv q0;obtain⟨m1,m2⟩:=RI (n:=n) (o:=o') (r:=q') xL xL;rw[show(o':Int)+1+(q':Int)=((o'+1+q':Nat):Int) by omega,LZ];walk_at"jW";have h20:j<20:=by omega
  refine⟨xp,_,Vg h20,b,ws,100,rfl,hw,xp,xp,λz vs hv z0 z1=>⟨vs,rfl,?_⟩⟩;walk_at"w";obtain⟨z',rfl⟩:=abv z0;refine⟨xp,xp,by rw[ha];exact k5 h20 xp,h1 _ ⟨as++[⟨⟨#[97+j]⟩,o',(o'+1+q') % n,(z':Rat)⟩],vs,_,_,_,by rw[aaW];rfl,hv,by simp[ha],λa hm=>?_⟩⟩;rcases aap.mp hm with hm|hm
  . exact hok a hm
  .
   rw[aaS.mp hm];refine⟨⟨by show o' < n;omega,m1,m2,?_,?_,P0 h20⟩,z',rfl,xL⟩
   . show(0:Rat)<=(z':Rat);exact_mod_cast aaN z'
   . show(z':Rat)<((2^300:Nat):Rat);exact_mod_cast (Nat.lt_trans (show z' < 100 by omega) xp:z' < 2^300)
 .
  rintro Z ⟨as,ys,x6,x7,x8,rfl,hy,ha,hok⟩;walk_at"og";refine⟨xp,?_⟩;have ha:as.length=m:=by simpa using ha
  have hR:(⟨rs,as⟩:aB).Ok:=⟨by show 2<=rs.length;omega,by show rs.length<=12;omega,by show as.length<=20;omega,λq hq=>?_,λa h'=>?_,1,xp,xp,λa h'=>?_⟩
  . exact⟨_,ag aD,h _ ⟨hR,hrs,λa h'=>(hok a h').2⟩⟩
  . obtain⟨k,rfl,k1,k3⟩:=hrs q hq;exact⟨by exact_mod_cast k1,NF (ZS k3 xp) xp⟩
  . have:=(hok a h').1;show ke rs.length a;rw[hn];exact this
  . obtain⟨k,e,_⟩:=(hok a h').2;rw[e];exact abY _
def d8:FS:=λls js=>∃t b:Int,ls=[.d (.int t),.d (.int b)]/\b≠0/\b.natAbs<2^9000/\js (.d (Wz (Rat.divInt t b))) ls
def tI:W Fl:=(SD 2 3 (au j8 (ai 3) (ai 2)) (ai 2))
def sD:W Fl:=(aV (br 2 (bz (aZ F5 (aq (ai 0) aC))))
  (aV (br 3 (bz (aZ F5 (aq (ai 1) aC))))
  (aV (AQ (aM (au um (ai 2) (wC (.int 0)))) tI)
  (aV (Wj (aM (au uR (ai 1) (wC (.int 0)))) (br 3 (au nE (wC (.int 0)) (ai 3))) bF)
  (a9 (lz (aq (au tT (ai 0) (ai 3)) (aq (au tT (ai 1) (ai 3)) aC))))))))
theorem B2:ab4 2 2 d8 sD:=by
 rintro ls js - ⟨t,b,rfl,hb,hz,h⟩;walk_at"sD";have h1:=Es (t:=t) hb;have h2:=ZS (Et (t:=t) hb) hz
 have Vx:∀{g:Int}{Z:Ev},g=dC t b->g≠0/\g.natAbs<2^9000/\g≠0/\g.natAbs<2^9000/\2<=sizeLine/\aL [.d (.int t),.d (.int b)] js (.rt (.d (.tup [.int (t.fdiv g),.int (b.fdiv g)]))) Z:=λ{g Z} e=>by
  have e1:g≠0:=by rw[e];exact h1
  have e2:g.natAbs<2^9000:=by rw[e];exact h2
  refine⟨e1,e2,e1,e2,xp,_,ag (ag aD),?_⟩;rw[EM hb e];exact h
 refine⟨λn Z=>∃x y:Int,Z=[.d (.int t),.d (.int b),.d (.int x),.d (.int y)]/\0<=x/\0<=y/\Int.gcd x y=Int.gcd t b/\n=x.natAbs,⟨_,_,_,rfl,by split<;>omega,by split<;>omega,?_,rfl⟩,?_⟩
 .
  have e1:(if t<0 then -t else t)=(t.natAbs:Int):=by split<;>omega
  have e2:(if b<0 then -b else b)=(b.natAbs:Int):=by split<;>omega
  rw[e1,e2];simp[Int.gcd]
 .
  rintro n Z ⟨x,y,rfl,x0,y0,hg,rfl⟩;walk_at"tI";split
  .
   rename_i hx;have hx:x≠0:=by simpa using hx
   refine⟨hx,_,nU y hx,_,_,rfl,(qo y xL).1,x0,?_,rfl⟩;rw[Int.gcd_comm,Er,Int.gcd_comm];exact hg
  .
   rename_i hx;have hx:x=0:=by simpa using hx
   subst hx;have hy:y=(Int.gcd t b:Int):=by rw[<- hg,Int.gcd_zero_left];omega
   split
   . rename_i hlt;exact Vx (by simp[dC,hlt,hy])
   . rename_i hlt;exact Vx (by simp[dC,hlt,hy])
def eY:FS:=λls js=>∃p q:Rat,ls=[.d (Wz p),.d (Wz q)]/\RB 4400 p/\RB 4400 q/\js (.d (Wz (p*q))) ls
def mO:W Fl:=(a9 (av d8 (aq (bz (au bp (au aE (ai 0) (wC (.int 0))) (au aE (ai 1) (wC (.int 0))))) (aq (bz (au bp (au aE (ai 0) (wC (.int 1))) (au aE (ai 1) (wC (.int 1))))) aC))))
theorem xM:ab4 2 0 eY mO:=by
 rintro ls js - ⟨p,q,rfl,hp,hq,h⟩;walk_at"mO";refine⟨hp.bn xp,hq.bn xp,hp.bd xp,hq.bd xp,_,_,rfl,oT p q,?_,_,ag (ag aD),?_⟩
 . rw[kd];exact k5 (bc hp.2 hq.2) (ZN xp xp)
 . rw[Ip];exact h
def du:FS:=λls js=>∃p q:Rat,ls=[.d (Wz p),.d (Wz q)]/\RB 400000 p/\RB 400000 q/\js (.d (.bl (decide (p<q)))) ls
def mP:W Fl:=(a9 (au uR (au bp (au aE (ai 0) (wC (.int 0))) (au aE (ai 1) (wC (.int 1)))) (au bp (au aE (ai 1) (wC (.int 0))) (au aE (ai 0) (wC (.int 1))))))
theorem xN:ab4 2 0 du mP:=by rintro ls js - ⟨p,q,rfl,hp,hq,h⟩;walk_at"mP";refine⟨hp.bn xp,hq.bd xp,hq.bn xp,hp.bd xp,_,ag (ag aD),?_⟩;rw[Ru];exact h
def gM:FS:=λls js=>(∃i:Int,ls=[.d (.int i)]/\js (.d (.bl true)) ls)∨∃d:D,ls=[.d d]/\(∀i,d≠.int i)/\js (.d (.bl false)) ls
def i0:W Fl:=(a9 (iG (Wi (lK "int") (ai 0)) (FY (aM (Wi (lK "bool") (ai 0))))))
theorem xO:ab4 1 0 gM i0:=by
 rintro ls js-(⟨i,rfl,h⟩|⟨d,rfl,hd,h⟩)
 . walk_at"i0";exact⟨_,ag aD,h⟩
 .
  unfold i0
  cases d with
  |int i=>exact absurd rfl (hd i)
  |_=>walk_at"w"; exact⟨_,ag aD,h⟩
def eZ:FS:=λls js=>∃d:D,ls=[.d d]/\(∀i j,d=.tup [.int i,.int j]->j.natAbs<2^9000)/\js (.d (.bl (kr d))) ls
def mQ:W Fl:=(aV (Wj (Wg (oJ (aM (Wi (lK "tuple") (ai 0)))) (Wg (aM (au um (aZ b8 (aq (ai 0) aC)) (wC (.int 2)))) (Wg (oJ (aM (av gM (aq (au aE (ai 0) (wC (.int 0))) aC)))) (oJ (aM (av gM (aq (au aE (ai 0) (wC (.int 1))) aC))))))) (a9 (wC (.bl false))) bF)
  (a9 (iG (au Qe (au aE (ai 0) (wC (.int 1))) (wC (.int 0))) (au qV (av d8 (aq (au aE (ai 0) (wC (.int 0))) (aq (au aE (ai 0) (wC (.int 1))) aC))) (ai 0)))))
theorem xP:ab4 1 0 eZ mQ:=by
 rintro ls js - ⟨d,rfl,hb,h⟩;unfold mQ;by_cases hd:∃i j,d=.tup [.int i,.int j]
 .
  obtain⟨i,j,rfl⟩:=hd;have jb:=hb i j rfl;walk_at"w";rw[if_neg (by simp)];refine .inl ⟨i,rfl,?_⟩;walk_at"w";refine .inl ⟨j,rfl,?_⟩;walk_at"w";have e:kr (.tup [.int i,.int j])=(decide (1<=j) && decide ((Int.gcd i j:Int)=1)):=rfl;rw[e]at h;by_cases c:0<j
  .
   rw[if_pos (by omega)];refine⟨i,j,rfl,xL,jb,?_⟩;walk_at"w";have e2:Wp (Wz (Rat.divInt i j)) (.tup [.int i,.int j])=decide ((Int.gcd i j:Int)=1):=by show Wp (.tup [.int (Rat.divInt i j).num,.int ((Rat.divInt i j).den:Int)]) _=_;rw[CO,jI,jI,yS,oR,oR,Bool.and_true,<- Bool.decide_and,abb];exact Pb c
   rw[aaa (show 1<=j by omega),aaR]at h;rw[e2];exact⟨bZ (n:=1) rfl xp,_,ag aD,h⟩
  . rw[if_neg (by omega)];rw[ZP (show ¬1<=j by omega),aaD]at h;exact⟨_,ag aD,h⟩
 .
  have hn:∀i j,d≠.tup [.int i,.int j]:=λi j e=>hd ⟨i,j,e⟩;rw[zj hn]at h
  cases d with
  | tup xs =>
   rcases xs with _|⟨x,_|⟨y,_|⟨z,zs⟩⟩⟩
   . walk_at"w";rw[if_pos (by decide)];exact⟨_,ag aD,h⟩
   . walk_at"w";rw[if_pos (by decide)];exact⟨_,ag aD,h⟩
   .
    walk_at"w";rw[if_neg (by simp)];by_cases hx:∃i,x=.int i
    . obtain⟨i,rfl⟩:=hx;refine .inl ⟨i,rfl,?_⟩;walk_at"w";refine .inr ⟨y,rfl,λj e=>hn i j (by rw[e]),?_⟩;walk_at"w";exact⟨_,ag aD,h⟩
    . refine .inr ⟨x,rfl,λj e=>hx ⟨j,e⟩,?_⟩;walk_at"w";exact⟨_,ag aD,h⟩
   . walk_at"w";rw[if_pos (by simp;omega)];exact⟨_,ag aD,h⟩
  | _ =>
   walk_at"w";exact⟨_,ag aD,h⟩
def e8:FS:=λls js=>∃(R:aB)(d:D),ls=[.d (aI R),.d d]/\R.Ok/\Nn d/\js (.d (.bl (qw R d))) ls
def ij:W Fl:=(Wj (Wg (aM (au uR (au aE (au aE (ai 1) (ai 2)) (wC (.int 0))) (wC (.int 0)))) (aM (av du (aq (au aE (au aE (au aE (ai 0) (wC (.int 1))) (ai 2)) (wC (.int 3))) (aq (au aE (ai 1) (ai 2)) aC))))) (a9 (wC (.bl false))) bF)
def cw:W L:=(ai 0)
def fG:W Fl:=(aV (Wj (Wg (oJ (aM (Wi (lK "list") (ai 1)))) (aM (au um (aZ b8 (aq (ai 1) aC)) (aZ b8 (aq (au aE (ai 0) (wC (.int 1))) aC))))) (a9 (wC (.bl false))) bF)
  (aV (Wj (aM (au um (fj 1 [] (qY (ai 1)) (aU 0) (oJ (aM (av eZ (aq (ai 0) aC)))) cw) (AO aC))) (a9 (wC (.bl false))) bF)
  (aV (oO (oN (aZ b8 (aq (ai 1) aC))) (aU 2) ij)
  (a9 (wC (.bl true))))))
theorem pT{n:Nat}{p:D->Bool}:∀{xs:List D},yh n xs=true->yh n (xs.filter p)=true
 |[],_=>rfl
 | x::xs,h=>by
  rw[yh,Z5]at h;rw[aao];split
  . rw[yh,Z5];exact⟨h.1,pT h.2⟩
  . exact pT h.2
theorem J7{p:D->Bool}(xs:List D):(xs.filter λx=>!p x).isEmpty=xs.all p:=by
 induction xs with
 |nil=>rfl
 | cons x xs ih =>
  rw[aao,abP];cases p x
  . rfl
  . simpa using ih
theorem P1{p:D->Bool}(xs:List D):xs.filterMap (λx=>if p x=true then none else some x)=xs.filter λx=>!p x:=by
 induction xs with
 |nil=>rfl
 | cons x xs ih =>
  rw[aaE,aao,ih];cases p x<;>rfl
theorem pU:ab4 2 1 e8 fG:=by
 rintro ls js - ⟨R,d,rfl,hR,hs,h⟩;have few:=hR.few;unfold fG
 cases d with
 | lst xs =>
  obtain⟨xl,xo⟩:=hs.sh xs rfl
  have key:∀(k:List D->Ev->Prop),(∀l,k (xs.filter λx=>!kr x) [l])->de (aU 0) (oJ (aM (av eZ (aq (ai 0) aC)))) cw xs [.un] [] k:=by
   intro k hk
   have cp:=fZ (α:=D) (enc:=λx=>x) (h:=λx=>if kr x=true then none else some x) (caps:=[]) (ti:=oJ (aM (av eZ (aq (ai 0) aC)))) (te:=cw) (k:=k) xs [] .un (λx hx Q hQ=>?_) λl=>by rw[aa5,P1];exact hk l
   . rwa [List.map_id']at cp
   walk_at"w";refine⟨x,rfl,λi j e=>k5 (hs.bd xs i j rfl (by rw[<- e];exact hx)).2 (ZN xp xp),?_⟩;walk_at"w";cases e:kr x
   . rw[e]at hQ;walk_at"cw";exact hQ
   . rw[e]at hQ;exact hQ
  walk_at"w";by_cases hl:xs.length=R.asks.length
  .
   rw[if_neg (by omega)];refine⟨ZR xl xp,key _ λl a=>?_⟩;walk_at"w";refine⟨aaN _,λ_=>⟨bZ (n:=10) (pT xo) xp,bZ (n:=1) rfl xp,?_⟩⟩;rw[Pc,J7];cases e:xs.all kr
   .
    rw[if_pos rfl];have e2:qw R (.lst xs)=false:=by show(decide (xs.length=R.asks.length) && (xs.all kr && _))=false;rw[e,aaD,Bool.and_false]
    rw[e2]at h;exact⟨_,ag (ag aD),h⟩
   .
    rw[if_neg (by decide)];obtain⟨ps,rfl⟩:=zk e;rw[ZL]at hl xl;rw[vt hl]at h;have hb:∀p∈ps,RB 4400 p:=λp hp=>by have:=hs.bd _ p.num (p.den:Int) rfl (ZW.mpr ⟨p,hp,rfl⟩);exact⟨this.1,by simpa using this.2⟩
    walk_at"w";refine⟨⟨xL,xL⟩,?_⟩;rw[aak];refine qm _ (λj Z=>∃x2,Z=[.d (aI R),.d (.lst (ps.map Wz)),x2]/\∀t,t<j->bX R ps t=false) _ ⟨_,rfl,λt ht=>by omega⟩ ?_ ?_
    .
     rintro k Z hk ⟨x2,rfl,hpre⟩ Q h1 h2 h3 h4;have hk2:k<R.asks.length:=by omega
     have ew:bX R ps k=(decide (ps[k]<0) ||decide (R.asks[k].size<ps[k])):=by unfold bX;rw[kj hk,Bl hk2]
     have yes:bX R ps k=true->∀Z,Q (.rt (.d (.bl false))) (.d (aI R)::.d (.lst (ps.map Wz))::Z):=λhy Z=>h4 _ _ (by
      rw[Fg (P:=bX R ps) hk hy hpre]at h
      exact⟨_,ag (ag aD),h⟩)
     walk_at"ij";refine⟨_,aW hk,?_⟩;walk_at"w";by_cases c:ps[k]<0
     .
      have cn:ps[k].num<0:=by
       have:¬0<=ps[k].num:=λz=>by have:=Rat.num_nonneg.mp z;grind
       omega
      rw[if_pos cn];exact yes (by rw[ew,aaa c,Bool.true_or]) _
     .
      have cn:0<=ps[k].num:=Rat.num_nonneg.mpr (by grind);rw[if_neg (by omega)];refine⟨_,aW hk2,?_⟩;walk_at"w";refine⟨_,aW hk,?_⟩;refine⟨_,_,rfl,(hR.rb (ZM hk2)).mono xp,(hb _ (ZM hk)).mono xp,?_⟩;walk_at"w";by_cases c2:R.asks[k].size<ps[k]
      . rw[if_pos c2];exact yes (by rw[ew,aaa c2,Bool.or_true]) _
      .
       rw[if_neg c2];refine h1 _ ⟨_,rfl,λt ht=>?_⟩;rcases Nat.lt_or_ge t k with g|g
       . exact hpre t g
       .
        have:t=k:=by omega
        subst this;rw[ew,ZP c,ZP c2];rfl
    . rintro Z ⟨x2,rfl,hpre⟩;walk_at"w";rw[jK.mpr hpre]at h;exact⟨_,ag (ag aD),h⟩
  .
   rw[if_pos (by omega)];have e2:qw R (.lst xs)=false:=by show(decide (xs.length=R.asks.length) && _)=false;rw[ZP hl,aaD]
   rw[e2]at h;exact⟨_,ag (ag aD),h⟩
 | _ =>
  walk_at"w";exact⟨_,ag (ag aD),h⟩
def mR:FS:=λls js=>∃(R:aB)(k:Nat)(hk:k<R.asks.length),ls=[.d (aI R),.d (.int k)]/\R.Ok/\∀c,js (.own c ((xc R.n R.asks[k] true).map λ(t:Nat)=>D.int (t:Int))) ls
def qM:W Fl:=(aV (AM (Oi 6 (ai 3)))
  (br 3 (au j8 (au jE (ai 3) (wC (.int 1))) (aZ b8 (aq (au aE (ai 0) (wC (.int 0))) aC)))))
def pV:W Fl:=(aV (K1 [2,3,4,5] (au aE (au aE (ai 0) (wC (.int 1))) (ai 1)))
  (aV (br 6 (AO aC))
  (aV (AQ (aM (au um (ai 3) (ai 4))) qM)
  (a9 (jD 6)))))
theorem xQ{f:Nat->Nat}{s m:Nat}(h:s<m):((List.range m).map f).take (s+1)=((List.range m).map f).take s++[f s]:=by rw[List.take_succ,ZZ,aau h];rfl
theorem z5:ab4 2 5 mR pV:=by
 rintro ls js - ⟨R,k,hk,rfl,hR,h⟩;have ha:=hR.ask _ (ZM hk);have hlo:=hR.lo;have hhi:=hR.hi;generalize hA:R.asks[k]=A at ha h;have h1:=ha.one;have h2:=ha.other;walk_at"pV";refine⟨lV A,by rw[<- hA];exact aW hk,?_⟩;walk_at"w";refine⟨xp,λc=>?_⟩;refine⟨λm Z=>∃s,Z=[.d (aI R),.d (.int k),.d (.str A.nm),.d (.int (((A.one+s) % R.n:Nat):Int)),.d (.int A.other),.d (Wz A.size),.own c (((WY R.n A.one A.other).take s).map λ(t:Nat)=>D.int (t:Int))]/\s<=WZ R.n A.one A.other/\m=WZ R.n A.one A.other-s,⟨_,0,by rw[Nat.add_zero,Nat.mod_eq_of_lt h1];rfl,aaN _,rfl⟩,?_⟩;rintro m Z ⟨s,rfl,hs,rfl⟩;have hf:WZ R.n A.one A.other<R.n:=abC _ xL;have hfe:=qq h1 h2
 have hm:(A.one+s) % R.n=if A.one+s<R.n then A.one+s else A.one+s-R.n:=qp xL
 have hlt:=abC (A.one+s) (y:=R.n) xL;walk_at"w";split
 .
  rename_i hne;have hs':s<WZ R.n A.one A.other:=by refine Nat.lt_of_le_of_ne hs λz=>hne ?_;rw[z,hfe]at hm;rw[z,hfe,hm];split<;>split<;>omega
  walk_at"qM";refine⟨?_,xL,WZ R.n A.one A.other-(s+1),xL,s+1,?_,hs',rfl⟩
  . rw[abS];exact ZS (Nat.min_le_left _ _) (k5 (show s<12 by omega) xp)
  have e1:(WY R.n A.one A.other).take (s+1)=(WY R.n A.one A.other).take s++[(A.one+s) % R.n]:=xQ hs';have e2:(((((A.one+s) % R.n:Nat):Int)+1).fmod (R.n:Int))=(((A.one+(s+1)) % R.n:Nat):Int):=by have:=ER (n:=R.n) (i:=(A.one+s) % R.n) (s:=1);rw[Nat.mod_add_mod,Nat.add_assoc]at this;exact this
  rw[e1,e2,aaW];rfl
 .
  rename_i heq;have heq:(((A.one+s) % R.n:Nat):Int)=A.other:=by simpa using heq
  have hs':s=WZ R.n A.one A.other:=by
   refine Nat.le_antisymm hs ?_;rw[hfe];have e:(A.one+s) % R.n=A.other:=by omega
   rw[hm]at e;have hne:=ha.ne;split at e<;>split<;>omega
  refine⟨_,ag (ag aD),?_⟩;have e1:(WY R.n A.one A.other).take s=xc R.n A true:=by rw[hs',<- Ni,aas (ZY _)];rfl
  rw[e1];exact h c
def gN:FS:=λls js=>∃p q:Rat,ls=[.d (Wz p),.d (Wz q)]/\RB 4400 p/\RB 4400 q/\js (.d (Wz (p-q))) ls
def mS:W Fl:=(a9 (av d8 (aq (au nE (au bp (au aE (ai 0) (wC (.int 0))) (au aE (ai 1) (wC (.int 1)))) (au bp (au aE (ai 1) (wC (.int 0))) (au aE (ai 0) (wC (.int 1))))) (aq (bz (au bp (au aE (ai 0) (wC (.int 1))) (au aE (ai 1) (wC (.int 1))))) aC))))
theorem xR:ab4 2 0 gN mS:=by
 rintro ls js - ⟨p,q,rfl,hp,hq,h⟩;walk_at"mS";refine⟨hp.bn xp,hq.bd xp,hq.bn xp,hp.bd xp,hp.bd xp,hq.bd xp,_,_,rfl,oT p q,?_,_,ag (ag aD),?_⟩
 . rw[kd];exact k5 (bc hp.2 hq.2) (ZN xp xp)
 . rw[M8];exact h
def cX:FS:=λls js=>∃p q:Rat,ls=[.d (Wz p),.d (Wz q)]/\RB 400000 p/\RB 400000 q/\p.den*q.den<2^9000/\js (.d (Wz (p+q))) ls
def pW:W Fl:=(a9 (av d8 (aq (bz (au jE (au bp (au aE (ai 0) (wC (.int 0))) (au aE (ai 1) (wC (.int 1)))) (au bp (au aE (ai 1) (wC (.int 0))) (au aE (ai 0) (wC (.int 1)))))) (aq (bz (au bp (au aE (ai 0) (wC (.int 1))) (au aE (ai 1) (wC (.int 1))))) aC))))
theorem z6:ab4 2 0 cX pW:=by rintro ls js - ⟨p,q,rfl,hp,hq,hz,h⟩;walk_at"pW";refine⟨hp.bn xp,hq.bd xp,hq.bn xp,hp.bd xp,hp.bd xp,hq.bd xp,_,_,rfl,oT p q,by rw[kd];exact hz,_,ag (ag aD),?_⟩;rw[A2];exact h
theorem wM{p q:Rat}{js:L->List L->Prop}(hp:RB 4400 p)(hq:RB 4400 q)(h:js (.d (Wz (p+q))) [.d (Wz p),.d (Wz q)]):cX [.d (Wz p),.d (Wz q)] js :=
 ⟨p,q,rfl,hp.mono xp,hq.mono xp,k5 (bc hp.2 hq.2) (ZN xp xp),h⟩
def k6:FS:=λls js=>∃(R:aB)(ps:List Rat),ls=[.d (aI R),.d (.lst (ps.map Wz))]/\R.Ok/\ps.length=R.asks.length/\LB R ps/\∀a,js (.own a (WX R.n (cm R.n R.asks ps))) ls
def oz:W Fl:=(xq 2 (ai 6) (av cX (aq (fY 2 (CI 2 (ai 6)) (au aE (ai 2) (ai 6))) (aq (au aE (AO (aq (ai 5) (aq (au aE (ai 1) (ai 3)) aC))) (aZ Hy (aq (au (CJ false) (ai 6) (ai 4)) aC))) aC))))
def oA:W Fl:=(aV (br 4 (bz (av mR (aq (ai 0) (aq (ai 3) aC)))))
  (aV (br 5 (bz (av gN (aq (au aE (au aE (au aE (ai 0) (wC (.int 1))) (ai 3)) (wC (.int 3))) (aq (au aE (ai 1) (ai 3)) aC)))))
  (oO (oN (fY 2 (Oj 2) (aZ b8 (aq (ai 2) aC)))) (aU 6) oz)))
def oB:W L:=(lz (aq (wC (.int 0)) (aq (wC (.int 1)) aC)))
def mT:W Fl:=(aV (br 2 (fj 1 [] (qY (au aE (ai 0) (wC (.int 0)))) (aU 0) dO oB))
  (aV (oO (oN (aZ b8 (aq (ai 1) aC))) (aU 3) oA)
  (a9 (jD 2))))
theorem xS:ab4 2 5 k6 mT:=by
 rintro ls js - ⟨R,ps,rfl,hR,hl,hb,h⟩;have hfew:=hR.few;have hlo:=hR.lo;have hhi:=hR.hi;walk_at"mT";refine⟨ZR hhi xp,?_⟩;refine df (h:=λ_=>Wz 0) _ _ _ (λq hq Q hQ=>?_) λl' a=>?_
 . walk_at"oB";exact⟨xp,hQ⟩
 .
  walk_at"w";refine⟨⟨xL,xL⟩,?_⟩;have e0:(R.rooms.map λ_=>Wz 0)=WX R.n (cm R.n (R.asks.take 0) (ps.take 0)):=by unfold WX;refine aa9 (by simp[aB.n]) λj h1 h2=>?_;simp only[abR];rfl
  rw[aak,e0];refine qm _ (λk Z=>∃x3 x4 x5 x6,Z=[.d (aI R),.d (.lst (ps.map Wz)),.own a (WX R.n (cm R.n (R.asks.take k) (ps.take k))),x3,x4,x5,x6]) _ ⟨_,_,_,_,rfl⟩ ?_ ?_
  .
   rintro k Z hk ⟨x3,x4,x5,x6,rfl⟩ Q h1 h2 h3 h4;have hk2:k<R.asks.length:=by omega
   have ha:=hR.ask _ (ZM hk2);have hpb:=hb.p _ (ZM hk);have hf:∀t,RB 4100 (cm R.n (R.asks.take k) (ps.take k) t):=λt=>hb.ld k t;walk_at"oA";refine⟨R,k,hk2,rfl,hR,λc2=>?_⟩;walk_at"w";refine⟨_,aW hk2,?_⟩;walk_at"w";refine⟨_,aW hk,?_⟩;refine⟨_,_,rfl,(hR.rb (ZM hk2)).mono xp,hpb.mono xp,?_⟩;walk_at"w";refine⟨⟨xL,xL⟩,?_⟩;rw[aak]
   refine qm _ (λj Z=>∃x6,Z=[.d (aI R),.d (.lst (ps.map Wz)),.own a (WX R.n λt=>if t<j then cm R.n (R.asks.take (k+1)) (ps.take (k+1)) t else cm R.n (R.asks.take k) (ps.take k) t),.d (.int k),.d (.lst ((xc R.n R.asks[k] true).map λ(t:Nat)=>D.int (t:Int))),.d (Wz (R.asks[k].size-ps[k])),x6]) _ ⟨_,by simp;rfl⟩ ?_ ?_
   .
    rintro t Z ht ⟨x6,rfl⟩ Q' g1 g2 g3 g4;have m1:=vd ha true ht;walk_at"oz";refine⟨_,IE ht,?_⟩;walk_at"w";refine⟨_,aW hk,xp,λ_=>⟨rfl,Bh _,?_⟩⟩;rw[uz,if_neg (abf t)]
    have es:VT [Wz (R.asks[k].size-ps[k]),Wz ps[k]] (if decide (t∈xc R.n R.asks[k] true)=true then 1 else 0)=some (Wz (qt R.n R.asks[k] ps[k] t)):=by
     unfold qt;cases e:sS R.n R.asks[k] t
     . rw[e]at m1;rw[if_neg (by rw[decide_eq_true_iff,m1];decide),CZ];rfl
     . rw[e]at m1;rw[if_pos (by rw[decide_eq_true_iff,m1];rfl),C0];rfl
    refine⟨_,es,?_⟩;refine wM ((hf t).mono xp) ((hb.st k hk2 hk t).mono xp) ?_;walk_at"w"
    have:=Rz (n:=R.n) (f:=λs=>if s<t then cm R.n (R.asks.take (k+1)) (ps.take (k+1)) s else cm R.n (R.asks.take k) (ps.take k) s) ht
    rw[C8]at this;refine⟨t,this,?_⟩;rw[OW]
    have ef:(WX R.n λs=>if s=t then cm R.n (R.asks.take k) (ps.take k) t+qt R.n R.asks[k] ps[k] t else if s<t then cm R.n (R.asks.take (k+1)) (ps.take (k+1)) s else cm R.n (R.asks.take k) (ps.take k) s)=WX R.n λs=>if s<t+1 then cm R.n (R.asks.take (k+1)) (ps.take (k+1)) s else cm R.n (R.asks.take k) (ps.take k) s:=by
     refine Be λs hs=>?_;by_cases e:s=t
     . subst e;rw[if_pos rfl,if_pos (by omega),ym hk2 hk]
     .
      rw[if_neg e];by_cases e2:s<t
      . rw[if_pos e2,if_pos (by omega)]
      . rw[if_neg e2,if_neg (by omega)]
    rw[ef];exact g1 _ ⟨_,rfl⟩
   .
    rintro Z ⟨x6,rfl⟩
    have ef:(WX R.n λs=>if s<R.n then cm R.n (R.asks.take (k+1)) (ps.take (k+1)) s else cm R.n (R.asks.take k) (ps.take k) s)=WX R.n (cm R.n (R.asks.take (k+1)) (ps.take (k+1))):=Be λs hs=>by rw[if_pos hs]
    rw[ef];exact h1 _ ⟨_,_,_,_,rfl⟩
  . rintro Z ⟨x3,x4,x5,x6,rfl⟩;walk_at"w";rw[aas xL,aas xL];exact⟨_,ag (ag aD),h a⟩
def i4:FS:=λls js=>∃p q:Rat,ls=[.d (Wz p),.d (Wz q)]/\RB 4400 p/\RB 4400 q/\q≠0/\js (.d (Wz (p / q))) ls
def pX:W Fl:=(a9 (av d8 (aq (bz (au bp (au aE (ai 0) (wC (.int 0))) (au aE (ai 1) (wC (.int 1))))) (aq (bz (au bp (au aE (ai 0) (wC (.int 1))) (au aE (ai 1) (wC (.int 0))))) aC))))
theorem z7:ab4 2 0 i4 pX:=by
 rintro ls js - ⟨p,q,rfl,hp,hq,h0,h⟩;walk_at"pX";refine⟨hp.bn xp,hq.bd xp,hp.bd xp,hq.bn xp,_,_,rfl,abw (lU p) (Ba h0),?_,_,ag (ag aD),?_⟩
 . rw[aaV,Z4];exact k5 (bc hp.2 hq.1) (ZN xp xp)
 . rw[EK p h0];exact h
def k7:FS:=λls js=>∃(R:aB)(ps:List Rat),ls=[.d (aI R),.d (.lst (ps.map Wz))]/\R.Ok/\ps.length=R.asks.length/\LB R ps/\js (.d (Wz (Qg R ps))) ls
def tJ:W Fl:=(aV (br 5 (bz (av i4 (aq (ai 3) (aq (ai 4) aC)))))
  (Wj (aM (av du (aq (ai 2) (aq (ai 5) aC)))) (br 2 (ai 5)) bF))
def sE:W Fl:=(aV (br 2 (lz (aq (wC (.int 0)) (aq (wC (.int 1)) aC))))
  (aV (oO (Q9 (av k6 (aq (ai 0) (aq (ai 1) aC))) (au aE (ai 0) (wC (.int 0)))) (eF [3,4]) tJ)
  (a9 (jD 2))))
theorem B3:ab4 2 4 k7 sE:=by
 rintro ls js - ⟨R,ps,rfl,hR,hl,hb,h⟩;have hfew:=hR.few;walk_at"sE";refine⟨xp,R,ps,rfl,hR,hl,hb,λc2=>?_⟩;walk_at"w";rw[Ff,IV];have lb:∀t,RB 4100 (cm R.n R.asks ps t):=λt=>hb.all hl t;refine eI (enc:=λ(t:Nat)=>D.tup [Wz (cm R.n R.asks ps t),Wz (R.room t)]) (List.range R.n) (λpre Z=>∃x3 x4 x5,Z=[.d (aI R),.d (.lst (ps.map Wz)),.d (Wz (Gn (aO R ps) pre)),x3,x4,x5]/\RB 4170 (Gn (aO R ps) pre)) _ ⟨_,_,_,rfl,RB.zero.mono xp⟩ ?_ ?_
 .
  rintro pre t suf Z hsp ⟨x3,x4,x5,rfl,hm⟩ Q h1 h2 h3 h4;have ht:t<R.n:=ZT.mp (by rw[hsp];simp);obtain⟨r1,r2⟩:=dY hR ht;have sb:RB 4170 (aO R ps t):=((lb t).div r2 (by grind)).mono xp;rw[LY]at h1;walk_at"tJ";refine⟨_,_,rfl,(lb t).mono xp,r2.mono xp,(by grind),?_⟩;have es:cm R.n R.asks ps t / R.room t=aO R ps t:=rfl;rw[es];walk_at"w";refine⟨_,_,rfl,hm.mono xp,sb.mono xp,?_⟩;walk_at"w";split
  . rename_i hlt;rw[if_pos hlt]at h1;exact h1 _ ⟨_,_,_,rfl,sb⟩
  . rename_i hlt;rw[if_neg hlt]at h1;exact h1 _ ⟨_,_,_,rfl,hm⟩
 . rintro Z ⟨x3,x4,x5,rfl,hm⟩;walk_at"w";exact⟨_,ag (ag aD),h⟩
def fb:FS:=λls js=>∃(c:Nat×Nat)(i j:Nat),ls=[.d (dR c),.d (.int i),.d (.int j)]/\js (.d (.bl (apart c i j))) ls
def mU:W Fl:=(a9 (au um (uV uR Ht (au aE (ai 0) (wC (.int 0))) (ai 1) (au aE (ai 0) (wC (.int 1)))) (uV uR Ht (au aE (ai 0) (wC (.int 0))) (ai 2) (au aE (ai 0) (wC (.int 1))))))
theorem xT:ab4 3 0 fb mU:=by
 rintro ls js - ⟨c,i,j,rfl,h⟩;walk_at"mU";have w1:∀p:Nat,fS c p=decide ((c.1:Int)<p/\(p:Int)<=c.2):=λp=>by unfold fS;rw[abb];omega
 unfold apart at h;rw[w1,w1]at h;by_cases a1:(c.1:Int)<i<;>by_cases a2:(c.1:Int)<j<;>by_cases b1:(i:Int)<=c.2<;>by_cases b2:(j:Int)<=c.2
 all_goals
  simp only[a1,a2,b1,b2,aaX,aa3,true_and,false_and,and_self,abX,abK,not_true_eq_false,not_false_eq_true]at h ⊢;exact⟨_,ag (ag (ag aD)),h⟩
def fR:FS:=λls js=>∃(R:aB)(c:Nat×Nat),ls=[.d (aI R),.d (dR c)]/\R.Ok/\js (.d (Wz (bH R.asks c))) ls
def mV:W Fl:=(Wj (aM (av fb (aq (ai 1) (aq (ai 4) (aq (ai 5) aC))))) (br 2 (av cX (aq (ai 2) (aq (ai 6) aC)))) bF)
def k8:W Fl:=(aV (br 2 (lz (aq (wC (.int 0)) (aq (wC (.int 1)) aC))))
  (aV (oO (qY (au aE (ai 0) (wC (.int 1)))) (eF [3,4,5,6]) mV)
  (a9 (jD 2))))
theorem wN:ab4 2 5 fR k8:=by
 rintro ls js - ⟨R,c,rfl,hR,h⟩;have hfew:=hR.few;walk_at"k8";refine⟨xp,?_⟩;refine eI (enc:=lV) R.asks (λpre Z=>∃(q:Rat)(x3 x4 x5 x6:L),Z=[.d (aI R),.d (dR c),.d (Wz q),x3,x4,x5,x6]/\q=bH pre c) _ ⟨0,_,_,_,_,rfl,rfl⟩ ?_ ?_
 .
  rintro pre A suf Z hsp ⟨q,x3,x4,x5,x6,rfl,hq⟩ Q h1 h2 h3 h4;have hmA:A∈R.asks:=by rw[hsp];simp
  have hqb:RB 1546 q:=by rw[hq];refine yo hR (λa ha=>by rw[hsp];simp[ha]) ?_ c;have:=congrArg List.length hsp;rw[aaK,aa8]at this;omega
  have hA:ke R.n A:=hR.ask A (by rw[hsp];simp);have b0:pre.length<20:=by have:=congrArg List.length hsp;rw[aaK,aa8]at this;omega
  walk_at"mV";refine⟨c,A.one,A.other,rfl,?_⟩;walk_at"w"
  have e1:bH (pre++[A]) c=if apart c A.one A.other=true then q+A.size else q:=by
   unfold bH at hq ⊢;rw[List.filter_append,aaW,hq];split
   . rename_i e;rw[aao,if_pos e];exact sT _ _
   . rename_i e;rw[aao,if_neg e];simp
  cases e:apart c A.one A.other
  . rw[e]at e1;walk_at"w";refine h1 _ ⟨q,_,_,_,_,rfl,e1.symm⟩
  . rw[e]at e1;walk_at"w";refine wM (hqb.mono xp) ((hR.rb hmA).mono xp) ?_;walk_at"w";refine h1 _ ⟨_,_,_,_,_,rfl,e1.symm⟩
 . rintro Z ⟨q,x3,x4,x5,x6,rfl,hq⟩;walk_at"w";rw[hq];exact⟨_,ag (ag aD),h⟩
def fc:FS:=λls js=>∃(R:aB)(c:Nat×Nat),ls=[.d (aI R),.d (dR c)]/\R.Ok/\bN R.n c/\js (.d (Wz (ba R c))) ls
def mW:W Fl:=(a9 (av i4 (aq (bz (av fR (aq (ai 0) (aq (ai 1) aC)))) (aq (bz (av cX (aq (au aE (au aE (ai 0) (wC (.int 0))) (au aE (ai 1) (wC (.int 0)))) (aq (au aE (au aE (ai 0) (wC (.int 0))) (au aE (ai 1) (wC (.int 1)))) aC)))) aC))))
theorem xU:ab4 2 0 fc mW:=by
 rintro ls js - ⟨R,c,rfl,hR,hc,h⟩;have h1:c.1<R.n:=by have:=hc.1;have:=hc.2;omega
 obtain⟨r1,r2⟩:=dP hR hc;walk_at"mW";refine⟨R,c,rfl,hR,?_⟩;walk_at"w";refine⟨_,yZ h1,?_⟩;walk_at"w";refine⟨_,yZ hc.2,?_⟩;refine wM ((dY hR h1).2.mono xp) ((dY hR hc.2).2.mono xp) ?_;walk_at"w";exact⟨_,_,rfl,(jJ hR c).mono xp,r2.mono xp,(show gZ R c≠0 by grind),_,ag (ag aD),h⟩
def dJ:FS:=λls js=>∃(R:aB),ls=[.d (aI R),.d (Wz (bB R).1),.d (.lst ((bY R (bB R).1).map Wz)),.d (dR (bB R).2)]/\yC R/\js (.d (.bl true)) ls
def gm:W L:=(ai 3)
def d9:W Fl:=(aV (br 4 (fj 4 [] (qY (au aE (ai 0) (wC (.int 1)))) (eF [0,1,2,3]) dO gm))
  (aV (br 5 (bz (av k7 (aq (ai 0) (aq (ai 4) aC)))))
  (aV (Wj (aM (au um (av eQ (aq (ai 0) (aq (lz (aq (ai 5) (aq (ai 4) (aq (ai 3) aC)))) aC))) (au qV (ai 5) (ai 1)))) (a9 (wC (.bl false))) bF)
  (a9 (au qV (av eQ (aq (ai 0) (aq (lz (aq (ai 1) (aq (ai 2) (aq (lz (aq (wC (.int 0)) (aq (wC (.int 0)) aC))) aC)))) aC))) (au qV (au aE (ai 1) (wC (.int 0))) (wC (.int 0))))))))
theorem yC.tt{R:aB}(h:yC R):∀a∈R.asks,RB 60 a.size:=λa ha=>by obtain⟨m,e,hm⟩:=h.sz a ha;rw[e];exact NF (Nat.lt_trans hm xp) xp
theorem J8{R:aB}(hR:R.Ok):eK (bX R (R.asks.map (·.size))) (R.asks.map (·.size)).length=none:=by
 refine jK.mpr λk hk=>?_;have hk':k<R.asks.length:=by simpa using hk
 have e:(R.asks.map (·.size)).getD k 0=R.asks[k].size:=by rw[tu,ZZ,gV hk'];rfl
 have e2:R.sz k=R.asks[k].size:=e;have:=(hR.ask _ (ZM hk')).size;unfold bX;rw[e,e2,ZP (abo.mpr this),ZP (abo.mpr abj)];rfl
theorem mX:ab4 4 2 dJ d9:=by
 rintro ls js - ⟨R,rfl,hG,h⟩;have hR:=hG.ok;obtain⟨g1,g2,g3,g4⟩:=kf hR;walk_at"d9";refine⟨ZR hR.few xp,Fp (h:=λa=>Wz a.size) R.asks _ _ _ _ _ (λa ha Q hQ=>?_) λl1 l2 l3 l4 a1=>?_⟩
 . walk_at"gm";exact hQ
 rw[aa5,show(R.asks.map λa=>Wz a.size)=(R.asks.map (·.size)).map Wz by rw[aag];rfl];have hl:(R.asks.map (·.size)).length=R.asks.length:=ZL _;have hn:=J8 hR;have hb:LB R (R.asks.map (·.size)):=LB.of hR hG.tt (c:=60) (λp hp=>by obtain⟨a,ha,rfl⟩:=ZW.mp hp;exact hG.tt a ha) xp;have et:=Mi hR λt ht=>Mh hR hl hn ht;refine⟨R,_,rfl,hR,hl,hb,?_⟩;walk_at"w";refine⟨xp,R,_,rfl,hR,λa b c e=>by cases e;exact sU.of hb,?_⟩;rw[vw hl hn g1,<- et,<- g2];walk_at"w";rw[if_neg (by simp[eq_comm])];have hq:=(kg hR).mono (show 1667<=1750 by decide);have hl2:=gL R (bB R).1;have hn2:=yr hR hq g3;refine⟨xp,xp,R,_,rfl,hR,λa b c e=>by cases e;exact sU.of (LB.send hR hq g3),?_⟩;have n0:bN R.n (0,0):=⟨ZY _,by have:=hR.lo;show 0<R.n;omega⟩;rw[show D.tup [D.int 0,D.int 0]=dR (0,0)from rfl,vw hl2 hn2 n0,Fn hR (yq hR hq g3),y3];walk_at"w"
 have e0:decide ((0:Rat)=(bB R).1)=decide ((bB R).1.num=0):=by
  by_cases z:(bB R).1=0
  . rw[z];decide
  . rw[ZP (λq=>z q.symm),ZP (λq=>z (Rat.num_eq_zero.mp q))]
 rw[e0];have e1:decide ((decide True && decide ((bB R).1.num=0))=decide ((bB R).1.num=0))=true:=by simp
 rw[e1];exact⟨_,ag (ag (ag (ag aD))),h⟩
def ff:FS:=λls js=>∃(R:aB),ls=[.d (aI R),.d (Wz (bB R).1)]/\R.Ok/\js (.d (.bl true)) ls
def pY:W L:=(ai 0)
def ik:W Fl:=(a9 (au qV (HV 3 (fj 1 [2] (qY (ai 3)) (aU 0) (aM (av du (aq (au aE (ai 0) (wC (.int 0))) (aq (au aE (ai 1) (wC (.int 1))) aC)))) pY)) (AO aC)))
def ip:W Fl:=(Wj (aM (av fb (aq (lz (aq (ai 4) (aq (ai 5) aC))) (aq (wC (.int 0)) (aq (wC (.int 1)) aC))))) (aV (br 6 (bz (av cX (aq (au aE (au aE (ai 0) (wC (.int 0))) (ai 4)) (aq (au aE (au aE (ai 0) (wC (.int 0))) (ai 5)) aC)))))
  (AM (Oi 3 (AO (aq (bz (av gN (aq (bz (av eY (aq (ai 1) (aq (ai 6) aC)))) (aq (bz (av fR (aq (ai 0) (aq (lz (aq (ai 4) (aq (ai 5) aC))) aC)))) aC)))) (aq (lz (aq (ai 4) (aq (ai 5) aC))) aC)))))) bF)
def iq:W Fl:=(oO (F4 (ai 4) (aZ b8 (aq (au aE (ai 0) (wC (.int 0))) aC))) (aU 5) ip)
def ir:W Fl:=(aV (Wj (Ey 3 (aM (au (Re true) (AO (aq (au aE (ai 2) (wC (.int 1))) (aq (au aE (ai 2) (wC (.int 2))) aC))) (ai 3)))) (a9 (wC (.bl false))) bF)
  ik)
def iu:W Fl:=(aV (oO (oN (aZ b8 (aq (au aE (ai 0) (wC (.int 0))) aC))) (aU 4) iq)
  ir)
def iw:W Fl:=(aV (br 3 (AO aC))
  iu)
def iy:W Fl:=(aV (Wj (Wg (aM (au um (au aE (ai 2) (wC (.int 0))) (wC (.str "most")))) (Wg (aM (au um (aZ b8 (aq (ai 2) aC)) (wC (.int 3)))) (oJ (aM (av fb (aq (au aE (ai 2) (wC (.int 2))) (aq (wC (.int 0)) (aq (wC (.int 1)) aC)))))))) (a9 (wC (.bl false))) bF)
  iw)
def fH:W Fl:=(aV (br 2 (bz (av mF (aq (ai 0) (aq (wC (.int 0)) (aq (wC (.int 1)) (aq (ai 1) aC)))))))
  iy)
theorem B4(q:Rat)(c:Nat×Nat):WA 3 (.lst [Wz q,dR c])=true:=by simp[WA,yh,yk,dR]
theorem DV(q:Rat)(c:Nat×Nat):(Wo (.lst [Wz q,dR c])).depth<=62:=ZR (uU 3 _ (B4 q c)).2 xp
theorem NG{α β:Type}:∀as:List α,as.filterMap (λ_=>(none:Option β))=[]
 |[]=>rfl
 |a::as=>by rw[aaE,NG as]
theorem Sd{R:aB}{k:Nat}(h:k<R.n):VT (R.rooms.map Wz) (k:Int)=some (Wz (R.room k)):=by rw[aW h,aB.room,tu,gV h];rfl
noncomputable def Kv(R:aB)(c:Nat×Nat):D:=.lst [Wz (lX R (bB R).1 c),dR c]
theorem z8(R:aB)(c:Nat×Nat):WA 3 (Kv R c)=true:=B4 _ c
theorem GI(R:aB)(c:Nat×Nat):(Wo (Kv R c)).depth<=62:=DV _ c
theorem J9{n i j:Nat}(hi:i<n)(hj:j<n)(h:i≠j):vV n i j≠[]:=by
 intro e;have key:∀c,bN n c->apart c i j=true->False:=λc h1 h2=>by have:c∈vV n i j:=aam.mpr ⟨iP.mpr h1,h2⟩;rw[e]at this;cases this
 rcases Nat.lt_or_gt_of_ne h with hl|hl
 . refine key (i,j) ⟨by show i<=j;omega,hj⟩ ?_;unfold apart fS;simp[hl]
 . refine key (j,i) ⟨by show j<=i;omega,hi⟩ ?_;unfold apart fS;simp[hl]
theorem pZ:ab4 2 5 ff fH:=by
 rintro ls js - ⟨R,rfl,hR,h⟩;have lo:=hR.lo;have hi:=hR.hi;obtain⟨g1,g2,g3,g4⟩:=kf hR;have hq:=(kg hR).mono (show 1667<=1750 by decide);walk_at"fH";refine⟨R,0,1,(bB R).1,rfl,hR,hq,?_⟩;rw[if_neg (λz=>Rat.lt_irrefl z)];obtain⟨p,e,p1,p2,p3⟩:=LQ R (bB R).1 (vV R.n 0 1) (J9 xL xL xp);obtain⟨p1a,p1b⟩:=aam.mp p1;have pc:bN R.n p.2:=iP.mp p1a;rw[e];simp only[IX];walk_at"iy";refine⟨bZ (n:=0) y_ xp,bZ (n:=0) y_ xp,?_⟩;rw[if_neg (by simp),if_neg (by decide)];refine⟨p.2,0,1,rfl,?_⟩;rw[p1b];walk_at"w";walk_at"iw";refine⟨xp,λa1=>?_⟩;walk_at"iu";rw[aak,iO];refine⟨⟨xL,xL⟩,?_⟩;refine cJ _ (λj Z=>∃(cs:List (Nat×Nat))(x4 x5 x6:L),Z=[.d (aI R),.d (Wz (bB R).1),.d (.tup [.str "most",Wz p.1,dR p.2]),.own a1 (cs.map (Kv R)),x4,x5,x6]/\(oS x4 && (oS x5 && oS x6))=true/\cs.length<=12*j/\∀ c,c∈cs↔(bN R.n c/\apart c 0 1=true)/\c.1 < j) _ ⟨[],_,_,_,rfl,rfl,aaN _,λc=>⟨λz=>(by cases z),λz=>absurd z.2 (Nat.not_lt_zero _)⟩⟩ ?_ ?_
 .
  rintro j x Z hj ⟨cs,x4,x5,x6,rfl,hfl,b0,hcs⟩ Q h1 h2 h3 h4;have hj':j<R.n:=by have:=(so.mp hj).1;simpa using this
  obtain rfl:x=.int (j:Int):=by rw[ZZ,aau hj']at hj;exact(aaf hj).symm
  walk_at"iq";rw[show((R.n:Int)-(j:Int)).toNat=R.n-j by omega];refine⟨⟨xL,xL⟩,⟨xL,xL⟩,?_⟩;refine cJ _ (λi Z=>∃(cs:List (Nat×Nat))(x5 x6:L),Z=[.d (aI R),.d (Wz (bB R).1),.d (.tup [.str "most",Wz p.1,dR p.2]),.own a1 (cs.map (Kv R)),.d (.int (j:Int)),x5,x6]/\(oS x5 && oS x6)=true/\cs.length<=12*j+i/\∀ c,c∈cs↔(bN R.n c/\apart c 0 1=true)/\(c.1 < j∨c.1=j/\c.2 < j+i)) _ ⟨cs,_,_,rfl,(abt.mp hfl).2,b0,λc=>?_⟩ ?_ ?_
  . rw[hcs c];refine⟨λz=>⟨z.1,.inl z.2⟩,λz=>⟨z.1,?_⟩⟩;have:=z.1.1.1;omega
  .
   rintro i x Z hi ⟨cs,x5,x6,rfl,hfl,b0,hcs⟩ Q2 g1' g2' g3' g4';have hi':i<R.n-j:=by have:=(so.mp hi).1;simpa[q5]using this
   obtain rfl:x=.int ((j+i:Nat):Int):=by unfold q5 at hi;rw[ZZ,aau hi']at hi;exact(aaf hi).symm.trans (by rw[Int.natCast_add])
   have hc:bN R.n (j,j+i):=⟨aba _ _,by show j+i<R.n;omega⟩;walk_at"ip";refine⟨xp,(j,j+i),0,1,rfl,?_⟩;obtain⟨f1,f2⟩:=vh hR hq hc;obtain⟨r0,rb⟩:=dP hR hc
   cases ea:apart (j,j+i) 0 1 with
   | false =>
    walk_at"w";refine g1' _ ⟨cs,_,_,rfl,by rw[Z5]at hfl ⊢;exact⟨rfl,hfl.2⟩,xL,λc=>?_⟩;rw[hcs c];refine⟨λz=>⟨z.1,xL⟩,λz=>⟨z.1,?_⟩⟩;rcases z.2 with g|⟨g,g'⟩
    . exact .inl g
    .
     refine .inr ⟨g,?_⟩;rcases Nat.lt_or_ge c.2 (j+i)with q|q
     . exact q
     . have:c=(j,j+i):=Prod.ext g (by show c.2=_;omega);rw[this,ea]at z;exact absurd z.1.2 xp
   | true =>
    walk_at"w";have o1:=dY hR (t:=j) xL;have o2:=dY hR (t:=j+i) xL;refine⟨_,Sd xL,_,Sd xL,R.room j,R.room (j+i),rfl,o1.2.mono xp,o2.2.mono xp,?_,?_⟩
    .
     have e:(2:Nat)^9000=2^60*2^8940:=by rw[<- abJ]
     rw[e];exact Nat.mul_lt_mul_of_lt_of_le o1.2.2 (ZR (aa1 o2.2.2) (ZN xp xp)) (Nat.pow_pos xp)
    walk_at"w";refine⟨(bB R).1,gZ R (j,j+i),rfl,hq.mono xp,rb.mono xp,?_⟩;walk_at"w";refine⟨xp,R,(j,j+i),rfl,hR,?_⟩;walk_at"w";refine⟨_,_,rfl,f1.mono xp,(jJ hR _).mono xp,?_⟩;walk_at"w";refine⟨xp,xp,λa3=>⟨ZS b0 (k5 (show 12*j+i<200 by omega) xp),g1' _ ⟨cs++[(j,j+i)],_,_,by rw[aaW];rfl,?_,by rw[aaK];show cs.length+1<=_;omega,λc=>?_⟩⟩⟩
    . rfl
    rw[aap,hcs c,aaS];constructor
    .
     rintro (z|rfl)
     . exact⟨z.1,xL⟩
     . exact⟨⟨hc,ea⟩,.inr ⟨rfl,by show j+i<_;omega⟩⟩
    .
     rintro⟨z1,z2⟩;by_cases q:c=(j,j+i)
     . exact .inr q
     .
      refine .inl ⟨z1,?_⟩;rcases z2 with g|⟨g,g'⟩
      . exact .inl g
      .
       refine .inr ⟨g,?_⟩;rcases Nat.lt_or_ge c.2 (j+i)with q2|q2
       . exact q2
       . exact absurd (Prod.ext g (by show c.2=_;omega)) q
  .
   rintro Z ⟨cs,x5,x6,rfl,hfl,b0,hcs⟩;have el:(q5 (j:Int) (R.n-j)).length=R.n-j:=by simp[q5]
   rw[el]at b0 hcs;refine h1 _ ⟨cs,_,_,_,rfl,hfl,xL,λc=>?_⟩;rw[hcs c];refine⟨λz=>⟨z.1,xL⟩,λz=>⟨z.1,?_⟩⟩;have:=z.1.1.2;omega
 .
  rintro Z ⟨cs,x4,x5,x6,rfl,hfl,b0,hcs⟩;rw[ZL,aac]at b0 hcs;walk_at"ir";have er:D.lst [Wz p.1,dR p.2]=Kv R p.2:=by unfold Kv;rw[<- p2]
  rw[er];have hm:p.2∈cs:=(hcs p.2).mpr ⟨⟨pc,p1b⟩,ZS pc.1 pc.2⟩;have ha:Hv (Kv R p.2) (cs.map (Kv R))=true:=by unfold Hv;rw[List.any_eq_true];exact⟨_,ZW.mpr ⟨_,hm,rfl⟩,Ew (z8 R p.2)⟩
  refine⟨hfl,xp,λ_=>⟨bZ (z8 R _) xp,GI R _,λz hz=>?_,?_⟩⟩
  . obtain⟨c,_,rfl⟩:=ZW.mp hz;exact bZ (z8 R c) xp
  rw[ha];walk_at"w";walk_at"ik";refine⟨hfl,ZR b0 (ZR (show 12*R.n<=144 by omega) xp),?_⟩;refine fZ (enc:=Kv R) (h:=λ_=>none) cs [] _ (λc hc Q q=>?_) λl a=>?_
  .
   obtain⟨⟨c1,c2⟩,_⟩:=(hcs c).mp hc;have hn:=p3 c (aam.mpr ⟨iP.mpr c1,c2⟩);rw[p2]at hn;walk_at"Kv";refine⟨_,_,rfl,(vh hR hq c1).2.mono xp,?_,?_⟩
   . rw[p2];exact(vh hR hq pc).2.mono xp
   rw[p2,ZP hn];walk_at"w";rw[p2]at q;exact q
  rw[NG,aa5];refine⟨rfl,rfl,xp,λ_=>⟨vc [],vc [],?_⟩⟩;rw[show Wp (.lst []) (.lst [])=true by decide +kernel];exact⟨_,ag (ag aD),h⟩
def k9:FS:=λls js=>∃(R:aB),ls=[.d (aI R),.d (Wz (bB R).1)]/\R.Ok/\js (.d (dR (bB R).2)) ls
def oC:W Fl:=(Wj (aM (au qV (av fc (aq (ai 0) (aq (lz (aq (ai 2) (aq (ai 3) aC))) aC))) (ai 1))) (a9 (lz (aq (ai 2) (aq (ai 3) aC)))) bF)
def oD:W Fl:=(oO (F4 (ai 2) (aZ b8 (aq (au aE (ai 0) (wC (.int 0))) aC))) (aU 3) oC)
def mY:W Fl:=(aV (oO (oN (aZ b8 (aq (au aE (ai 0) (wC (.int 0))) aC))) (aU 2) oD)
  (a9 (wC .non)))
def P2(c d:Nat×Nat):Prop:=c.1<d.1∨(c.1=d.1/\c.2<d.2)
theorem MN(n:Nat):(lW n).Pairwise P2:=by
 unfold lW;rw[List.pairwise_flatMap];refine⟨λi _=>?_,?_⟩
 . rw[List.pairwise_map];exact List.pairwise_lt_range.imp λh=>.inr ⟨rfl,by show i+_<i+_;omega⟩
 . refine List.pairwise_lt_range.imp λh x hx y hy=>?_;obtain⟨a,_,rfl⟩:=ZW.mp hx;obtain⟨b,_,rfl⟩:=ZW.mp hy;exact .inl h
theorem sF(R:aB):∀(cs:List (Nat×Nat))(acc:Rat×(Nat×Nat)),cs.foldl (cG R) acc=acc∨(acc.1<(cs.foldl (cG R) acc).1/\∃pre suf,cs=pre++(cs.foldl (cG R) acc).2::suf/\∀c∈pre,ba R c<(cs.foldl (cG R) acc).1)
 |[],acc=>.inl rfl
 | c::cs,acc=>by
  rw[aaU];by_cases hc:acc.1<ba R c
  .
   rw[Bi hc];rcases sF R cs (ba R c,c)with h|⟨h0,pre,suf,h3,h4⟩
   . rw[h];exact .inr ⟨hc,[],cs,rfl,λx hx=>by cases hx⟩
   .
    refine .inr ⟨by grind,c::pre,suf,by rw[abV,<- h3],λx hx=>?_⟩;rcases ZU.mp hx with rfl|hx
    . exact h0
    . exact h4 x hx
  .
   rw[Bj hc];rcases sF R cs acc with h|⟨h0,pre,suf,h3,h4⟩
   . exact .inl h
   .
    refine .inr ⟨h0,c::pre,suf,by rw[abV,<- h3],λx hx=>?_⟩;rcases ZU.mp hx with rfl|hx
    . grind
    . exact h4 x hx
theorem GJ{R:aB}(hR:R.Ok){c:Nat×Nat}(hc:bN R.n c)(hl:P2 c (bB R).2):ba R c≠(bB R).1:=by
 rcases sF R (lW R.n) (0,(0,0))with h|⟨_,pre,suf,h1,h2⟩
 .
  have e:(bB R).2=(0,0):=by unfold bB;rw[h]
  rw[e]at hl;unfold P2 at hl;omega
 .
  have hm:=iP.mpr hc;have hp:=MN R.n;have e:(bB R)=(lW R.n).foldl (cG R) (0,(0,0)):=rfl;rw[<- e]at h1 h2;rw[h1]at hm hp;rcases aap.mp hm with hm|hm
  . have:=h2 c hm;grind
  .
   obtain⟨_,hp,_⟩:=List.pairwise_append.mp hp;rcases ZU.mp hm with rfl|hm
   . unfold P2 at hl;omega
   . have:=(List.pairwise_cons.mp hp).1 c hm;unfold P2 at hl this;omega
theorem xV:ab4 2 2 k9 mY:=by
 rintro ls js - ⟨R,rfl,hR,h⟩;obtain⟨g1,g2,g3,g4⟩:=kf hR;have n12:=hR.hi;have hi2:(bB R).2.1<=(bB R).2.2/\(bB R).2.2<R.n:=g1;walk_at"mY";rw[aak,iO];refine⟨⟨xL,xL⟩,?_⟩;refine cJ _ (λj Z=>∃x2 x3,Z=[.d (aI R),.d (Wz (bB R).1),x2,x3]/\j<=(bB R).2.1) _ ⟨_,_,rfl,aaN _⟩ ?_ ?_
 .
  rintro j x Z hj ⟨x2,x3,rfl,hle⟩ Q h1 h2 h3 h4;have hj':j<R.n:=by have:=(so.mp hj).1;simpa using this
  obtain rfl:x=.int (j:Int):=by rw[ZZ,aau hj']at hj;exact(aaf hj).symm
  walk_at"oD";rw[show((R.n:Int)-(j:Int)).toNat=R.n-j by omega];refine⟨⟨xL,xL⟩,⟨xL,xL⟩,?_⟩;refine cJ _ (λi Z=>∃x3,Z=[.d (aI R),.d (Wz (bB R).1),.d (.int (j:Int)),x3]/\(j=(bB R).2.1->j+i<=(bB R).2.2)) _ ⟨_,rfl,λz=>by omega⟩ ?_ ?_
  .
   rintro i x Z hi ⟨x3,rfl,hle2⟩ Q2 g1' g2' g3' g4';have hi':i<R.n-j:=by have:=(so.mp hi).1;simpa[q5]using this
   obtain rfl:x=.int ((j+i:Nat):Int):=by unfold q5 at hi;rw[ZZ,aau hi']at hi;exact(aaf hi).symm.trans (by rw[Int.natCast_add])
   have hc:bN R.n (j,j+i):=⟨aba _ _,by show j+i<R.n;omega⟩;walk_at"oC";refine⟨xp,R,(j,j+i),rfl,hR,hc,?_⟩;walk_at"w";by_cases c1:ba R (j,j+i)=(bB R).1
   .
    rw[if_pos c1];have e:(j,j+i)=(bB R).2:=by have nl:¬P2 (j,j+i) (bB R).2:=λz=>GJ hR hc z c1;unfold P2 at nl;have nl:¬(j<(bB R).2.1∨j=(bB R).2.1/\j+i<(bB R).2.2):=nl;refine Prod.ext (by show j=_;omega) ?_;have:=hle2 xL;show j+i=_;omega
    have e2:D.tup [.int (j:Int),.int ((j+i:Nat):Int)]=dR (bB R).2:=by rw[<- e];rfl
    rw[e2];exact⟨xp,g4' _ _ (h4 _ _ ⟨_,ag (ag aD),h⟩)⟩
   .
    rw[if_neg c1];refine g1' _ ⟨_,rfl,λz=>?_⟩;have:=hle2 z;rcases Nat.lt_or_ge (j+i) (bB R).2.2 with g|g
    . omega
    . exact absurd (by rw[show(j,j+i)=(bB R).2 from Prod.ext z (by show j+i=_;omega)];exact g2.symm) c1
  .
   rintro Z ⟨x3,rfl,hle2⟩;have hle2:j=(bB R).2.1->j+(R.n-j)<=(bB R).2.2:=by simpa[q5]using hle2
   refine h1 _ ⟨_,_,rfl,?_⟩;by_cases z:j=(bB R).2.1
   . have:=hle2 z;omega
   . omega
 . rintro Z ⟨x2,x3,rfl,hle⟩;rw[ZL,aac]at hle;omega
def fs_law:FS:=λls js=>∃ns:List Int,ls=[.d (.lst (ns.map .int))]/\ns.length<=63/\js (.d (.bl true)) ls
theorem Ka{ns:List Int}(hl:ns.length<=63):fs_law [.d (.lst (ns.map .int))] (λr _=>r=.d (.bl true)):=⟨ns,rfl,hl,rfl⟩
def Kb:W Fl:=(a9 (iG (au qV (au aE (ai 6) (wC (.int 0))) (wC (.str "cut"))) (av du (aq (bz (av eY (aq (ai 3) (aq (lz (aq (wC (.int 999)) (aq (wC (.int 1000)) aC))) aC)))) (aq (bz (av fc (aq (ai 1) (aq (au aE (ai 6) (wC (.int 1))) aC)))) aC)))))
def Kc:W L:=(au aE (au aE (ai 0) (wC (.int 3))) (wC (.int 0)))
def Kd:W Fl:=(aV (br 6 (bz (av se (aq (ai 1) (aq (bz (av eY (aq (ai 3) (aq (lz (aq (wC (.int 999)) (aq (wC (.int 1000)) aC))) aC)))) aC)))))
  Kb)
def Ke:W Fl:=(aV (Wj (aM (au qV (au aE (ai 3) (wC (.int 0))) (wC (.int 0)))) (a9 (Sj (au qV (au aE (ai 1) (wC (.int 1))) (AO aC)) (au qV (aZ OA (aq (bz (fj 1 [] (qY (au aE (ai 1) (wC (.int 1)))) (aU 0) dO Kc)) aC)) (wC (.int 0))))) bF)
  Kd)
def Kg:W Fl:=(aV (Wj (aM (au EF (av cC (aq (ai 1) (aq (ai 4) (aq (bz (av jB (aq (ai 1) (aq (ai 4) aC)))) aC)))) (wC (.bl true)))) (a9 (wC (.bl false))) bF)
  Ke)
def Kh:W Fl:=(aV (Wj (Wg (oJ (aM (av ff (aq (ai 1) (aq (ai 3) aC))))) (aM (au um (av b9 (aq (ai 1) aC)) (lz (aq (ai 3) (aq (bz (av k9 (aq (ai 1) (aq (ai 3) aC)))) aC)))))) (a9 (wC (.bl false))) bF)
  Kg)
def Ki:W Fl:=(aV (Wj (Wg (aM (au EF (av eQ (aq (ai 1) (aq (ai 2) aC))) (wC (.bl true)))) (oJ (aM (av dJ (aq (ai 1) (aq (ai 3) (aq (ai 4) (aq (ai 5) aC)))))))) (a9 (wC (.bl false))) bF)
  Kh)
def Kj:W Fl:=(aV (Wj (Wg (oJ (aM (av e8 (aq (ai 1) (aq (ai 4) aC))))) (Wg (aM (au um (av k7 (aq (ai 1) (aq (ai 4) aC))) (ai 3))) (aM (au um (av fc (aq (ai 1) (aq (ai 5) aC))) (ai 3))))) (a9 (wC (.bl false))) bF)
  Ki)
def Kk:W Fl:=(aV (K1 [3,4,5] (ai 2))
  Kj)
def Kl:W Fl:=(aV (br 2 (bz (av mG (aq (ai 1) aC))))
  Kk)
def P4:W Fl:=(aV (br 1 (bz (av kZ (aq (ai 0) aC))))
  Kl)
theorem FJ:∀{qs:List Rat}{q:Rat},(∀q∈qs,0<=q)->q∈qs->q<=lL qs
 | x::qs,q,h,hm=>by
  have h1:=h x k4;have h2:=Dj λy hy=>h y (fI _ hy);rw[bo];rcases ZU.mp hm with rfl|hm
  . grind
  . have:=FJ (λy hy=>h y (fI _ hy)) hm;grind
theorem P5{R:aB}(hR:R.Ok)(z:(bB R).1=0):∀a∈R.asks,a.size=0:=λa ha=>by
 obtain⟨g1,g2,g3,g4⟩:=kf hR;have hA:=hR.ask a ha;have a1:=hA.one;have a2:=hA.other;have a3:=hA.ne
 obtain⟨c,hc,ap⟩:∃c,bN R.n c/\apart c a.one a.other=true:=by
  rcases Nat.lt_or_gt_of_ne a3 with hl|hl
  . refine⟨(a.one,a.other),⟨by show a.one<=a.other;omega,a2⟩,?_⟩;unfold apart fS;simp[hl]
  . refine⟨(a.other,a.one),⟨by show a.other<=a.one;omega,a1⟩,?_⟩;unfold apart fS;simp[hl]
 have hs:=g3 c hc;rw[z]at hs;obtain⟨r0,_⟩:=dP hR hc;have hr:gZ R c≠0:=by grind
 have e:bH R.asks c=ba R c*gZ R c:=by unfold ba;rw[Rat.div_mul_cancel hr]
 have h1:bH R.asks c<=0:=by rw[e];have:=Rat.mul_le_mul_of_nonneg_right hs (aby r0);rw[Rat.zero_mul]at this;exact this
 have h2:a.size<=bH R.asks c:=by unfold bH;refine FJ (λq hq=>?_) (ZW.mpr ⟨a,aam.mpr ⟨ha,ap⟩,rfl⟩);obtain⟨b,hb,rfl⟩:=ZW.mp hq;exact(hR.ask b (aam.mp hb).1).size
 have h3:=hA.size;grind
theorem P6{ps:List Rat}(h:ps.length<=20)(hb:∀p∈ps,RB 4100 p):Nn (.lst (ps.map Wz)):=by
 refine⟨λxs e=>?_,λxs i j e hm=>?_⟩
 . cases e;exact⟨by rw[ZL];omega,uv _ λq _=>yk 8 q⟩
 . cases e;obtain⟨p,hp,e⟩:=ZW.mp hm;have r:=hb p hp;unfold Wz at e;injection e with e;injection e with e1 e2;injection e1 with e1;injection e2 with e2;injection e2 with e2;rw[<- e1,<- e2];exact⟨k5 r.1 (ZN xp xp),by rw[Z4];exact k5 r.2 (ZN xp xp)⟩
theorem yC.sld{R:aB}(h:yC R):∃M,XA R (bY R (bB R).1) M:=by
 have hR:=h.ok;have hq:=(kg hR).mono (show 1667<=1750 by decide);obtain⟨g1,g2,g3,g4⟩:=kf hR;have ad:∀a∈R.asks,a.size.den=1:=λa ha=>by obtain⟨m,e,_⟩:=h.sz a ha;rw[e];rfl
 have rd:∀r∈R.rooms,r.den=1:=λr hr=>by obtain⟨m,e,_⟩:=h.rm r hr;rw[e];rfl
 obtain⟨r0,rb⟩:=dP hR g1;have hr:gZ R (bB R).2≠0:=by grind
 have qd:(bB R).1.den<=2^121:=by
  rw[g2];have hd:(bH R.asks (bB R).2).den∣1:=Dc xp _ λq hq=>by obtain⟨a,ha,rfl⟩:=ZW.mp hq;rw[ad a (aam.mp ha).1];exact abY _
  unfold ba;rw[<- EK _ hr];refine ZR (Eu (abw (lU _) (Ba hr))) ?_;rw[aaV,Z4,Nat.dvd_one.mp hd,Nat.one_mul];exact aa1 rb.1
 have cd:W6 R (bB R).1∣(bB R).1.den:=by
  refine LW λp hp=>?_;rcases aap.mp hp with hp|hp
  . obtain⟨a,ha,rfl⟩:=ZW.mp hp;rw[ad a ha];exact abY _
  . obtain⟨r,hr,rfl⟩:=ZW.mp hp;have:=vj (bB R).1 r;rw[rd r hr,Nat.mul_one]at this;exact this
 have c0:=Jj R (bB R).1;have cl:=ZR (aaY (Rat.den_pos _) cd) qd;have m0:0<a6 R (bB R).1:=by unfold a6;omega
 have m1:a6 R (bB R).1<2^1500:=by refine ZS (show a6 R (bB R).1<=2*2^121 by unfold a6;omega) ?_;decide +kernel
 have da:∀a∈R.asks,a.size.den∣a6 R (bB R).1:=λa ha=>by rw[ad a ha];exact abY _
 have dp:∀p∈bY R (bB R).1,p.den∣a6 R (bB R).1:=λp hp=>by obtain⟨j,hj,rfl⟩:=ZW.mp hp;exact rn (gK hR hq).1 (gb hR hq j)
 exact⟨_,⟨⟨hR,gL R _,Jn hR hq g3,_,m0,m1,da,dp⟩,m0,m1,da,dp⟩⟩
theorem P7:ab4 1 6 fs_law P4:=by
 rintro ls js - ⟨ns,rfl,hl,h⟩;walk_at"P4";refine⟨ns,rfl,λR hG=>?_⟩;have hR:=hG.ok;have hq:=(kg hR).mono (show 1667<=1750 by decide);obtain⟨g1,g2,g3,g4⟩:=kf hR;have few:=hR.few;have hl2:=gL R (bB R).1;have hn2:=yr hR hq g3;have hb2:=LB.send hR hq g3;have hp2:=yq hR hq g3;walk_at"Kl";refine⟨R,rfl,hR,λc=>?_⟩;walk_at"w";walk_at"Kk";walk_at"Kj";have hs:=sU.of hb2;refine⟨R,_,rfl,hR,P6 (by rw[hl2];exact few) hp2.rb,?_⟩;rw[vt hl2,hn2];walk_at"w";rw[if_neg (by decide)];refine⟨R,_,rfl,hR,hl2,hb2,?_⟩;walk_at"w";rw[Nk hR hp2];rw[if_neg (by simp)];refine⟨R,_,rfl,hR,g1,?_⟩;rw[<- g2];walk_at"w";rw[if_neg (by simp)];walk_at"Ki";refine⟨R,_,rfl,hR,λa b c e=>(by cases e;exact sU.of hb2),?_⟩;rw[vw hl2 hn2 g1,Fn hR hp2,<- g2,show(decide ((bB R).1=(bB R).1) && decide ((bB R).1=(bB R).1))=true by simp];walk_at"w";refine⟨R,rfl,hG,?_⟩;walk_at"w";walk_at"Kh";refine⟨R,rfl,hR,?_⟩;walk_at"w";refine⟨R,rfl,hR,?_⟩;walk_at"w";refine⟨R,rfl,hR,?_⟩;walk_at"w";have sg:dN (gP (bB R)):=bZ (n:=3) (by simp[gP,WA,yh,yk,dR]) xp;refine⟨xp,sg,sg,?_⟩;rw[show Wp (gP (bB R)) (.tup [Wz (bB R).1,dR (bB R).2])=true from Ew (n:=3) (by simp[gP,WA,yh,yk,dR]),if_neg (by decide)];walk_at"Kg";obtain⟨M,hD⟩:=hG.sld;refine⟨R,_,rfl,hD.ok,λa b os op ow=>?_⟩;walk_at"w";refine MM hD op ow ?_;walk_at"w";walk_at"Ke";by_cases z:(bB R).1.num=0
 .
  rw[if_pos z];refine⟨xp,λ_=>⟨bZ (n:=3) (by simp only[WA];exact uv _ λa ha=>OR (hR.ask a ha)) xp,vc [],?_⟩⟩;by_cases c1:Wp (.lst (R.asks.map lV)) (.lst [])=true
  . rw[if_pos c1];exact⟨_,ag aD,h⟩
  rw[if_neg c1];refine⟨ZR few xp,df (enc:=lV) (h:=λ_=>D.int 0) R.asks _ _ (λa ha Q hQ=>?_) λl a1=>?_⟩
  . walk_at"Kc";rw[P5 hR (Rat.num_eq_zero.mp z) a ha];exact hQ
  rw[aa5];have es:(R.asks.map λ_=>D.int 0)=(List.replicate R.asks.length (0:Int)).map D.int:=by rw[List.map_replicate];exact List.map_const' ..
  rw[es];refine⟨_,rfl,?_⟩;rw[show(List.replicate R.asks.length (0:Int)).sum=0 by simp];walk_at"w";rw[aaa True.intro];exact⟨_,ag aD,h⟩
 rw[if_neg z];walk_at"Kd"
 have e9:D.tup [D.int 999,D.int 1000]=Wz (999 / 1000:Rat):=by
  have h1:(999 / 1000:Rat).num=999:=by decide +kernel
  have h2:(999 / 1000:Rat).den=1000:=by decide +kernel
  unfold Wz;rw[h1,h2];rfl
 have rb9:RB 60 (999 / 1000:Rat):=⟨y_,y_⟩;have lt:(bB R).1*(999 / 1000:Rat)<(bB R).1:=by have:(bB R).1≠0:=λq=>z (by rw[q];rfl);grind
 have rbm:RB 1750 ((bB R).1*(999 / 1000:Rat)):=((kg hR).mul rb9).mono xp;rw[e9];refine⟨xp,_,_,rfl,hq.mono xp,rb9.mono xp,?_⟩;walk_at"w";refine⟨R,_,rfl,hR,rbm,λ_=>?_,λq=>absurd lt q⟩;walk_at"w";walk_at"Kb";refine⟨bZ (n:=0) y_ xp,bZ (n:=0) y_ xp,xp,?_⟩;rw[e9];refine⟨_,_,rfl,hq.mono xp,rb9.mono xp,?_⟩;walk_at"w";refine⟨R,_,rfl,hR,g1,?_⟩;rw[<- g2];walk_at"w";refine⟨_,_,rfl,rbm.mono xp,hq.mono xp,?_⟩;rw[aaa lt];exact⟨_,ag aD,h⟩
structure Tx (K:W.Frag) (mg:Str->Option Value) (ad:Nat->Addr) (fd:Nat->FuncData):Prop where
 acv:FX K mg "greatest_shared" fv (ad 0) (fd 0) ["one","other"]
 adf:FX K mg "least_common" ji (ad 1) (fd 1) ["one","other"]
 ach:FX K mg "is_whole" rE (ad 2) (fd 2) ["thing"]
 acL:FX K mg "is_number_below" fw (ad 3) (fd 3) ["thing","many"]
 acM:FX K mg "are_two_wholes" gw (ad 4) (fd 4) ["thing"]
 acw:FX K mg "is_ratio" rG (ad 5) (fd 5) ["thing"]
 aci:FX K mg "lowest" zt (ad 6) (fd 6) ["top","bottom"]
 adg:FX K mg "ratio" Do (ad 7) (fd 7) ["top","bottom"]
 acg:FX K mg "plus" JI (ad 8) (fd 8) ["one","other"]
 acd:FX K mg "minus" Dp (ad 9) (fd 9) ["one","other"]
 acx:FX K mg "times" Dq (ad 10) (fd 10) ["one","other"]
 acN:FX K mg "over" JJ (ad 11) (fd 11) ["one","other"]
 ab7:FX K mg "under" Dr (ad 12) (fd 12) ["one","other"]
 adh:FX K mg "greater" vD (ad 13) (fd 13) ["one","other"]
 adi:FX K mg "lesser" zu (ad 14) (fd 14) ["one","other"]
 acO:FX K mg "sum_of" zv (ad 15) (fd 15) ["some"]
 adj:FX K mg "is_cut" zw (ad 16) (fd 16) ["ring","thing"]
 acP:FX K mg "is_within" oY (ad 17) (fd 17) ["cut","place"]
 acy:FX K mg "parts_places" jj (ad 18) (fd 18) ["cut","one","other"]
 acQ:FX K mg "across" uD (ad 19) (fd 19) ["ring","cut"]
 acR:FX K mg "rooms_of" rH (ad 20) (fd 20) ["ring","cut"]
 acS:FX K mg "shown_by" rJ (ad 21) (fd 21) ["ring","cut"]
 acT:FX K mg "all_cuts" nq (ad 22) (fd 22) ["ring"]
 adk:FX K mg "cuts_apart" iR (ad 23) (fd 23) ["ring","one","other"]
 acp:FX K mg "greatest_cut" jk (ad 24) (fd 24) ["ring"]
 acz:FX K mg "is_way" zx (ad 25) (fd 25) ["thing"]
 adl:FX K mg "other_way" oZ (ad 26) (fd 26) ["way"]
 acA:FX K mg "ties_of" l7 (ad 27) (fd 27) ["ring","k","way"]
 acU:FX K mg "is_over" vF (ad 28) (fd 28) ["ring","k","way","tie"]
 adm:FX K mg "sent_over" o5 (ad 29) (fd 29) ["ring","sending","k","tie"]
 adn:FX K mg "load_of" qy (ad 30) (fd 30) ["ring","sending","tie"]
 ado:FX K mg "loads_of" nr (ad 31) (fd 31) ["ring","sending"]
 adp:FX K mg "strains_of" iS (ad 32) (fd 32) ["ring","sending"]
 adq:FX K mg "top_of" zy (ad 33) (fd 33) ["ring","sending"]
 ads:FX K mg "common_bottom" g5 (ad 34) (fd 34) ["some"]
 acV:FX K mg "in_units" nu (ad 35) (fd 35) ["some","units"]
 adt:FX K mg "weighed" l8 (ad 36) (fd 36) ["ring","top"]
 adu:FX K mg "still_across" fM (ad 37) (fd 37) ["ring","k","waiting","cut"]
 adv:FX K mg "most_on" vI (ad 38) (fd 38) ["ring","k","waiting","free"]
 adw:FX K mg "left_free" ku (ad 39) (fd 39) ["ring","k","free","part","rest"]
 acW:FX K mg "sent_one_by_one" fz (ad 40) (fd 40) ["ring","top"]
 adx:FX K mg "fitting" vK (ad 41) (fd 41) ["ring","top"]
 ady:FX K mg "left_across" kx (ad 42) (fd 42) ["ring","cut","top"]
 adz:FX K mg "most_more" o6 (ad 43) (fd 43) ["ring","one","other","top"]
 adA:FX K mg "first_wrong_part" eL (ad 44) (fd 44) ["ring","some"]
 adB:FX K mg "is_sending" iT (ad 45) (fd 45) ["ring","thing"]
 adC:FX K mg "are_ways" nv (ad 46) (fd 46) ["ring","thing"]
 adD:FX K mg "least_top" o7 (ad 47) (fd 47) ["ring"]
 adE:FX K mg "has_top" vL (ad 48) (fd 48) ["ring","thing","top"]
 adF:FX K mg "shows_top" o8 (ad 49) (fd 49) ["ring","thing","top"]
 acB:FX K mg "lets_least" l9 (ad 50) (fd 50) ["ring","thing"]
 acC:FX K mg "lesser_place" jm (ad 51) (fd 51) ["ring","k"]
 acX:FX K mg "greater_place" g6 (ad 52) (fd 52) ["ring","k"]
 adG:FX K mg "do_cross" rL (ad 53) (fd 53) ["ring","k","l"]
 acq:FX K mg "parted_in" ky (ad 54) (fd 54) ["ring","sending"]
 acD:FX K mg "first_side_by_side" dF (ad 55) (fd 55) ["ring","some"]
 acY:FX K mg "part_behind" kB (ad 56) (fd 56) ["part","way","amount"]
 acZ:FX K mg "slid_once" o9 (ad 57) (fd 57) ["sending","slide"]
 ac0:FX K mg "share_no_tie" fN (ad 58) (fd 58) ["ring","k","way","l","other"]
 adH:FX K mg "has_form_of_slide" d3 (ad 59) (fd 59) ["thing","asks"]
 ac1:FX K mg "not_sent" rM (ad 60) (fd 60) ["ring","sending","k","way"]
 ac2:FX K mg "most_slid" pf (ad 61) (fd 61) ["ring","sending","slide"]
 adI:FX K mg "is_slide" rN (ad 62) (fd 62) ["ring","sending","thing"]
 ac3:FX K mg "slid_by" vO (ad 63) (fd 63) ["ring","sending","thing"]
 adJ:FX K mg "ways_apart" ma (ad 64) (fd 64) ["ring","k","l"]
 adK:FX K mg "greatest_slide" gy (ad 65) (fd 65) ["ring","sending","k","l"]
 adL:FX K mg "slides_for" me (ad 66) (fd 66) ["ring","sending"]
 ac4:FX K mg "nearest_way" kC (ad 67) (fd 67) ["ask","part"]
 adM:FX K mg "keeps_whole_asks" eM (ad 68) (fd 68) ["ring","slid","parted","ways"]
 ac5:FX K mg "half_of_greatest" eN (ad 69) (fd 69) ["ring","some"]
 ac6:FX K mg "by_lesser_place" dh (ad 70) (fd 70) ["ring","some"]
 adN:Rn K "by_lesser_place" (fd 70) dh
 acE:FX K mg "rising_way" mf (ad 71) (fd 71) ["ring","k"]
 acF:FX K mg "gain_of" vP (ad 72) (fd 72) ["ring","sending","k","way"]
 adO:FX K mg "keeps_within" jn (ad 73) (fd 73) ["ring","slid","parted","ways"]
 adP:FX K mg "lets_rounding" g7 (ad 74) (fd 74) ["ring","sending","thing"]
 adQ:FX K mg "rounded_ways" fO (ad 75) (fd 75) ["ring","slid"]
 adR:FX K mg "rounding_of" kD (ad 76) (fd 76) ["ring","sending"]
 acj:FX K mg "_law_take" ph (ad 77) (fd 77) ["_law_state","_law_many"]
 acG:FX K mg "_law_begun" mh (ad 78) (fd 78) ["_law_script","_law_k"]
 adS:FX K mg "_law_great" iU (ad 79) (fd 79) ["_law_script"]
 ack:FX K mg "_law_low" rP (ad 80) (fd 80) ["_law_top_here","_law_bottom"]
 acH:FX K mg "_law_times" mi (ad 81) (fd 81) ["_law_one","_law_other"]
 acr:FX K mg "_law_under" mj (ad 82) (fd 82) ["_law_one","_law_other"]
 ac7:FX K mg "_law_whole" ml (ad 83) (fd 83) ["_law_thing"]
 adT:FX K mg "_law_ratio" mn (ad 84) (fd 84) ["_law_thing"]
 adU:FX K mg "_law_is_sending" di (ad 85) (fd 85) ["_law_ring","_law_thing"]
 adV:FX K mg "_law_ties" pj (ad 86) (fd 86) ["_law_ring","_law_k"]
 ac8:FX K mg "_law_minus" mq (ad 87) (fd 87) ["_law_one","_law_other"]
 acs:FX K mg "_law_plus" pk (ad 88) (fd 88) ["_law_one","_law_other"]
 adW:FX K mg "_law_loads" iV (ad 89) (fd 89) ["_law_ring","_law_parts"]
 ac9:FX K mg "_law_over" pq (ad 90) (fd 90) ["_law_one","_law_other"]
 ada:FX K mg "_law_top" rQ (ad 91) (fd 91) ["_law_ring","_law_parts"]
 acI:FX K mg "_law_apart" mr (ad 92) (fd 92) ["_law_cut","_law_one","_law_other"]
 adb:FX K mg "_law_across" kE (ad 93) (fd 93) ["_law_ring","_law_cut"]
 acJ:FX K mg "_law_shown" mv (ad 94) (fd 94) ["_law_ring","_law_cut"]
 adX:FX K mg "_law_others_right" cq (ad 95) (fd 95) ["_law_ring","_law_top_here","_law_sending","_law_cut"]
 adY:FX K mg "_law_more_right" dj (ad 96) (fd 96) ["_law_ring","_law_top_here"]
 adZ:FX K mg "_law_first" mw (ad 97) (fd 97) ["_law_ring","_law_top_here"]
 ad0:FX K mg "law" JR (ad 98) (fd 98) ["_law_script"]
 acm:mg "abs"=none
 ad1:mg "all"=none
 ad5:mg "any"=none
 ad2:mg "bool"=none
 ace:mg "enumerate"=none
 acK:mg "int"=none
 aca:mg "isinstance"=none
 ab6:mg "len"=none
 acn:mg "list"=none
 ad6:mg "max"=none
 ad3:mg "min"=none
 ab8:mg "range"=none
 ad4:mg "sorted"=none
 ad7:mg "str"=none
 aco:mg "sum"=none
 acu:mg "tuple"=none
 ade:mg "zip"=none
 acf:CK K mg "BACK" (.str "back")
 ad8:CK K mg "HALF" (.tup [(.int 1),(.int 2)])
 acb:CK K mg "NOUGHT" (.tup [(.int 0),(.int 1)])
 ab9:CK K mg "ON" (.str "on")
section
variable{P:Program}{w:World}{K:W.Frag}{mg:Str->Option Value}{base:Heap}{ad:Nat->Addr}{fd:Nat->FuncData}
theorem cN:ax rD ["one","other"] (ao fv):=⟨rfl,rfl,rfl,y_,rfl,y_,y_⟩
abbrev ab5(T:Tx K mg ad fd)(P:Program)(w:World)(base:Heap)(d i:Nat)(ps:List Str)(n:Nat)(f:FS):Prop:=FnOk P w K mg base CX0 d (ad i) (fd i) ps (spF K n f)
theorem fg(T:Tx K mg ad fd):ab5 T P w base 1 0 ["one","other"] 2 bR:=
 aQ (k:=0) T.acv.f cN fA (λcdv A outer s H E hr=>(aj (uj Z8 (Wh (jg hr.units) (ae 1) ah (aP _)) (aj (aF (i:=2) cN.nd rfl v6 (aG gE (ae 0) (ae 1)))
  (aj (aF (i:=0) cN.nd rfl v6 (ae 1))
  (ak (aF (i:=1) cN.nd rfl v6 (ae 2))))))
  (ak (az (aN Hw rfl T.acm y_ (aa (ae 0) af))))))
  pA
theorem wO:ax xw ["one","other"] (ao ji):=⟨rfl,rfl,rfl,y_,rfl,y_,y_⟩
theorem wQ(T:Tx K mg ad fd):ab5 T P w base 2 1 ["one","other"] 2 g9:=
 aQ (k:=1) T.adf.f wO jo (λcdv A outer s H E hr=>(ak (az (aG a8 (aG qe (ae 0) (ay (fg T) T.acv hr (aa (ae 0) (aa (ae 1) af)))) (ae 1)))))
  t5
theorem DW:ax Gq ["thing"] (ao rE):=⟨rfl,rfl,rfl,y_,rfl,y_,y_⟩
theorem iz(T:Tx K mg ad fd):ab5 T P w base 1 2 ["thing"] 1 d4:=
 aQ (k:=0) T.ach.f DW ny (λcdv A outer s H E hr=>(ak (az (eD (iJ HG rfl T.aca rfl T.acK y_ (ae 0)) (fk (Eh (iJ Em rfl T.aca rfl T.ad2 y_ (ae 0))))))))
  BL
theorem qN:ax rF ["thing","many"] (ao fw):=⟨rfl,rfl,rfl,y_,rfl,y_,y_⟩
theorem i5(T:Tx K mg ad fd):ab5 T P w base 2 3 ["thing","many"] 2 cK:=
 aQ (k:=1) T.acL.f qN fB (λcdv A outer s H E hr=>(ak (az (eD (ay (iz T) T.ach hr (aa (ae 0) af)) (fk (uq K5 K4 ah (ae 0) (ae 1)))))))
  pB
theorem sG:ax tZ ["thing"] (ao gw):=⟨rfl,rfl,rfl,y_,rfl,y_,y_⟩
theorem jY(T:Tx K mg ad fd):ab5 T P w base 2 4 ["thing"] 1 dn:=
 aQ (k:=1) T.acM.f sG dS (λcdv A outer s H E hr=>(ak (az (eD (iJ lT rfl T.aca rfl T.acu y_ (ae 0)) (eD (bW (fX hr.units) (aN bO rfl T.ab6 y_ (aa (ae 0) af)) ah (aP _)) (eD (ay (iz T) T.ach hr (aa (ar (ae 0) ah abZ) af)) (fk (ay (iz T) T.ach hr (aa (ar (ae 0) ah abZ) af)))))))))
  qE
theorem DX:ax Gr ["thing"] (ao rG):=⟨rfl,rfl,rfl,y_,rfl,y_,y_⟩
theorem p5(T:Tx K mg ad fd):ab5 T P w base 3 5 ["thing"] 1 hJ:=
 aQ (k:=2) T.acw.f DX nA (λcdv A outer s H E hr=>(ak (az (eD (ay (jY T) T.acM hr (aa (ae 0) af)) (eD (bW QX (ar (ae 0) ah abZ) ah (aP _)) (fk (bW (fX hr.units) (ay (fg T) T.acv hr (aa (ar (ae 0) ah abZ) (aa (ar (ae 0) ah abZ) af))) ah (aP _))))))))
  BM
theorem wR:ax Mv ["top","bottom"] (ao zt):=⟨rfl,rfl,rfl,y_,rfl,y_,y_⟩
theorem mZ(T:Tx K mg ad fd):ab5 T P w base 2 6 ["top","bottom"] 2 hU:=
 aQ (k:=1) T.aci.f wR zE (λcdv A outer s H E hr=>(aj (aF (i:=2) wR.nd rfl v6 (aA (ay (fg T) T.acv hr (aa (ae 0) (aa (ae 1) af)))))
  (aj (bK (Wh oP (ae 1) ah (aP _)) (ak (aF (i:=2) wR.nd rfl v6 (QS (ae 2)))) aR)
  (ak (az (bt (aa (aG qe (ae 0) (ae 2)) (aa (aG qe (ae 1) (ae 2)) af))))))))
  GA
theorem MO:ax PH ["top","bottom"] (ao Do):=⟨rfl,rfl,rfl,y_,rfl,y_,y_⟩
theorem MP(T:Tx K mg ad fd):ab5 T P w base 3 7 ["top","bottom"] 2 zF:=
 aQ (k:=2) T.adg.f MO DE (λcdv A outer s H E hr=>(aj (bK (Wf.pb (cb (cA (aX (ay (iz T) T.ach hr (aa (ae 0) af)))) (cb (cA (aX (ay (iz T) T.ach hr (aa (ae 1) af)))) (cj (Wh (fX hr.units) (ae 1) ah (aP _)))))) (ak uh) aR)
  (ak (az (ay (mZ T) T.aci hr (aa (ae 0) (aa (ae 1) af)))))))
  JT
theorem P8:ax R1 ["one","other"] (ao JI):=⟨rfl,rfl,rfl,y_,rfl,y_,y_⟩
theorem sH(T:Tx K mg ad fd):ab5 T P w base 3 8 ["one","other"] 2 jq:=
 aQ (k:=2) T.acg.f P8 JU (λcdv A outer s H E hr=>(ak (az (ay (mZ T) T.aci hr (aa (aA (aG gD (aG a8 (ar (ae 0) ah abZ) (ar (ae 1) ah abZ)) (aG a8 (ar (ae 1) ah abZ) (ar (ae 0) ah abZ)))) (aa (aA (aG a8 (ar (ae 0) ah abZ) (ar (ae 1) ah abZ))) af))))))
  MC
theorem MQ:ax PJ ["one","other"] (ao Dp):=⟨rfl,rfl,rfl,y_,rfl,y_,y_⟩
theorem lg(T:Tx K mg ad fd):ab5 T P w base 3 9 ["one","other"] 2 dU:=
 aQ (k:=2) T.acd.f MQ DF (λcdv A outer s H E hr=>(ak (az (ay (mZ T) T.aci hr (aa (aG jF (aG a8 (ar (ae 0) ah abZ) (ar (ae 1) ah abZ)) (aG a8 (ar (ae 1) ah abZ) (ar (ae 0) ah abZ))) (aa (aA (aG a8 (ar (ae 0) ah abZ) (ar (ae 1) ah abZ))) af))))))
  JV
theorem MR:ax PN ["one","other"] (ao Dq):=⟨rfl,rfl,rfl,y_,rfl,y_,y_⟩
theorem z9(T:Tx K mg ad fd):ab5 T P w base 3 10 ["one","other"] 2 qF:=
 aQ (k:=2) T.acx.f MR DG (λcdv A outer s H E hr=>(ak (az (ay (mZ T) T.aci hr (aa (aA (aG a8 (ar (ae 0) ah abZ) (ar (ae 1) ah abZ))) (aa (aA (aG a8 (ar (ae 0) ah abZ) (ar (ae 1) ah abZ))) af))))))
  JW
theorem P9:ax R3 ["one","other"] (ao JJ):=⟨rfl,rfl,rfl,y_,rfl,y_,y_⟩
theorem Km(T:Tx K mg ad fd):ab5 T P w base 3 11 ["one","other"] 2 zG:=
 aQ (k:=2) T.acN.f P9 JX (λcdv A outer s H E hr=>(aj (bK (Wh (fX hr.units) (ar (ae 1) ah abZ) ah (aP _)) (ak uh) aR)
  (ak (az (ay (mZ T) T.aci hr (aa (aA (aG a8 (ar (ae 0) ah abZ) (ar (ae 1) ah abZ))) (aa (aA (aG a8 (ar (ae 0) ah abZ) (ar (ae 1) ah abZ))) af)))))))
  MD
theorem MS:ax PP ["one","other"] (ao Dr):=⟨rfl,rfl,rfl,y_,rfl,y_,y_⟩
theorem b7(T:Tx K mg ad fd):ab5 T P w base 1 12 ["one","other"] 2 bM:=
 aQ (k:=0) T.ab7.f MS DH (λcdv A outer s H E hr=>(ak (az (bW oP (aG a8 (ar (ae 0) ah abZ) (ar (ae 1) ah abZ)) (aG a8 (ar (ae 1) ah abZ) (ar (ae 0) ah abZ)) (aP _)))))
  JY
theorem GK:ax JK ["one","other"] (ao vD):=⟨rfl,rfl,rfl,y_,rfl,y_,y_⟩
theorem GL(T:Tx K mg ad fd):ab5 T P w base 2 13 ["one","other"] 2 rR:=
 aQ (k:=1) T.adh.f GK vR (λcdv A outer s H E hr=>(ak (az (nS (aX (ay (b7 T) T.ab7 hr (aa (ae 0) (aa (ae 1) af)))) (ae 1) (ae 0)))))
  DI
theorem Kn:ax Mw ["one","other"] (ao zu):=⟨rfl,rfl,rfl,y_,rfl,y_,y_⟩
theorem Ko(T:Tx K mg ad fd):ab5 T P w base 2 14 ["one","other"] 2 vS:=
 aQ (k:=1) T.adi.f Kn zH (λcdv A outer s H E hr=>(ak (az (nS (aX (ay (b7 T) T.ab7 hr (aa (ae 1) (aa (ae 0) af)))) (ae 1) (ae 0)))))
  GB
theorem qO:ax Mx ["some"] (ao zv):=⟨rfl,rfl,rfl,y_,rfl,y_,y_⟩
theorem B5(T:Tx K mg ad fd):ab5 T P w base 4 15 ["some"] 1 qG:=
 aQ (k:=3) T.acO.f qO zJ (λcdv A outer s H E hr=>(aj (aF (i:=1) qO.nd rfl v6 (lO T.acb rfl))
  (aj (bQ Z8 rfl (bG (ae 0)) (bT (i:=2) qO.nd rfl v6) (ak (aF (i:=1) qO.nd rfl v6 (ay (sH T) T.acg hr (aa (ae 1) (aa (ae 2) af))))))
  (ak (az (cQ 1))))))
  GC
theorem Kp:ax Mz ["ring","thing"] (ao zw):=⟨rfl,rfl,rfl,y_,rfl,y_,y_⟩
theorem Kq(T:Tx K mg ad fd):ab5 T P w base 3 16 ["ring","thing"] 2 vU:=
 aQ (k:=2) T.adj.f Kp zL (λcdv A outer s H E hr=>(ak (az (eD (ay (jY T) T.acM hr (aa (ae 1) af)) (fk (u5 ah (qk.cons Oe (ar (ae 1) ah abZ) (qk.cons Oe (ar (ae 1) ah abZ) (qk.one oP (aN bO rfl T.ab6 y_ (aa (ar (ae 0) ah abZ) af)))))))))))
  GD
theorem B6:ax Ds ["cut","place"] (ao oY):=⟨rfl,rfl,rfl,y_,rfl,y_,y_⟩
theorem tK(T:Tx K mg ad fd):ab5 T P w base 1 17 ["cut","place"] 2 iW:=
 aQ (k:=0) T.acP.f B6 pC (λcdv A outer s H E hr=>(ak (az (uq K4 K5 (ar (ae 0) ah abZ) (ae 1) (ar (ae 0) ah abZ)))))
  zM
theorem wU:ax xx ["cut","one","other"] (ao jj):=⟨rfl,rfl,rfl,y_,rfl,y_,y_⟩
theorem iA(T:Tx K mg ad fd):ab5 T P w base 2 18 ["cut","one","other"] 3 cR:=
 aQ (k:=1) T.acy.f wU jr (λcdv A outer s H E hr=>(ak (az (bW (jg hr.units) (ay (tK T) T.acP hr (aa (ae 0) (aa (ae 1) af))) (ay (tK T) T.acP hr (aa (ae 0) (aa (ae 2) af))) (aP _)))))
  t6
theorem Kr:ax FD ["ring","cut"] (ao uD):=⟨rfl,rfl,rfl,y_,rfl,y_,y_⟩
theorem B7(T:Tx K mg ad fd):ab5 T P w base 5 19 ["ring","cut"] 2 qH:=
 aQ (k:=4) T.acQ.f Kr zN (λcdv A outer s H E hr=>(ak (az (ay (B5 T) T.acO hr (aa (aA (cF (sc:=(ao uD)) (N:=FD) (Nt:=["ask"]) (Nf:=["cut"]) (fi:=[1]) rfl rfl rfl (bG (ar (ae 0) ah abZ)) rfl y_ y_ y_ xp rfl y_ xp (λ_ _ _ _=>(ck xp (show((["ask"]:List Str)++(["cut"]:List Str)).Nodup by decide +kernel) rfl (Or.inl rfl))) (λ_ _ _ _=>(rf (aX (ay (iA T) T.acy hr (aa (ae 1) (aa (ar (ae 0) ah abZ) (aa (ar (ae 0) ah abZ) af))))))) (λ_ _ _ _=>(ar (ae 0) ah abZ)))) af)))))
  GE
theorem DY:ax Gs ["ring","cut"] (ao rH):=⟨rfl,rfl,rfl,y_,rfl,y_,y_⟩
theorem wV(T:Tx K mg ad fd):ab5 T P w base 4 20 ["ring","cut"] 2 kF:=
 aQ (k:=3) T.acR.f DY rS (λcdv A outer s H E hr=>(ak (az (ay (sH T) T.acg hr (aa (ar (ar (ae 0) ah abZ) (ar (ae 1) ah abZ) abZ) (aa (ar (ar (ae 0) ah abZ) (ar (ae 1) ah abZ) abZ) af))))))
  BN
theorem DZ:ax Gu ["ring","cut"] (ao rJ):=⟨rfl,rfl,rfl,y_,rfl,y_,y_⟩
theorem wW(T:Tx K mg ad fd):ab5 T P w base 6 21 ["ring","cut"] 2 kG:=
 aQ (k:=5) T.acS.f DZ rT (λcdv A outer s H E hr=>(ak (az (ay (Km T) T.acN hr (aa (aA (ay (B7 T) T.acQ hr (aa (ae 0) (aa (ae 1) af)))) (aa (aA (ay (wV T) T.acR hr (aa (ae 0) (aa (ae 1) af)))) af))))))
  BO
theorem p6:ax yv ["ring"] (ao nq):=⟨rfl,rfl,rfl,y_,rfl,y_,y_⟩
theorem wX(T:Tx K mg ad fd):ab5 T P w base 1 22 ["ring"] 1 kH:=
 aQ (k:=0) T.acT.f p6 rV (λcdv A outer s H E hr=>(aj (aF (i:=1) p6.nd rfl v6 (gS af))
  (aj (bQ Z8 rfl (c9 rfl T.ab8 (aN bO rfl T.ab6 y_ (aa (ar (ae 0) ah abZ) af))) (bT (i:=2) p6.nd rfl v6) (ak (qX (HP 1 (cF (sc:=(ao nq)) (N:=yv) (Nt:=["h"]) (Nf:=["g"]) (fi:=[2]) rfl rfl rfl (uk rfl T.ab8 (ae 2) (aN bO rfl T.ab6 y_ (aa (ar (ae 0) ah abZ) af))) rfl y_ y_ y_ xp rfl y_ xp (λ_ _ _ _=>(ck xp (show((["h"]:List Str)++(["g"]:List Str)).Nodup by decide +kernel) rfl (Or.inl rfl))) (λ_ _ _ _=>cD) (λ_ _ _ _=>(bt (aa (ae 1) (aa (ae 0) af)))))))))
  (ak (az (cQ 1))))))
  BP
theorem Aa:ax sW ["ring","one","other"] (ao iR):=⟨rfl,rfl,rfl,y_,rfl,y_,y_⟩
theorem Ab(T:Tx K mg ad fd):ab5 T P w base 3 23 ["ring","one","other"] 3 kJ:=
 aQ (k:=2) T.adk.f Aa my (λcdv A outer s H E hr=>(ak (az (cF (sc:=(ao iR)) (N:=sW) (Nt:=["cut"]) (Nf:=["one","other"]) (fi:=[1,2]) rfl rfl rfl (bG (ay (wX T) T.acT hr (aa (ae 0) af))) rfl y_ y_ y_ xp rfl y_ xp (λ_ _ _ _=>(ck xp (show((["cut"]:List Str)++(["one","other"]:List Str)).Nodup by decide +kernel) rfl (Or.inl rfl))) (λ_ _ _ _=>(rf (aX (ay (iA T) T.acy hr (aa (ae 0) (aa (ae 1) (aa (ae 2) af))))))) (λ_ _ _ _=>(ae 0))))))
  xC
theorem cY:ax xy ["ring"] (ao jk):=⟨rfl,rfl,rfl,y_,rfl,y_,y_⟩
theorem fh(T:Tx K mg ad fd):ab5 T P w base 7 24 ["ring"] 1 b9:=
 aQ (k:=6) T.acp.f cY jt (λcdv A outer s H E hr=>(aj (aF (i:=1) cY.nd rfl v6 nR)
  (aj (bQ Z8 rfl (bG (ay (wX T) T.acT hr (aa (ae 0) af))) (bT (i:=2) cY.nd rfl v6) (aj (aF (i:=3) cY.nd rfl v6 (aA (ay (wW T) T.acS hr (aa (ae 0) (aa (ae 2) af)))))
  (ak (bK (Wf.pb (cb (Wh CM (ae 1) nR (aP _)) (cj (aX (ay (b7 T) T.ab7 hr (aa (ar (ae 1) ah abZ) (aa (ae 3) af))))))) (ak (aF (i:=1) cY.nd rfl v6 (bt (aa (ae 3) (aa (ae 2) af))))) aR))))
  (ak (az (cQ 1))))))
  t7
theorem Ks:ax MA ["thing"] (ao zx):=⟨rfl,rfl,rfl,y_,rfl,y_,y_⟩
theorem wY(T:Tx K mg ad fd):ab5 T P w base 1 25 ["thing"] 1 mz:=
 aQ (k:=0) T.acz.f Ks zO (λcdv A outer s H E hr=>(ak (az (eD (iJ Oq rfl T.aca rfl T.ad7 y_ (ae 0)) (fk (bW Om (ae 0) (bt (aa (lO T.ab9 rfl) (aa (lO T.acf rfl) af))) rfl))))))
  GG
theorem B8:ax Dt ["way"] (ao oZ):=⟨rfl,rfl,rfl,y_,rfl,y_,y_⟩
theorem B9(T:Tx K mg ad fd):ab5 T P w base 1 26 ["way"] 1 mB:=
 aQ (k:=0) T.adl.f B8 pD (λcdv A outer s H E hr=>(ak (az (nS (Wh (fX hr.units) (ae 0) (lO T.ab9 rfl) (aP _)) (lO T.acf rfl) (lO T.ab9 rfl)))))
  zQ
theorem nC:ax vE ["ring","k","way"] (ao l7):=⟨rfl,rfl,rfl,y_,rfl,y_,y_⟩
theorem sI(T:Tx K mg ad fd):ab5 T P w base 1 27 ["ring","k","way"] 3 jP:=
 aQ (k:=0) T.acA.f nC v8 (λcdv A outer s H E hr=>(aj (aF (i:=3) nC.nd rfl v6 (aA (aN bO rfl T.ab6 y_ (aa (ar (ae 0) ah abZ) af))))
  (aj (aF (i:=4) nC.nd rfl v6 (ar (ar (ar (ae 0) ah abZ) (ae 1) abZ) ah abZ))
  (aj (aF (i:=5) nC.nd rfl v6 (ar (ar (ar (ae 0) ah abZ) (ae 1) abZ) ah abZ))
  (aj (bK (Wh (fX hr.units) (ae 2) (lO T.ab9 rfl) (aP _)) (ak (az (cF (sc:=(ao l7)) (N:=vE) (Nt:=["step"]) (Nf:=["one","places"]) (fi:=[4,3]) rfl rfl rfl (c9 rfl T.ab8 (aG gE (aG jF (ae 5) (ae 4)) (ae 3))) rfl y_ y_ y_ xp rfl y_ xp (λ_ _ _ _=>(ck xp (show((["step"]:List Str)++(["one","places"]:List Str)).Nodup by decide +kernel) rfl (Or.inl rfl))) (λ_ _ _ _=>cD) (λ_ _ _ _=>(aG gE (aG gD (ae 1) (ae 0)) (ae 2)))))) aR)
  (ak (az (cF (sc:=(ao l7)) (N:=vE) (Nt:=["step"]) (Nf:=["one","places"]) (fi:=[4,3]) rfl rfl rfl (c9 rfl T.ab8 (aG gE (aG jF (ae 4) (ae 5)) (ae 3))) rfl y_ y_ y_ xp rfl y_ xp (λ_ _ _ _=>(ck xp (show((["step"]:List Str)++(["one","places"]:List Str)).Nodup by decide +kernel) rfl (Or.inl rfl))) (λ_ _ _ _=>cD) (λ_ _ _ _=>(aG gE (aG jF (aG jF (ae 1) ah) (ae 0)) (ae 2)))))))))))
  DJ
theorem jZ:ax JL ["ring","k","way","tie"] (ao vF):=⟨rfl,rfl,rfl,y_,rfl,y_,y_⟩
theorem yD(T:Tx K mg ad fd):ab5 T P w base 1 28 ["ring","k","way","tie"] 4 nB:=
 aQ (k:=0) T.acU.f jZ wd (λcdv A outer s H E hr=>(aj (aF (i:=4) jZ.nd rfl v6 (aA (aN bO rfl T.ab6 y_ (aa (ar (ae 0) ah abZ) af))))
  (aj (aF (i:=5) jZ.nd rfl v6 (ar (ar (ar (ae 0) ah abZ) (ae 1) abZ) ah abZ))
  (aj (aF (i:=6) jZ.nd rfl v6 (ar (ar (ar (ae 0) ah abZ) (ae 1) abZ) ah abZ))
  (aj (aF (i:=7) jZ.nd rfl v6 (bW oP (aG gE (aG jF (ae 3) (ae 5)) (ae 4)) (aG gE (aG jF (ae 6) (ae 5)) (ae 4)) (aP _)))
  (ak (az (bW (fX hr.units) (ae 7) (bW (fX hr.units) (ae 2) (lO T.ab9 rfl) (aP _)) (aP _)))))))))
  DK
theorem Ca:ax Du ["ring","sending","k","tie"] (ao o5):=⟨rfl,rfl,rfl,y_,rfl,y_,y_⟩
theorem Cb(T:Tx K mg ad fd):ab5 T P w base 4 29 ["ring","sending","k","tie"] 4 mC:=
 aQ (k:=3) T.adm.f Ca pE (λcdv A outer s H E hr=>(aj (bK (aX (ay (yD T) T.acU hr (aa (ae 0) (aa (ae 2) (aa (lO T.ab9 rfl) (aa (ae 3) af)))))) (ak (az (ar (ae 1) (ae 2) abZ))) aR)
  (ak (az (ay (lg T) T.acd hr (aa (ar (ar (ar (ae 0) ah abZ) (ae 2) abZ) ah abZ) (aa (ar (ae 1) (ae 2) abZ) af)))))))
  zR
theorem GM:ax Bx ["ring","sending","tie"] (ao qy):=⟨rfl,rfl,rfl,y_,rfl,y_,y_⟩
theorem GN(T:Tx K mg ad fd):ab5 T P w base 5 30 ["ring","sending","tie"] 3 rW:=
 aQ (k:=4) T.adn.f GM wg (λcdv A outer s H E hr=>(ak (az (ay (B5 T) T.acO hr (aa (aA (cF (sc:=(ao qy)) (N:=Bx) (Nt:=["k"]) (Nf:=["ring","sending","tie"]) (fi:=[0,1,2]) rfl rfl rfl (c9 rfl T.ab8 (aN bO rfl T.ab6 y_ (aa (ar (ae 0) ah abZ) af))) rfl y_ y_ y_ xp rfl y_ xp (λ_ _ _ _=>(ck xp (show((["k"]:List Str)++(["ring","sending","tie"]:List Str)).Nodup by decide +kernel) rfl (Or.inl rfl))) (λ_ _ _ _=>cD) (λ_ _ _ _=>(ay (Cb T) T.adm hr (aa (ae 1) (aa (ae 2) (aa (ae 0) (aa (ae 3) af)))))))) af)))))
  DL
theorem D0:ax yw ["ring","sending"] (ao nr):=⟨rfl,rfl,rfl,y_,rfl,y_,y_⟩
theorem D1(T:Tx K mg ad fd):ab5 T P w base 6 31 ["ring","sending"] 2 pF:=
 aQ (k:=5) T.ado.f D0 rX (λcdv A outer s H E hr=>(ak (az (cF (sc:=(ao nr)) (N:=yw) (Nt:=["tie"]) (Nf:=["ring","sending"]) (fi:=[0,1]) rfl rfl rfl (c9 rfl T.ab8 (aN bO rfl T.ab6 y_ (aa (ar (ae 0) ah abZ) af))) rfl y_ y_ y_ xp rfl y_ xp (λ_ _ _ _=>(ck xp (show((["tie"]:List Str)++(["ring","sending"]:List Str)).Nodup by decide +kernel) rfl (Or.inl rfl))) (λ_ _ _ _=>cD) (λ_ _ _ _=>(ay (GN T) T.adn hr (aa (ae 1) (aa (ae 2) (aa (ae 0) af)))))))))
  BQ
theorem Ac:ax sX ["ring","sending"] (ao iS):=⟨rfl,rfl,rfl,y_,rfl,y_,y_⟩
theorem Ad(T:Tx K mg ad fd):ab5 T P w base 7 32 ["ring","sending"] 2 kK:=
 aQ (k:=6) T.adp.f Ac mD (λcdv A outer s H E hr=>(ak (az (cF (sc:=(ao iS)) (N:=sX) (Nt:=["load","room"]) (Nf:=[]) (fi:=[]) rfl rfl rfl (CP rfl T.ade (ay (D1 T) T.ado hr (aa (ae 0) (aa (ae 1) af))) (ar (ae 0) ah abZ)) rfl y_ y_ y_ xp rfl y_ xp (λ_ _ _ _=>(A3 rfl (dQ (i:=0) xp (show((["load","room"]:List Str)++([]:List Str)).Nodup by decide +kernel) rfl (Or.inl rfl) (dQ (i:=1) xp (show((["load","room"]:List Str)++([]:List Str)).Nodup by decide +kernel) rfl (Or.inl rfl) uW)))) (λ_ _ _ _=>cD) (λ_ _ _ _=>(ay (Km T) T.acN hr (aa (ae 0) (aa (ae 1) af))))))))
  xD
theorem j2:ax MB ["ring","sending"] (ao zy):=⟨rfl,rfl,rfl,y_,rfl,y_,y_⟩
theorem Kt(T:Tx K mg ad fd):ab5 T P w base 8 33 ["ring","sending"] 2 wj:=
 aQ (k:=7) T.adq.f j2 zS (λcdv A outer s H E hr=>(aj (aF (i:=2) j2.nd rfl v6 (aA (ay (Ad T) T.adp hr (aa (ae 0) (aa (ae 1) af)))))
  (aj (aF (i:=3) j2.nd rfl v6 ah)
  (aj (bQ Z8 rfl (iL rfl T.ace (ae 2)) (nT rfl (bh (i:=4) j2.nd rfl v6 (bh (i:=5) j2.nd rfl v6 jf))) (ak (bK (aX (ay (b7 T) T.ab7 hr (aa (ar (ae 2) (ae 3) abZ) (aa (ae 5) af)))) (ak (aF (i:=3) j2.nd rfl v6 (ae 4))) aR)))
  (ak (az (bt (aa (ar (ae 2) (ae 3) abZ) (aa (ae 3) af)))))))))
  GH
theorem dX:ax vG ["some"] (ao g5):=⟨rfl,rfl,rfl,y_,rfl,y_,y_⟩
theorem ud(T:Tx K mg ad fd):ab5 T P w base 3 34 ["some"] 1 gz:=
 aQ (k:=2) T.ads.f dX hW (λcdv A outer s H E hr=>(aj (aF (i:=1) dX.nd rfl v6 ah)
  (aj (bQ Z8 rfl (bG (ae 0)) (bT (i:=2) dX.nd rfl v6) (ak (aF (i:=1) dX.nd rfl v6 (ay (wQ T) T.adf hr (aa (ae 1) (aa (ar (ae 2) ah abZ) af))))))
  (ak (az (cQ 1))))))
  rY
theorem D2:ax yx ["some","units"] (ao nu):=⟨rfl,rfl,rfl,y_,rfl,y_,y_⟩
theorem wZ(T:Tx K mg ad fd):ab5 T P w base 1 35 ["some","units"] 2 kL:=
 aQ (k:=0) T.acV.f D2 rZ (λcdv A outer s H E hr=>(ak (az (cF (sc:=(ao nu)) (N:=yx) (Nt:=["one"]) (Nf:=["units"]) (fi:=[1]) rfl rfl rfl (bG (ae 0)) rfl y_ y_ y_ xp rfl y_ xp (λ_ _ _ _=>(ck xp (show((["one"]:List Str)++(["units"]:List Str)).Nodup by decide +kernel) rfl (Or.inl rfl))) (λ_ _ _ _=>cD) (λ_ _ _ _=>(aG a8 (ar (ae 0) ah abZ) (aG qe (ae 1) (ar (ae 0) ah abZ))))))))
  BR
theorem nD:ax vH ["ring","top"] (ao l8):=⟨rfl,rfl,rfl,y_,rfl,y_,y_⟩
theorem GO(T:Tx K mg ad fd):ab5 T P w base 4 36 ["ring","top"] 2 r6:=
 aQ (k:=3) T.adt.f nD wq (λcdv A outer s H E hr=>(aj (rg nD.nd (j:=2) rfl v6 (sc:=(ao l8)) (N:=vH) (Nt:=["ask"]) (Nf:=[]) (fi:=[]) rfl rfl rfl (bG (ar (ae 0) ah abZ)) rfl y_ y_ y_ xp rfl y_ xp (λ_ _ _ _=>(ck xp (show((["ask"]:List Str)++([]:List Str)).Nodup by decide +kernel) rfl (Or.inl rfl))) (λ_ _ _ _=>cD) (λ_ _ _ _=>(ar (ae 0) ah abZ)))
  (aj (rg nD.nd (j:=3) rfl v6 (sc:=(ao l8)) (N:=vH) (Nt:=["room"]) (Nf:=["top"]) (fi:=[1]) rfl rfl rfl (bG (ar (ae 0) ah abZ)) rfl y_ y_ y_ xp rfl y_ xp (λ_ _ _ _=>(ck xp (show((["room"]:List Str)++(["top"]:List Str)).Nodup by decide +kernel) rfl (Or.inl rfl))) (λ_ _ _ _=>cD) (λ_ _ _ _=>(ay (z9 T) T.acx hr (aa (ae 1) (aa (ae 0) af)))))
  (aj (aF (i:=4) nD.nd rfl v6 (aA (aG a8 ah (ay (ud T) T.ads hr (aa (aA (aG gD (ae 2) (ae 3))) af)))))
  (ak (az (bt (aa (ae 4) (aa (aA (ay (wZ T) T.acV hr (aa (ae 2) (aa (ae 4) af)))) (aa (aA (ay (wZ T) T.acV hr (aa (ae 3) (aa (ae 4) af)))) af))))))))))
  DM
theorem m4:ax nZ ["ring","k","waiting","cut"] (ao fM):=⟨rfl,rfl,rfl,y_,rfl,y_,y_⟩
theorem w4(T:Tx K mg ad fd):ab5 T P w base 3 37 ["ring","k","waiting","cut"] 4 hX:=
 aQ (k:=2) T.adu.f m4 ju (λcdv A outer s H E hr=>(aj (aF (i:=4) m4.nd rfl v6 (ar (ae 0) ah abZ))
  (ak (az (aN (Na rfl) rfl T.aco y_ (aa (aA (cF (sc:=(ao fM)) (N:=nZ) (Nt:=["j"]) (Nf:=["waiting","cut","asks"]) (fi:=[2,3,4]) rfl rfl rfl (uk rfl T.ab8 (aG gD (ae 1) ah) (aN bO rfl T.ab6 y_ (aa (ae 4) af))) rfl y_ y_ y_ xp rfl y_ xp (λ_ _ _ _=>(ck xp (show((["j"]:List Str)++(["waiting","cut","asks"]:List Str)).Nodup by decide +kernel) rfl (Or.inl rfl))) (λ_ _ _ _=>(rf (aX (ay (iA T) T.acy hr (aa (ae 2) (aa (ar (ar (ae 3) (ae 0) abZ) ah abZ) (aa (ar (ar (ae 3) (ae 0) abZ) ah abZ) af))))))) (λ_ _ _ _=>(ar (ae 1) (ae 0) abZ)))) af))))))
  t8
theorem gR:ax JM ["ring","k","waiting","free"] (ao vI):=⟨rfl,rfl,rfl,y_,rfl,y_,y_⟩
theorem GP(T:Tx K mg ad fd):ab5 T P w base 4 38 ["ring","k","waiting","free"] 4 r9:=
 aQ (k:=3) T.adv.f gR wz (λcdv A outer s H E hr=>(aj (aF (i:=4) gR.nd rfl v6 (aA (aN Ic rfl T.ad4 y_ (aa (aA (ay (sI T) T.acA hr (aa (ae 0) (aa (ae 1) (aa (lO T.ab9 rfl) af))))) af))))
  (aj (aF (i:=5) gR.nd rfl v6 (aA (aG a8 ah (ar (ae 2) (ae 1) abZ))))
  (aj (bQ Z8 rfl (bG (ae 4)) (bT (i:=6) gR.nd rfl v6) (ak (bQ Z8 rfl (bG (ae 4)) (bT (i:=7) gR.nd rfl v6) (ak (bK (Wh Oe (ae 6) (ae 7) (aP _)) (ak (aF (i:=5) gR.nd rfl v6 (aA (aN (M5 rfl) rfl T.ad3 y_ (aa (ae 5) (aa (aG jF (aG gD (ar (ae 3) (ae 6) abZ) (ar (ae 3) (ae 7) abZ)) (ay (w4 T) T.adu hr (aa (ae 0) (aa (ae 1) (aa (ae 2) (aa (bt (aa (ae 6) (aa (ae 7) af))) af)))))) af)))))) aR)))))
  (ak (az (aG qe (ae 5) ah)))))))
  DN
theorem Cc:ax vJ ["ring","k","free","part","rest"] (ao ku):=⟨rfl,rfl,rfl,y_,rfl,y_,y_⟩
theorem Cd(T:Tx K mg ad fd):ab5 T P w base 2 39 ["ring","k","free","part","rest"] 5 mE:=
 aQ (k:=1) T.adw.f Cc pG (λcdv A outer s H E hr=>(ak (az (cF (sc:=(ao ku)) (N:=vJ) (Nt:=["tie","room"]) (Nf:=["ring","k","part","rest"]) (fi:=[0,1,3,4]) rfl rfl rfl (iL rfl T.ace (ae 2)) rfl y_ y_ y_ xp rfl y_ xp (λ_ _ _ _=>(A3 rfl (dQ (i:=0) xp (show((["tie","room"]:List Str)++(["ring","k","part","rest"]:List Str)).Nodup by decide +kernel) rfl (Or.inl rfl) (dQ (i:=1) xp (show((["tie","room"]:List Str)++(["ring","k","part","rest"]:List Str)).Nodup by decide +kernel) rfl (Or.inl rfl) uW)))) (λ_ _ _ _=>cD) (λ_ _ _ _=>(aG jF (ae 1) (nS (aX (ay (yD T) T.acU hr (aa (ae 2) (aa (ae 3) (aa (lO T.ab9 rfl) (aa (ae 0) af)))))) (ae 4) (ae 5))))))))
  zT
theorem a5:ax rK ["ring","top"] (ao fz):=⟨rfl,rfl,rfl,y_,rfl,y_,y_⟩
theorem i6(T:Tx K mg ad fd):ab5 T P w base 5 40 ["ring","top"] 2 cL:=
 aQ (k:=4) T.acW.f a5 fC (λcdv A outer s H E hr=>by exact(@aj _ _ _ _ _ (@aF _ _ _ 2 _ _ _ a5.nd rfl v6 (@aA _ _ _ (ay (GO T) T.adt hr (@aa _ _ _ _ _ _ (ae 0) (@aa _ _ _ _ _ _ (ae 1) af z_) z_))) z_ aes) (@aj _ _ _ _ _ (@aF _ _ _ 3 _ _ _ a5.nd rfl v6 (@ar _ _ _ _ _ _ (ae 2) ah abZ) z_ aes) (@aj _ _ _ _ _ (@aF _ _ _ 4 _ _ _ a5.nd rfl v6 (@ar _ _ _ _ _ _ (ae 2) ah abZ) z_ aes) (@aj _ _ _ _ _ (@aF _ _ _ 5 _ _ _ a5.nd rfl v6 (@gS _ _ _ _ _ af) z_ aes) (@aj _ _ _ _ _ (bQ Z8 rfl (iL rfl T.ace (ae 3)) (nT rfl (bh (i:=6) a5.nd rfl v6 (bh (i:=7) a5.nd rfl v6 jf))) (@aj _ _ _ _ _ (@aF _ _ _ 8 _ _ _ a5.nd rfl v6 (@aA _ _ _ (ay (GP T) T.adv hr (@aa _ _ _ _ _ _ (ae 0) (@aa _ _ _ _ _ _ (ae 6) (@aa _ _ _ _ _ _ (ae 3) (@aa _ _ _ _ _ _ (ae 4) af z_) z_) z_) z_))) z_ aes) (@aj _ _ _ _ _ (@aF _ _ _ 4 _ _ _ a5.nd rfl v6 (@aA _ _ _ (ay (Cd T) T.adw hr (@aa _ _ _ _ _ _ (ae 0) (@aa _ _ _ _ _ _ (ae 6) (@aa _ _ _ _ _ _ (ae 4) (@aa _ _ _ _ _ _ (ae 8) (@aa _ _ _ _ _ _ (@aG _ _ _ _ _ _ _ _ jF (ae 7) (ae 8)) af z_) z_) z_) z_) z_))) z_ aes) (@ak _ _ _ (qX (lR 5 (ay (MP T) T.adg hr (@aa _ _ _ _ _ _ (ae 8) (@aa _ _ _ _ _ _ (@ar _ _ _ _ _ _ (ae 2) ah abZ) af z_) z_)))))))) (@ak _ _ _ (@az _ _ _ _ (cQ 5)))))))))
  pH
theorem yE:ax JN ["ring","top"] (ao vK):=⟨rfl,rfl,rfl,y_,rfl,y_,y_⟩
theorem GQ(T:Tx K mg ad fd):ab5 T P w base 8 41 ["ring","top"] 2 se:=
 aQ (k:=7) T.adx.f yE wA (λcdv A outer s H E hr=>(aj (aF (i:=2) yE.nd rfl v6 (aA (ay (fh T) T.acp hr (aa (ae 0) af))))
  (aj (bK (aX (ay (b7 T) T.ab7 hr (aa (ae 1) (aa (ar (ae 2) ah abZ) af)))) (ak (az (CU (aa uL (aa (ar (ae 2) ah abZ) af))))) aR)
  (ak (az (CU (aa uL (aa (ay (i6 T) T.acW hr (aa (ae 0) (aa (ae 1) af))) af))))))))
  DO
theorem xW:ax zz ["ring","cut","top"] (ao kx):=⟨rfl,rfl,rfl,y_,rfl,y_,y_⟩
theorem xX(T:Tx K mg ad fd):ab5 T P w base 6 42 ["ring","cut","top"] 3 jv:=
 aQ (k:=5) T.ady.f xW kM (λcdv A outer s H E hr=>(ak (az (ay (lg T) T.acd hr (aa (aA (ay (z9 T) T.acx hr (aa (ae 2) (aa (aA (ay (wV T) T.acR hr (aa (ae 0) (aa (ae 1) af)))) af)))) (aa (aA (ay (B7 T) T.acQ hr (aa (ae 0) (aa (ae 1) af)))) af))))))
  wB
theorem eE:ax Dv ["ring","one","other","top"] (ao o6):=⟨rfl,rfl,rfl,y_,rfl,y_,y_⟩
theorem Ce(T:Tx K mg ad fd):ab5 T P w base 8 43 ["ring","one","other","top"] 4 mF:=
 aQ (k:=7) T.adz.f eE pJ (λcdv A outer s H E hr=>by exact(@aj _ _ _ _ _ (@aF _ _ _ 4 _ _ _ eE.nd rfl v6 (@aA _ _ _ (ay (fh T) T.acp hr (@aa _ _ _ _ _ _ (ae 0) af z_))) z_ aes) (@aj _ _ _ _ _ (@bK _ _ _ _ _ _ _ _ (aX (ay (b7 T) T.ab7 hr (@aa _ _ _ _ _ _ (ae 3) (@aa _ _ _ _ _ _ (@ar _ _ _ _ _ _ (ae 4) ah abZ) af z_) z_))) (@ak _ _ _ (@az _ _ _ _ (@bt _ _ _ _ _ _ (@aa _ _ _ _ _ _ uL (@aa _ _ _ _ _ _ (@ar _ _ _ _ _ _ (ae 4) ah abZ) af z_) z_)))) aR) (@aj _ _ _ _ _ (@aF _ _ _ 5 _ _ _ eE.nd rfl v6 nR z_ aes) (@aj _ _ _ _ _ (bQ Z8 rfl (bG (ay (Ab T) T.adk hr (@aa _ _ _ _ _ _ (ae 0) (@aa _ _ _ _ _ _ (ae 1) (@aa _ _ _ _ _ _ (ae 2) af z_) z_) z_))) (bT (i:=6) eE.nd rfl v6) (@aj _ _ _ _ _ (@aF _ _ _ 7 _ _ _ eE.nd rfl v6 (@aA _ _ _ (ay (xX T) T.ady hr (@aa _ _ _ _ _ _ (ae 0) (@aa _ _ _ _ _ _ (ae 6) (@aa _ _ _ _ _ _ (ae 3) af z_) z_) z_))) z_ aes) (@ak _ _ _ (@bK _ _ _ _ _ _ _ _ (Wf.pb (cb (Wh CM (ae 5) nR (aP _)) (cj (aX (ay (b7 T) T.ab7 hr (@aa _ _ _ _ _ _ (ae 7) (@aa _ _ _ _ _ _ (@ar _ _ _ _ _ _ (ae 5) ah abZ) af z_) z_)))))) (@ak _ _ _ (@aF _ _ _ 5 _ _ _ eE.nd rfl v6 (@bt _ _ _ _ _ _ (@aa _ _ _ _ _ _ uL (@aa _ _ _ _ _ _ (ae 7) (@aa _ _ _ _ _ _ (ae 6) af z_) z_) z_)) z_ aes)) aR)))) (@ak _ _ _ (@az _ _ _ _ (cQ 5))))))))
  zU
theorem ej:ax qz ["ring","some"] (ao eL):=⟨rfl,rfl,rfl,y_,rfl,y_,y_⟩
theorem p7(T:Tx K mg ad fd):ab5 T P w base 2 44 ["ring","some"] 2 d5:=
 aQ (k:=1) T.adA.f ej eO (λcdv A outer s H E hr=>(aj (bQ Z8 rfl (iL rfl T.ace (ae 1)) (nT rfl (bh (i:=2) ej.nd rfl v6 (bh (i:=3) ej.nd rfl v6 jf))) (ak (bK (Wf.pb (cb (aX (ay (b7 T) T.ab7 hr (aa (ae 3) (aa (lO T.acb rfl) af)))) (cj (aX (ay (b7 T) T.ab7 hr (aa (ar (ar (ar (ae 0) ah abZ) (ae 2) abZ) ah abZ) (aa (ae 3) af))))))) (ak (az (cQ 2))) aR)))
  (ak (az nR))))
  nJ
theorem Ae:ax sY ["ring","thing"] (ao iT):=⟨rfl,rfl,rfl,y_,rfl,y_,y_⟩
theorem Af(T:Tx K mg ad fd):ab5 T P w base 4 45 ["ring","thing"] 2 kN:=
 aQ (k:=3) T.adB.f Ae iX (λcdv A outer s H E hr=>(aj (bK (Wf.pb (cb (cA (aX (iJ uo rfl T.aca rfl T.acn y_ (ae 1)))) (cj (Wh (jg hr.units) (aN bO rfl T.ab6 y_ (aa (ae 1) af)) (aN bO rfl T.ab6 y_ (aa (ar (ae 0) ah abZ) af)) (aP _))))) (ak (az fu)) aR)
  (ak (az (eD (aN (Nc rfl) rfl T.ad1 y_ (aa (aA (cF (sc:=(ao iT)) (N:=sY) (Nt:=["part"]) (Nf:=[]) (fi:=[]) rfl rfl rfl (bG (ae 1)) rfl y_ y_ y_ xp rfl y_ xp (λ_ _ _ _=>(ck xp (show((["part"]:List Str)++([]:List Str)).Nodup by decide +kernel) rfl (Or.inl rfl))) (λ_ _ _ _=>cD) (λ_ _ _ _=>(ay (p5 T) T.acw hr (aa (ae 0) af))))) af)) (fk (bW CM (ay (p7 T) T.adA hr (aa (ae 0) (aa (ae 1) af))) nR (aP _))))))))
  xE
theorem D3:ax yy ["ring","thing"] (ao nv):=⟨rfl,rfl,rfl,y_,rfl,y_,y_⟩
theorem D4(T:Tx K mg ad fd):ab5 T P w base 2 46 ["ring","thing"] 2 kO:=
 aQ (k:=1) T.adC.f D3 sf (λcdv A outer s H E hr=>(aj (bK (Wf.pb (cb (cA (aX (iJ uo rfl T.aca rfl T.acn y_ (ae 1)))) (cj (Wh (jg hr.units) (aN bO rfl T.ab6 y_ (aa (ae 1) af)) (aN bO rfl T.ab6 y_ (aa (ar (ae 0) ah abZ) af)) (aP _))))) (ak (az fu)) aR)
  (ak (az (aN (Nc rfl) rfl T.ad1 y_ (aa (aA (cF (sc:=(ao nv)) (N:=yy) (Nt:=["way"]) (Nf:=[]) (fi:=[]) rfl rfl rfl (bG (ae 1)) rfl y_ y_ y_ xp rfl y_ xp (λ_ _ _ _=>(ck xp (show((["way"]:List Str)++([]:List Str)).Nodup by decide +kernel) rfl (Or.inl rfl))) (λ_ _ _ _=>cD) (λ_ _ _ _=>(ay (wY T) T.acz hr (aa (ae 0) af))))) af))))))
  BU
theorem tM:ax Dw ["ring"] (ao o7):=⟨rfl,rfl,rfl,y_,rfl,y_,y_⟩
theorem Cf(T:Tx K mg ad fd):ab5 T P w base 8 47 ["ring"] 1 mG:=
 aQ (k:=7) T.adD.f tM pK (λcdv A outer s H E hr=>(aj (aF (i:=1) tM.nd rfl v6 (aA (ay (fh T) T.acp hr (aa (ae 0) af))))
  (ak (az (CU (aa (ar (ae 1) ah abZ) (aa (ay (i6 T) T.acW hr (aa (ae 0) (aa (ar (ae 1) ah abZ) af))) (aa (ar (ae 1) ah abZ) af))))))))
  zV
theorem GR:ax JO ["ring","thing","top"] (ao vL):=⟨rfl,rfl,rfl,y_,rfl,y_,y_⟩
theorem GS(T:Tx K mg ad fd):ab5 T P w base 9 48 ["ring","thing","top"] 3 si:=
 aQ (k:=8) T.adE.f GR wD (λcdv A outer s H E hr=>(ak (az (eD (ay (Af T) T.adB hr (aa (ae 0) (aa (ae 1) af))) (fk (bW (fX hr.units) (ar (ay (Kt T) T.adq hr (aa (ae 0) (aa (ae 1) af))) ah abZ) (ae 2) (aP _)))))))
  DP
theorem Cg:ax Dx ["ring","thing","top"] (ao o8):=⟨rfl,rfl,rfl,y_,rfl,y_,y_⟩
theorem Ci(T:Tx K mg ad fd):ab5 T P w base 7 49 ["ring","thing","top"] 3 mH:=
 aQ (k:=6) T.adF.f Cg pL (λcdv A outer s H E hr=>(ak (az (eD (ay (Kq T) T.adj hr (aa (ae 0) (aa (ae 1) af))) (fk (bW (fX hr.units) (ay (wW T) T.acS hr (aa (ae 0) (aa (ae 1) af))) (ae 2) (aP _)))))))
  zW
theorem Ag:ax By ["ring","thing"] (ao l9):=⟨rfl,rfl,rfl,y_,rfl,y_,y_⟩
theorem lh(T:Tx K mg ad fd):ab5 T P w base 10 50 ["ring","thing"] 2 eQ:=
 aQ (k:=9) T.acB.f Ag gj (λcdv A outer s H E hr=>(aj (bK (Wf.pb (cb (cA (aX (iJ lT rfl T.aca rfl T.acu y_ (ae 1)))) (cb (Wh (jg hr.units) (aN bO rfl T.ab6 y_ (aa (ae 1) af)) ah (aP _)) (cj (cA (aX (ay (p5 T) T.acw hr (aa (ar (ae 1) ah abZ) af)))))))) (ak (az fu)) aR)
  (ak (az (eD (ay (GS T) T.adE hr (aa (ae 0) (aa (ar (ae 1) ah abZ) (aa (ar (ae 1) ah abZ) af)))) (fk (ay (Ci T) T.adF hr (aa (ae 0) (aa (ar (ae 1) ah abZ) (aa (ar (ae 1) ah abZ) af))))))))))
  xF
theorem w5:ax xA ["ring","k"] (ao jm):=⟨rfl,rfl,rfl,y_,rfl,y_,y_⟩
theorem iB(T:Tx K mg ad fd):ab5 T P w base 1 51 ["ring","k"] 2 cS:=
 aQ (k:=0) T.acC.f w5 jw (λcdv A outer s H E hr=>(ak (az (aN (M5 rfl) rfl T.ad3 y_ (aa (ar (ar (ar (ae 0) ah abZ) (ae 1) abZ) ah abZ) (aa (ar (ar (ar (ae 0) ah abZ) (ae 1) abZ) ah abZ) af))))))
  t9
theorem ue:ax vM ["ring","k"] (ao g6):=⟨rfl,rfl,rfl,y_,rfl,y_,y_⟩
theorem lI(T:Tx K mg ad fd):ab5 T P w base 1 52 ["ring","k"] 2 dW:=
 aQ (k:=0) T.acX.f ue ib (λcdv A outer s H E hr=>(ak (az (aN (Q0 rfl) rfl T.ad6 y_ (aa (ar (ar (ar (ae 0) ah abZ) (ae 1) abZ) ah abZ) (aa (ar (ar (ar (ae 0) ah abZ) (ae 1) abZ) ah abZ) af))))))
  sj
theorem iC:ax Gv ["ring","k","l"] (ao rL):=⟨rfl,rfl,rfl,y_,rfl,y_,y_⟩
theorem D5(T:Tx K mg ad fd):ab5 T P w base 2 53 ["ring","k","l"] 3 pM:=
 aQ (k:=1) T.adG.f iC sq (λcdv A outer s H E hr=>(aj (aF (i:=3) iC.nd rfl v6 (aA (ay (iB T) T.acC hr (aa (ae 0) (aa (ae 1) af)))))
  (aj (aF (i:=4) iC.nd rfl v6 (aA (ay (lI T) T.acX hr (aa (ae 0) (aa (ae 1) af)))))
  (aj (aF (i:=5) iC.nd rfl v6 (aA (ay (iB T) T.acC hr (aa (ae 0) (aa (ae 2) af)))))
  (aj (aF (i:=6) iC.nd rfl v6 (aA (ay (lI T) T.acX hr (aa (ae 0) (aa (ae 2) af)))))
  (ak (az (QR (u5 (ae 3) (qk.cons oP (ae 5) (qk.cons oP (ae 4) (qk.one oP (ae 6))))) (fk (u5 (ae 5) (qk.cons oP (ae 3) (qk.cons oP (ae 6) (qk.one oP (ae 4))))))))))))))
  BW
theorem Cj:ax vN ["ring","sending"] (ao ky):=⟨rfl,rfl,rfl,y_,rfl,y_,y_⟩
theorem i7(T:Tx K mg ad fd):ab5 T P w base 2 54 ["ring","sending"] 2 cf:=
 aQ (k:=1) T.acq.f Cj pN (λcdv A outer s H E hr=>(ak (az (cF (sc:=(ao ky)) (N:=vN) (Nt:=["k","part"]) (Nf:=["ring"]) (fi:=[0]) rfl rfl rfl (iL rfl T.ace (ae 1)) rfl y_ y_ y_ xp rfl y_ xp (λ_ _ _ _=>(A3 rfl (dQ (i:=0) xp (show((["k","part"]:List Str)++(["ring"]:List Str)).Nodup by decide +kernel) rfl (Or.inl rfl) (dQ (i:=1) xp (show((["k","part"]:List Str)++(["ring"]:List Str)).Nodup by decide +kernel) rfl (Or.inl rfl) uW)))) (λ_ _ _ _=>(rf (Wf.pb (CG (aX (ay (b7 T) T.ab7 hr (aa (lO T.acb rfl) (aa (ae 1) af)))) (Eg (aX (ay (b7 T) T.ab7 hr (aa (ae 1) (aa (ar (ar (ar (ae 2) ah abZ) (ae 0) abZ) ah abZ) af))))))))) (λ_ _ _ _=>(ae 0))))))
  zX
theorem bS:ax nI ["ring","some"] (ao dF):=⟨rfl,rfl,rfl,y_,rfl,y_,y_⟩
theorem cZ(T:Tx K mg ad fd):ab5 T P w base 3 55 ["ring","some"] 2 a7:=
 aQ (k:=2) T.acD.f bS dG (λcdv A outer s H E hr=>(aj (bQ Z8 rfl (iL rfl T.ace (ae 1)) (nT rfl (bh (i:=2) bS.nd rfl v6 (bh (i:=3) bS.nd rfl v6 jf))) (ak (bQ Z8 rfl (bG (HL (ae 1) (aG gD (ae 2) ah) trivial)) (bT (i:=4) bS.nd rfl v6) (ak (bK (cA (aX (ay (D5 T) T.adG hr (aa (ae 0) (aa (ae 3) (aa (ae 4) af)))))) (ak (az (bt (aa (ae 3) (aa (ae 4) af))))) aR)))))
  (ak (az nR))))
  lM
theorem xY:ax zA ["part","way","amount"] (ao kB):=⟨rfl,rfl,rfl,y_,rfl,y_,y_⟩
theorem oE(T:Tx K mg ad fd):ab5 T P w base 4 56 ["part","way","amount"] 3 fP:=
 aQ (k:=3) T.acY.f xY kP (λcdv A outer s H E hr=>(ak (az (nS (Wh (fX hr.units) (ae 1) (lO T.ab9 rfl) (aP _)) (ay (sH T) T.acg hr (aa (ae 0) (aa (ae 2) af))) (ay (lg T) T.acd hr (aa (ae 0) (aa (ae 2) af)))))))
  wF
theorem tN:ax Dy ["sending","slide"] (ao o9):=⟨rfl,rfl,rfl,y_,rfl,y_,y_⟩
theorem tO(T:Tx K mg ad fd):ab5 T P w base 5 57 ["sending","slide"] 2 iY:=
 aQ (k:=4) T.acZ.f tN pO (λcdv A outer s H E hr=>(aj (aF (i:=2) tN.nd rfl v6 (qf Hz rfl T.acn y_ (aa (ae 0) af)))
  (aj (lS 2 (ar (ae 1) ah abZ) (ay (oE T) T.acY hr (aa (iK (jG 2 (ar (ae 1) ah abZ) abZ) (ar (ae 2) (ar (ae 1) ah abZ) abZ)) (aa (ar (ae 1) ah abZ) (aa (ar (ae 1) ah abZ) af)))))
  (aj (lS 2 (ar (ae 1) ah abZ) (ay (oE T) T.acY hr (aa (iK (jG 2 (ar (ae 1) ah abZ) abZ) (ar (ae 2) (ar (ae 1) ah abZ) abZ)) (aa (ar (ae 1) ah abZ) (aa (ar (ae 1) ah abZ) af)))))
  (ak (az (cQ 2)))))))
  zY
theorem m5:ax n4 ["ring","k","way","l","other"] (ao fN):=⟨rfl,rfl,rfl,y_,rfl,y_,y_⟩
theorem m6(T:Tx K mg ad fd):ab5 T P w base 2 58 ["ring","k","way","l","other"] 5 eR:=
 aQ (k:=1) T.ac0.f m5 jx (λcdv A outer s H E hr=>(aj (aF (i:=5) m5.nd rfl v6 (aA (ay (sI T) T.acA hr (aa (ae 0) (aa (ae 3) (aa (ae 4) af))))))
  (ak (az (Eh (aN (Rg rfl) rfl T.ad5 y_ (aa (aA (cF (sc:=(ao fN)) (N:=n4) (Nt:=["tie"]) (Nf:=["taken"]) (fi:=[5]) rfl rfl rfl (bG (ay (sI T) T.acA hr (aa (ae 0) (aa (ae 1) (aa (ae 2) af))))) rfl y_ y_ y_ xp rfl y_ xp (λ_ _ _ _=>(ck xp (show((["tie"]:List Str)++(["taken"]:List Str)).Nodup by decide +kernel) rfl (Or.inl rfl))) (λ_ _ _ _=>cD) (λ_ _ _ _=>(bW Om (ae 0) (ae 1) rfl)))) af)))))))
  ua
theorem nM:ax pd ["thing","asks"] (ao d3):=⟨rfl,rfl,rfl,y_,rfl,y_,y_⟩
theorem nN(T:Tx K mg ad fd):ab5 T P w base 4 59 ["thing","asks"] 2 dH:=
 aQ (k:=3) T.adH.f nM d6 (λcdv A outer s H E hr=>(aj (bK (Wf.pb (cb (cA (aX (iJ lT rfl T.aca rfl T.acu y_ (ae 0)))) (cj (Wh (jg hr.units) (aN bO rfl T.ab6 y_ (aa (ae 0) af)) ah (aP _))))) (ak (az fu)) aR)
  (aj (bK (Wf.pb (cb (cA (aX (ay (i5 T) T.acL hr (aa (ar (ae 0) ah abZ) (aa (ae 1) af))))) (cj (cA (aX (ay (i5 T) T.acL hr (aa (ar (ae 0) ah abZ) (aa (ae 1) af)))))))) (ak (az fu)) aR)
  (ak (az (eD (ay (wY T) T.acz hr (aa (ar (ae 0) ah abZ) af)) (eD (ay (wY T) T.acz hr (aa (ar (ae 0) ah abZ) af)) (fk (ay (p5 T) T.acw hr (aa (ar (ae 0) ah abZ) af))))))))))
  mI
theorem D6:ax Gw ["ring","sending","k","way"] (ao rM):=⟨rfl,rfl,rfl,y_,rfl,y_,y_⟩
theorem w7(T:Tx K mg ad fd):ab5 T P w base 4 60 ["ring","sending","k","way"] 4 kQ:=
 aQ (k:=3) T.ac1.f D6 su (λcdv A outer s H E hr=>(ak (az (nS (Wh (fX hr.units) (ae 3) (lO T.ab9 rfl) (aP _)) (ay (lg T) T.acd hr (aa (ar (ar (ar (ae 0) ah abZ) (ae 2) abZ) ah abZ) (aa (ar (ae 1) (ae 2) abZ) af))) (ar (ae 1) (ae 2) abZ)))))
  BY
theorem Ck:ax Dz ["ring","sending","slide"] (ao pf):=⟨rfl,rfl,rfl,y_,rfl,y_,y_⟩
theorem tP(T:Tx K mg ad fd):ab5 T P w base 5 61 ["ring","sending","slide"] 3 iZ:=
 aQ (k:=4) T.ac2.f Ck pP (λcdv A outer s H E hr=>(ak (az (ay (Ko T) T.adi hr (aa (aA (ay (w7 T) T.ac1 hr (aa (ae 0) (aa (ae 1) (aa (ar (ae 2) ah abZ) (aa (ar (ae 2) ah abZ) af)))))) (aa (aA (ay (w7 T) T.ac1 hr (aa (ae 0) (aa (ae 1) (aa (ar (ae 2) ah abZ) (aa (ar (ae 2) ah abZ) af)))))) af))))))
  zZ
theorem D7:ax Gx ["ring","sending","thing"] (ao rN):=⟨rfl,rfl,rfl,y_,rfl,y_,y_⟩
theorem D8(T:Tx K mg ad fd):ab5 T P w base 6 62 ["ring","sending","thing"] 3 pQ:=
 aQ (k:=5) T.adI.f D7 sx (λcdv A outer s H E hr=>by exact(@aj _ _ _ _ _ (@bK _ _ _ _ _ _ _ _ (Wf.pb (cb (cA (aX (ay (nN T) T.adH hr (@aa _ _ _ _ _ _ (ae 2) (@aa _ _ _ _ _ _ (@aA _ _ _ (aN bO rfl T.ab6 y_ (@aa _ _ _ _ _ _ (@ar _ _ _ _ _ _ (ae 0) ah abZ) af z_))) af z_) z_)))) (cj (Wh (fX hr.units) (@ar _ _ _ _ _ _ (ae 2) ah abZ) (@ar _ _ _ _ _ _ (ae 2) ah abZ) (aP _))))) (@ak _ _ _ (@az _ _ _ _ fu)) aR) (@aj _ _ _ _ _ (@bK _ _ _ _ _ _ _ _ (cA (aX (ay (m6 T) T.ac0 hr (@aa _ _ _ _ _ _ (ae 0) (@aa _ _ _ _ _ _ (@ar _ _ _ _ _ _ (ae 2) ah abZ) (@aa _ _ _ _ _ _ (@ar _ _ _ _ _ _ (ae 2) ah abZ) (@aa _ _ _ _ _ _ (@ar _ _ _ _ _ _ (ae 2) ah abZ) (@aa _ _ _ _ _ _ (@ar _ _ _ _ _ _ (ae 2) ah abZ) af z_) z_) z_) z_) z_)))) (@ak _ _ _ (@az _ _ _ _ fu)) aR) (@ak _ _ _ (@az _ _ _ _ (eD (ay (b7 T) T.ab7 hr (@aa _ _ _ _ _ _ (lO T.acb rfl) (@aa _ _ _ _ _ _ (@ar _ _ _ _ _ _ (ae 2) ah abZ) af z_) z_)) (fk (Eh (ay (b7 T) T.ab7 hr (@aa _ _ _ _ _ _ (@aA _ _ _ (ay (tP T) T.ac2 hr (@aa _ _ _ _ _ _ (ae 0) (@aa _ _ _ _ _ _ (ae 1) (@aa _ _ _ _ _ _ (ae 2) af z_) z_) z_))) (@aa _ _ _ _ _ _ (@ar _ _ _ _ _ _ (ae 2) ah abZ) af z_) z_))))))))))
  BZ
theorem j3:ax JP ["ring","sending","thing"] (ao vO):=⟨rfl,rfl,rfl,y_,rfl,y_,y_⟩
theorem yF(T:Tx K mg ad fd):ab5 T P w base 7 63 ["ring","sending","thing"] 3 jR:=
 aQ (k:=6) T.ac3.f j3 wH (λcdv A outer s H E hr=>(aj (bK (cA (aX (iJ uo rfl T.aca rfl T.acn y_ (ae 2)))) (ak uh) aR)
  (aj (aF (i:=3) j3.nd rfl v6 (qf Hz rfl T.acn y_ (aa (ae 1) af)))
  (aj (bQ Z8 rfl (iL rfl T.ace (ae 2)) (nT rfl (bh (i:=4) j3.nd rfl v6 (bh (i:=5) j3.nd rfl v6 jf))) (aj (bK (cA (aX (ay (D8 T) T.adI hr (aa (ae 0) (aa (ae 3) (aa (ae 5) af)))))) (ak uh) aR)
  (ak (aF (i:=3) j3.nd rfl v6 (ay (tO T) T.acZ hr (aa (ae 3) (aa (ae 5) af)))))))
  (ak (az (cQ 3)))))))
  DQ
theorem qP:ax Bz ["ring","k","l"] (ao ma):=⟨rfl,rfl,rfl,y_,rfl,y_,y_⟩
theorem Ah(T:Tx K mg ad fd):ab5 T P w base 3 64 ["ring","k","l"] 3 kR:=
 aQ (k:=2) T.adJ.f qP mJ (λcdv A outer s H E hr=>by exact(@aj _ _ _ _ _ (bQ Z8 rfl (bG (@bt _ _ _ _ _ _ (@aa _ _ _ _ _ _ (@bt _ _ _ _ _ _ (@aa _ _ _ _ _ _ (lO T.ab9 rfl) (@aa _ _ _ _ _ _ (lO T.ab9 rfl) af z_) z_)) (@aa _ _ _ _ _ _ (@bt _ _ _ _ _ _ (@aa _ _ _ _ _ _ (lO T.ab9 rfl) (@aa _ _ _ _ _ _ (lO T.acf rfl) af z_) z_)) (@aa _ _ _ _ _ _ (@bt _ _ _ _ _ _ (@aa _ _ _ _ _ _ (lO T.acf rfl) (@aa _ _ _ _ _ _ (lO T.ab9 rfl) af z_) z_)) af z_) z_) z_))) (bT (i:=3) qP.nd rfl v6) (@ak _ _ _ (@bK _ _ _ _ _ _ _ _ (aX (ay (m6 T) T.ac0 hr (@aa _ _ _ _ _ _ (ae 0) (@aa _ _ _ _ _ _ (ae 1) (@aa _ _ _ _ _ _ (@ar _ _ _ _ _ _ (ae 3) ah abZ) (@aa _ _ _ _ _ _ (ae 2) (@aa _ _ _ _ _ _ (@ar _ _ _ _ _ _ (ae 3) ah abZ) af z_) z_) z_) z_) z_))) (@ak _ _ _ (@az _ _ _ _ (cQ 3))) aR))) (@ak _ _ _ (@az _ _ _ _ (@bt _ _ _ _ _ _ (@aa _ _ _ _ _ _ (lO T.acf rfl) (@aa _ _ _ _ _ _ (lO T.acf rfl) af z_) z_))))))
  xG
theorem fJ:ax t4 ["ring","sending","k","l"] (ao gy):=⟨rfl,rfl,rfl,y_,rfl,y_,y_⟩
theorem sJ(T:Tx K mg ad fd):ab5 T P w base 6 65 ["ring","sending","k","l"] 4 fE:=
 aQ (k:=5) T.adK.f fJ gB (λcdv A outer s H E hr=>(aj (aF (i:=4) fJ.nd rfl v6 (aA (ay (Ah T) T.adJ hr (aa (ae 0) (aa (ae 2) (aa (ae 3) af))))))
  (aj (aF (i:=5) fJ.nd rfl v6 (bt (aa (ae 2) (aa (ar (ae 4) ah abZ) (aa (ae 3) (aa (ar (ae 4) ah abZ) af))))))
  (ak (az (aG OE (ae 5) (bt (aa (aA (ay (tP T) T.ac2 hr (aa (ae 0) (aa (ae 1) (aa (ae 5) af))))) af))))))))
  qL
theorem cx:ax BA ["ring","sending"] (ao me):=⟨rfl,rfl,rfl,y_,rfl,y_,y_⟩
theorem Ai(T:Tx K mg ad fd):ab5 T P w base 7 66 ["ring","sending"] 2 kT:=
 aQ (k:=6) T.adL.f cx mK (λcdv A outer s H E hr=>by exact(@aj _ _ _ _ _ (@aF _ _ _ 2 _ _ _ cx.nd rfl v6 (ae 1) z_ aes) (@aj _ _ _ _ _ (@aF _ _ _ 3 _ _ _ cx.nd rfl v6 (@gS _ _ _ _ _ af) z_ aes) (@aj _ _ _ _ _ (@aF _ _ _ 4 _ _ _ cx.nd rfl v6 (@aA _ _ _ (ay (cZ T) T.acD hr (@aa _ _ _ _ _ _ (ae 0) (@aa _ _ _ _ _ _ (@aA _ _ _ (ay (i7 T) T.acq hr (@aa _ _ _ _ _ _ (ae 0) (@aa _ _ _ _ _ _ (ae 2) af z_) z_))) af z_) z_))) z_ aes) (@aj _ _ _ _ _ (uj Z8 (Wh Ep (ae 4) nR (aP _)) (@aj _ _ _ _ _ (@aF _ _ _ 5 _ _ _ cx.nd rfl v6 (@aA _ _ _ (ay (sJ T) T.adK hr (@aa _ _ _ _ _ _ (ae 0) (@aa _ _ _ _ _ _ (ae 2) (@aa _ _ _ _ _ _ (@ar _ _ _ _ _ _ (ae 4) ah abZ) (@aa _ _ _ _ _ _ (@ar _ _ _ _ _ _ (ae 4) ah abZ) af z_) z_) z_) z_))) z_ aes) (@aj _ _ _ _ _ (qX (lR 3 (ae 5))) (@aj _ _ _ _ _ (@aF _ _ _ 2 _ _ _ cx.nd rfl v6 (@aA _ _ _ (ay (tO T) T.acZ hr (@aa _ _ _ _ _ _ (ae 2) (@aa _ _ _ _ _ _ (ae 5) af z_) z_))) z_ aes) (@ak _ _ _ (@aF _ _ _ 4 _ _ _ cx.nd rfl v6 (@aA _ _ _ (ay (cZ T) T.acD hr (@aa _ _ _ _ _ _ (ae 0) (@aa _ _ _ _ _ _ (@aA _ _ _ (ay (i7 T) T.acq hr (@aa _ _ _ _ _ _ (ae 0) (@aa _ _ _ _ _ _ (ae 2) af z_) z_))) af z_) z_))) z_ aes)))))) (@ak _ _ _ (@az _ _ _ _ (cQ 3))))))))
  xH
theorem xZ:ax zB ["ask","part"] (ao kC):=⟨rfl,rfl,rfl,y_,rfl,y_,y_⟩
theorem oF(T:Tx K mg ad fd):ab5 T P w base 1 67 ["ask","part"] 2 fQ:=
 aQ (k:=0) T.ac4.f xZ kU (λcdv A outer s H E hr=>(ak (az (nS (Wh (fX hr.units) (ae 1) (ar (ae 0) ah abZ) (aP _)) (lO T.ab9 rfl) (lO T.acf rfl)))))
  wJ
theorem eA:ax qC ["ring","slid","parted","ways"] (ao eM):=⟨rfl,rfl,rfl,y_,rfl,y_,y_⟩
theorem p8(T:Tx K mg ad fd):ab5 T P w base 2 68 ["ring","slid","parted","ways"] 4 d7:=
 aQ (k:=1) T.adM.f eA eU (λcdv A outer s H E hr=>(aj (bQ Z8 rfl (iL rfl T.ace (ar (ae 0) ah abZ)) (nT rfl (bh (i:=4) eA.nd rfl v6 (bh (i:=5) eA.nd rfl v6 jf))) (ak (bK (Wf.pb (CG (Wh K2 (ae 4) (ae 2) rfl) (CG (Wh (jg hr.units) (ar (ae 5) ah abZ) (lO T.acb rfl) (aP _)) (Eg (Wh (jg hr.units) (ar (ae 3) (ae 4) abZ) (ay (oF T) T.ac4 hr (aa (ae 5) (aa (ar (ae 1) (ae 4) abZ) af))) (aP _)))))) (ak (az fu)) aR)))
  (ak (az fu))))
  nK
theorem cy:ax qD ["ring","some"] (ao eN):=⟨rfl,rfl,rfl,y_,rfl,y_,y_⟩
theorem iD(T:Tx K mg ad fd):ab5 T P w base 4 69 ["ring","some"] 2 cu:=
 aQ (k:=3) T.ac5.f cy eV (λcdv A outer s H E hr=>(aj (aF (i:=2) cy.nd rfl v6 (lO T.acb rfl))
  (aj (bQ Z8 rfl (bG (ae 1)) (bT (i:=3) cy.nd rfl v6) (ak (aF (i:=2) cy.nd rfl v6 (aA (ay (GL T) T.adh hr (aa (ae 2) (aa (ar (ar (ar (ae 0) ah abZ) (ae 3) abZ) ah abZ) af)))))))
  (ak (az (ay (z9 T) T.acx hr (aa (ae 2) (aa (lO T.ad8 rfl) af))))))))
  nL
theorem lN(T:Tx K mg ad fd):OK P w K mg base 2 "by_lesser_place" cH:=Rl (k:=1) (p:="k") (y:="ring") (T.adN.lam.trans rfl) (SS rfl rfl rfl rfl rfl rfl λ_ _ _ _ _ _=>rfl) cV (λA outer s H f c c' hr=>(ay (iB T) T.acC hr (aa (ae 1) (aa (ae 0) af)))) kW
theorem qQ:ax rO ["ring","some"] (ao dh):=⟨rfl,rfl,rfl,y_,rfl,y_,y_⟩
theorem i8(T:Tx K mg ad fd):ab5 T P w base 5 70 ["ring","some"] 2 cM:=
 Rp (k:=4) T.ac6.f qQ fF (λcdv A outer s H E hcv hr=>(ak (az (Lj (lN T) hr 0 (Ro T.adN hcv rfl xp rfl rfl rfl rfl rfl rfl) (ae 1) T.ad4))))
  pR
theorem Aj:ax BB ["ring","k"] (ao mf):=⟨rfl,rfl,rfl,y_,rfl,y_,y_⟩
theorem lj(T:Tx K mg ad fd):ab5 T P w base 1 71 ["ring","k"] 2 eW:=
 aQ (k:=0) T.acE.f Aj mL (λcdv A outer s H E hr=>(ak (az (nS (Wh oP (ar (ar (ar (ae 0) ah abZ) (ae 1) abZ) ah abZ) (ar (ar (ar (ae 0) ah abZ) (ae 1) abZ) ah abZ) (aP _)) (lO T.ab9 rfl) (lO T.acf rfl)))))
  xI
theorem sL:ax JQ ["ring","sending","k","way"] (ao vP):=⟨rfl,rfl,rfl,y_,rfl,y_,y_⟩
theorem sM(T:Tx K mg ad fd):ab5 T P w base 4 72 ["ring","sending","k","way"] 4 gQ:=
 aQ (k:=3) T.acF.f sL wK (λcdv A outer s H E hr=>(aj (aF (i:=4) sL.nd rfl v6 (ar (ar (ar (ae 0) ah abZ) (ae 2) abZ) ah abZ))
  (aj (aF (i:=5) sL.nd rfl v6 (aA (nS (Wh (fX hr.units) (ay (lj T) T.acE hr (aa (ae 0) (aa (ae 2) af))) (lO T.ab9 rfl) (aP _)) (ar (ae 1) (ae 2) abZ) (ay (lg T) T.acd hr (aa (ae 4) (aa (ar (ae 1) (ae 2) abZ) af))))))
  (ak (az (ay (lg T) T.acd hr (aa (nS (Wh (fX hr.units) (ae 3) (ay (lj T) T.acE hr (aa (ae 0) (aa (ae 2) af))) (aP _)) (ae 4) (lO T.acb rfl)) (aa (ae 5) af))))))))
  DT
theorem c7:ax xB ["ring","slid","parted","ways"] (ao jn):=⟨rfl,rfl,rfl,y_,rfl,y_,y_⟩
theorem w8(T:Tx K mg ad fd):ab5 T P w base 6 73 ["ring","slid","parted","ways"] 4 ic:=
 aQ (k:=5) T.adO.f c7 jz (λcdv A outer s H E hr=>by exact(@aj _ _ _ _ _ (@aF _ _ _ 4 _ _ _ c7.nd rfl v6 (@aA _ _ _ (ay (iD T) T.ac5 hr (@aa _ _ _ _ _ _ (ae 0) (@aa _ _ _ _ _ _ (ae 2) af z_) z_))) z_ aes) (@aj _ _ _ _ _ (@aF _ _ _ 5 _ _ _ c7.nd rfl v6 (lO T.acb rfl) z_ aes) (@aj _ _ _ _ _ (bQ Z8 rfl (bG (ay (i8 T) T.ac6 hr (@aa _ _ _ _ _ _ (ae 0) (@aa _ _ _ _ _ _ (ae 2) af z_) z_))) (bT (i:=6) c7.nd rfl v6) (@aj _ _ _ _ _ (@aF _ _ _ 5 _ _ _ c7.nd rfl v6 (@aA _ _ _ (ay (sH T) T.acg hr (@aa _ _ _ _ _ _ (ae 5) (@aa _ _ _ _ _ _ (@aA _ _ _ (ay (sM T) T.acF hr (@aa _ _ _ _ _ _ (ae 0) (@aa _ _ _ _ _ _ (ae 1) (@aa _ _ _ _ _ _ (ae 6) (@aa _ _ _ _ _ _ (@ar _ _ _ _ _ _ (ae 3) (ae 6) abZ) af z_) z_) z_) z_))) af z_) z_))) z_ aes) (@ak _ _ _ (@bK _ _ _ _ _ _ _ _ (Wf.pb (cb (aX (ay (b7 T) T.ab7 hr (@aa _ _ _ _ _ _ (ae 4) (@aa _ _ _ _ _ _ (ae 5) af z_) z_))) (cj (aX (ay (b7 T) T.ab7 hr (@aa _ _ _ _ _ _ (ae 5) (@aa _ _ _ _ _ _ (@aA _ _ _ (ay (lg T) T.acd hr (@aa _ _ _ _ _ _ (lO T.acb rfl) (@aa _ _ _ _ _ _ (ae 4) af z_) z_))) af z_) z_)))))) (@ak _ _ _ (@az _ _ _ _ fu)) aR)))) (@ak _ _ _ (@az _ _ _ _ fu))))))
  ub
theorem gC:ax vQ ["ring","sending","thing"] (ao g7):=⟨rfl,rfl,rfl,y_,rfl,y_,y_⟩
theorem uf(T:Tx K mg ad fd):ab5 T P w base 8 74 ["ring","sending","thing"] 3 cC:=
 aQ (k:=7) T.adP.f gC ie (λcdv A outer s H E hr=>by exact(@aj _ _ _ _ _ (@bK _ _ _ _ _ _ _ _ (Wf.pb (cb (cA (aX (iJ lT rfl T.aca rfl T.acu y_ (ae 2)))) (cb (Wh (jg hr.units) (aN bO rfl T.ab6 y_ (@aa _ _ _ _ _ _ (ae 2) af z_)) ah (aP _)) (cj (cA (aX (ay (D4 T) T.adC hr (@aa _ _ _ _ _ _ (ae 0) (@aa _ _ _ _ _ _ (@ar _ _ _ _ _ _ (ae 2) ah abZ) af z_) z_)))))))) (@ak _ _ _ (@az _ _ _ _ fu)) aR) (@aj _ _ _ _ _ (Rh (λ_ _ z=>z) (@ak _ _ _ (@aF _ _ _ 3 _ _ _ gC.nd rfl v6 (@aA _ _ _ (ay (yF T) T.ac3 hr (@aa _ _ _ _ _ _ (ae 0) (@aa _ _ _ _ _ _ (ae 1) (@aa _ _ _ _ _ _ (@ar _ _ _ _ _ _ (ae 2) ah abZ) af z_) z_) z_))) z_ aes))) (@aj _ _ _ _ _ (@aF _ _ _ 4 _ _ _ gC.nd rfl v6 (@aA _ _ _ (ay (i7 T) T.acq hr (@aa _ _ _ _ _ _ (ae 0) (@aa _ _ _ _ _ _ (ae 3) af z_) z_))) z_ aes) (@aj _ _ _ _ _ (@bK _ _ _ _ _ _ _ _ (Wh Ep (ay (cZ T) T.acD hr (@aa _ _ _ _ _ _ (ae 0) (@aa _ _ _ _ _ _ (ae 4) af z_) z_)) nR (aP _)) (@ak _ _ _ (@az _ _ _ _ fu)) aR) (@ak _ _ _ (@az _ _ _ _ (eD (ay (p8 T) T.adM hr (@aa _ _ _ _ _ _ (ae 0) (@aa _ _ _ _ _ _ (ae 3) (@aa _ _ _ _ _ _ (ae 4) (@aa _ _ _ _ _ _ (@ar _ _ _ _ _ _ (ae 2) ah abZ) af z_) z_) z_) z_)) (fk (ay (w8 T) T.adO hr (@aa _ _ _ _ _ _ (ae 0) (@aa _ _ _ _ _ _ (ae 3) (@aa _ _ _ _ _ _ (ae 4) (@aa _ _ _ _ _ _ (@ar _ _ _ _ _ _ (ae 2) ah abZ) af z_) z_) z_) z_)))))))))))
  sy
theorem bL:ax n5 ["ring","slid"] (ao fO):=⟨rfl,rfl,rfl,y_,rfl,y_,y_⟩
theorem w9(T:Tx K mg ad fd):ab5 T P w base 6 75 ["ring","slid"] 2 ig:=
 aQ (k:=5) T.adQ.f bL jA (λcdv A outer s H E hr=>by exact(@aj _ _ _ _ _ (@aF _ _ _ 2 _ _ _ bL.nd rfl v6 (@aA _ _ _ (ay (i7 T) T.acq hr (@aa _ _ _ _ _ _ (ae 0) (@aa _ _ _ _ _ _ (ae 1) af z_) z_))) z_ aes) (@aj _ _ _ _ _ (rg bL.nd (j:=3) rfl v6 (sc:=(ao fO)) (N:=n5) (Nt:=[ "ask" ,"part" ]) (Nf:=[]) (fi:=[]) rfl rfl rfl (CP rfl T.ade (@ar _ _ _ _ _ _ (ae 0) ah abZ) (ae 1)) rfl y_ y_ y_ xp rfl y_ xp (λ_ _ _ _=>(A3 rfl (dQ (i:=0) xp (show(([ "ask" ,"part" ]:List Str)++([]:List Str)).Nodup by decide +kernel) rfl (Or.inl rfl) (dQ (i:=1) xp (show(([ "ask" ,"part" ]:List Str)++([]:List Str)).Nodup by decide +kernel) rfl (Or.inl rfl) uW)))) (λ_ _ _ _=>cD) (λ_ _ _ _=>(ay (oF T) T.ac4 hr (@aa _ _ _ _ _ _ (ae 0) (@aa _ _ _ _ _ _ (ae 1) af z_) z_)))) (@aj _ _ _ _ _ (@aF _ _ _ 4 _ _ _ bL.nd rfl v6 (@aA _ _ _ (ay (iD T) T.ac5 hr (@aa _ _ _ _ _ _ (ae 0) (@aa _ _ _ _ _ _ (ae 2) af z_) z_))) z_ aes) (@aj _ _ _ _ _ (@aF _ _ _ 5 _ _ _ bL.nd rfl v6 (lO T.acb rfl) z_ aes) (@aj _ _ _ _ _ (bQ Z8 rfl (bG (ay (i8 T) T.ac6 hr (@aa _ _ _ _ _ _ (ae 0) (@aa _ _ _ _ _ _ (ae 2) af z_) z_))) (bT (i:=6) bL.nd rfl v6) (@aj _ _ _ _ _ (lS 3 (ae 6) (ay (lj T) T.acE hr (@aa _ _ _ _ _ _ (ae 0) (@aa _ _ _ _ _ _ (ae 6) af z_) z_))) (@aj _ _ _ _ _ (@bK _ _ _ _ _ _ _ _ (aX (ay (b7 T) T.ab7 hr (@aa _ _ _ _ _ _ (ae 4) (@aa _ _ _ _ _ _ (@aA _ _ _ (ay (sH T) T.acg hr (@aa _ _ _ _ _ _ (ae 5) (@aa _ _ _ _ _ _ (@aA _ _ _ (ay (sM T) T.acF hr (@aa _ _ _ _ _ _ (ae 0) (@aa _ _ _ _ _ _ (ae 1) (@aa _ _ _ _ _ _ (ae 6) (@aa _ _ _ _ _ _ (@iK _ _ _ _ _ (jG 3 (ae 6) abZ) (@ar _ _ _ _ _ _ (ae 3) (ae 6) abZ)) af z_) z_) z_) z_))) af z_) z_))) af z_) z_))) (@ak _ _ _ (lS 3 (ae 6) (ay (B9 T) T.adl hr (@aa _ _ _ _ _ _ (@iK _ _ _ _ _ (jG 3 (ae 6) abZ) (@ar _ _ _ _ _ _ (ae 3) (ae 6) abZ)) af z_)))) aR) (@ak _ _ _ (@aF _ _ _ 5 _ _ _ bL.nd rfl v6 (@aA _ _ _ (ay (sH T) T.acg hr (@aa _ _ _ _ _ _ (ae 5) (@aa _ _ _ _ _ _ (@aA _ _ _ (ay (sM T) T.acF hr (@aa _ _ _ _ _ _ (ae 0) (@aa _ _ _ _ _ _ (ae 1) (@aa _ _ _ _ _ _ (ae 6) (@aa _ _ _ _ _ _ (@iK _ _ _ _ _ (jG 3 (ae 6) abZ) (@ar _ _ _ _ _ _ (ae 3) (ae 6) abZ)) af z_) z_) z_) z_))) af z_) z_))) z_ aes))))) (@ak _ _ _ (@az _ _ _ _ (cQ 3)))))))))
  uc
theorem oG:ax zC ["ring","sending"] (ao kD):=⟨rfl,rfl,rfl,y_,rfl,y_,y_⟩
theorem x9(T:Tx K mg ad fd):ab5 T P w base 8 76 ["ring","sending"] 2 jB:=
 aQ (k:=7) T.adR.f oG kX (λcdv A outer s H E hr=>(aj (aF (i:=2) oG.nd rfl v6 (ay (Ai T) T.adL hr (aa (ae 0) (aa (ae 1) af))))
  (ak (az (OP 2 (uM 2 (aa (ay (w9 T) T.adQ hr (aa (ae 0) (aa (aA (HX 2 (ay (yF T) T.ac3 hr (aa (ae 0) (aa (ae 1) (aa (ae 2) af)))))) af))) af)))))))
  wL
theorem gn:ax DA ["_law_state","_law_many"] (ao ph):=⟨rfl,rfl,rfl,y_,rfl,y_,y_⟩
theorem gp(T:Tx K mg ad fd):ab5 T P w base 1 77 ["_law_state","_law_many"] 2 cW:=
 aQ (k:=0) T.acj.f gn pS (λcdv A outer s H E hr=>(aj (bK (aX (iK (jG 0 ah abZ) (ar (ae 0) ah abZ))) (aj (aF (i:=2) gn.nd rfl v6 (aG gE (iK (jG 0 ah abZ) (ar (ae 0) ah abZ)) (ae 1)))
  (aj (lS 0 ah (aG qe (iK (jG 0 ah abZ) (ar (ae 0) ah abZ)) (ae 1)))
  (aj (lS 0 ah (bW Of (iK (jG 0 ah abZ) (ar (ae 0) ah abZ)) ah (aP _)))
  (ak (az (cQ 2)))))) aR)
  (aj (aF (i:=3) gn.nd rfl v6 ah)
  (aj (bQ Z8 rfl (c9 rfl T.ab8 (aG gD ah (aG a8 ah (qf M6 rfl T.acK y_ (aa (bW Of (ae 1) (aG M4 ah ah) (aP _)) af))))) (bT (i:=4) gn.nd rfl v6) (aj (lS 0 ah (aG gE (aG gD (aG a8 (iK (jG 0 ah abZ) (ar (ae 0) ah abZ)) ah) ah) ah))
  (ak (aF (i:=3) gn.nd rfl v6 (aA (aG gD (aG a8 (ae 3) ah) (aG gE (aG a8 (iK (jG 0 ah abZ) (ar (ae 0) ah abZ)) (iK (jG 0 ah abZ) (ar (ae 0) ah abZ))) ah)))))))
  (ak (az (aG gE (aG qe (ae 3) ah) (ae 1))))))))
  z4
theorem ll:ax BC ["_law_script","_law_k"] (ao mh):=⟨rfl,rfl,rfl,y_,rfl,y_,y_⟩
theorem lp(T:Tx K mg ad fd):ab5 T P w base 1 78 ["_law_script","_law_k"] 2 eX:=
 aQ (k:=0) T.acG.f ll mM (λcdv A outer s H E hr=>(aj (aF (i:=2) ll.nd rfl v6 ah)
  (aj (bK (Wh oP (ae 1) (aN bO rfl T.ab6 y_ (aa (ae 0) af)) (aP _)) (ak (aF (i:=2) ll.nd rfl v6 (ar (ae 0) (ae 1) abZ))) aR)
  (ak (az (gS (aa (ae 2) (aa (aG gE (aG gD (aG gD (aG gE (ae 2) ah) (aG a8 (aG a8 ah (ae 1)) (ae 1))) ah) ah) (aa (bW QX (ae 2) (aG M4 ah ah) (aP _)) af)))))))))
  xJ
theorem bA:ax tj ["_law_script"] (ao iU):=⟨rfl,rfl,rfl,y_,rfl,y_,y_⟩
theorem Ak(T:Tx K mg ad fd):ab5 T P w base 2 79 ["_law_script"] 1 kZ:=
 aQ (k:=1) T.adS.f bA mN (λcdv A outer s H E hr=>by exact(@aj _ _ _ _ _ (@aF _ _ _ 1 _ _ _ bA.nd rfl v6 (@aA _ _ _ (ay (gp T) T.acj hr (@aa _ _ _ _ _ _ (ay (lp T) T.acG hr (@aa _ _ _ _ _ _ (ae 0) (@aa _ _ _ _ _ _ ah af z_) z_)) (@aa _ _ _ _ _ _ ah af z_) z_))) z_ aes) (@aj _ _ _ _ _ (@aF _ _ _ 2 _ _ _ bA.nd rfl v6 (@ar _ _ _ _ _ _ (@gS _ _ _ _ _ (@aa _ _ _ _ _ _ ah (@aa _ _ _ _ _ _ ah (@aa _ _ _ _ _ _ ah af z_) z_) z_)) (ae 1) abZ) z_ aes) (@aj _ _ _ _ _ (@aF _ _ _ 3 _ _ _ bA.nd rfl v6 (ay (lp T) T.acG hr (@aa _ _ _ _ _ _ (ae 0) (@aa _ _ _ _ _ _ ah af z_) z_)) z_ aes) (@aj _ _ _ _ _ (rg bA.nd (j:=4) rfl v6 (sc:=(ao iU)) (N:=tj) (Nt:=[ "_law_place" ]) (Nf:=[ "_law_state" ]) (fi:=[3]) rfl rfl rfl (c9 rfl T.ab8 (ae 2)) rfl y_ y_ y_ xp rfl y_ xp (λ_ _ _ _=>(ck xp (show(([ "_law_place" ]:List Str)++([ "_law_state" ]:List Str)).Nodup by decide +kernel) rfl (Or.inl rfl))) (λ_ _ _ _=>cD) (λ_ _ _ _=>(@bt _ _ _ _ _ _ (@aa _ _ _ _ _ _ (@aA _ _ _ (@aG _ _ _ _ _ _ _ _ gD ah (ED (gp T) T.acj hr 0 1 (uM 1 (@aa _ _ _ _ _ _ ah af z_))))) (@aa _ _ _ _ _ _ ah af z_) z_)))) (@aj _ _ _ _ _ (@aF _ _ _ 3 _ _ _ bA.nd rfl v6 (ay (lp T) T.acG hr (@aa _ _ _ _ _ _ (ae 0) (@aa _ _ _ _ _ _ ah af z_) z_)) z_ aes) (@aj _ _ _ _ _ (@aF _ _ _ 5 _ _ _ bA.nd rfl v6 (@gS _ _ _ _ _ af) z_ aes) (@aj _ _ _ _ _ (bQ Z8 rfl (c9 rfl T.ab8 (@ar _ _ _ _ _ _ (@gS _ _ _ _ _ (@aa _ _ _ _ _ _ ah (@aa _ _ _ _ _ _ ah (@aa _ _ _ _ _ _ ah af z_) z_) z_)) (ae 1) abZ)) (bT (i:=6) bA.nd rfl v6) (@aj _ _ _ _ _ (@aF _ _ _ 7 _ _ _ bA.nd rfl v6 (@aA _ _ _ (ED (gp T) T.acj hr 0 3 (uM 3 (@aa _ _ _ _ _ _ (ae 2) af z_)))) z_ aes) (@aj _ _ _ _ _ (@aF _ _ _ 8 _ _ _ bA.nd rfl v6 (@aG _ _ _ _ _ _ _ _ gE (@aG _ _ _ _ _ _ _ _ gD (@aG _ _ _ _ _ _ _ _ gD (ae 7) ah) (ED (gp T) T.acj hr 0 3 (uM 3 (@aa _ _ _ _ _ _ (@aG _ _ _ _ _ _ _ _ jF (ae 2) ah) af z_)))) (ae 2)) z_ aes) (@ak _ _ _ (qX (lR 5 (@bt _ _ _ _ _ _ (@aa _ _ _ _ _ _ (@ar _ _ _ _ _ _ uL (ae 6) abZ) (@aa _ _ _ _ _ _ (ae 7) (@aa _ _ _ _ _ _ (ae 8) (@aa _ _ _ _ _ _ (@bt _ _ _ _ _ _ (@aa _ _ _ _ _ _ (@aA _ _ _ (ED (gp T) T.acj hr 0 3 (uM 3 (@aa _ _ _ _ _ _ ah af z_)))) (@aa _ _ _ _ _ _ ah af z_) z_)) af z_) z_) z_) z_)))))))) (@ak _ _ _ (@az _ _ _ _ (@bt _ _ _ _ _ _ (@aa _ _ _ _ _ _ (ae 4) (@aa _ _ _ _ _ _ (ae 5) af z_) z_))))))))))))
  xK
theorem iE:ax Gy ["_law_top_here","_law_bottom"] (ao rP):=⟨rfl,rfl,rfl,y_,rfl,y_,y_⟩
theorem iF(T:Tx K mg ad fd):ab5 T P w base 1 80 ["_law_top_here","_law_bottom"] 2 d8:=
 aQ (k:=0) T.ack.f iE sD (λcdv A outer s H E hr=>(aj (aF (i:=2) iE.nd rfl v6 (aA (aN Hw rfl T.acm y_ (aa (ae 0) af))))
  (aj (aF (i:=3) iE.nd rfl v6 (aA (aN Hw rfl T.acm y_ (aa (ae 1) af))))
  (aj (uj Z8 (Wh (jg hr.units) (ae 2) ah (aP _)) (ak (Q1 (i:=2) (j:=3) rfl iE.nd rfl rfl xp rfl rfl (aG gE (ae 3) (ae 2)) (ae 2) rfl)))
  (aj (bK (Wh oP (ae 1) ah (aP _)) (ak (aF (i:=3) iE.nd rfl v6 (aG jF ah (ae 3)))) aR)
  (ak (az (bt (aa (aG qe (ae 0) (ae 3)) (aa (aG qe (ae 1) (ae 3)) af))))))))))
  B2
theorem Al:ax BD ["_law_one","_law_other"] (ao mi):=⟨rfl,rfl,rfl,y_,rfl,y_,y_⟩
theorem lq(T:Tx K mg ad fd):ab5 T P w base 2 81 ["_law_one","_law_other"] 2 eY:=
 aQ (k:=1) T.acH.f Al mO (λcdv A outer s H E hr=>(ak (az (ay (iF T) T.ack hr (aa (aA (aG a8 (ar (ae 0) ah abZ) (ar (ae 1) ah abZ))) (aa (aA (aG a8 (ar (ae 0) ah abZ) (ar (ae 1) ah abZ))) af))))))
  xM
theorem Am:ax BE ["_law_one","_law_other"] (ao mj):=⟨rfl,rfl,rfl,y_,rfl,y_,y_⟩
theorem gO(T:Tx K mg ad fd):ab5 T P w base 1 82 ["_law_one","_law_other"] 2 du:=
 aQ (k:=0) T.acr.f Am mP (λcdv A outer s H E hr=>(ak (az (bW oP (aG a8 (ar (ae 0) ah abZ) (ar (ae 1) ah abZ)) (aG a8 (ar (ae 1) ah abZ) (ar (ae 0) ah abZ)) (aP _)))))
  xN
theorem An:ax BF ["_law_thing"] (ao ml):=⟨rfl,rfl,rfl,y_,rfl,y_,y_⟩
theorem qR(T:Tx K mg ad fd):ab5 T P w base 1 83 ["_law_thing"] 1 gM:=
 aQ (k:=0) T.ac7.f An i0 (λcdv A outer s H E hr=>(ak (az (eD (iJ HG rfl T.aca rfl T.acK y_ (ae 0)) (fk (Eh (iJ Em rfl T.aca rfl T.ad2 y_ (ae 0))))))))
  xO
theorem Ao:ax BG ["_law_thing"] (ao mn):=⟨rfl,rfl,rfl,y_,rfl,y_,y_⟩
theorem Ap(T:Tx K mg ad fd):ab5 T P w base 2 84 ["_law_thing"] 1 eZ:=
 aQ (k:=1) T.adT.f Ao mQ (λcdv A outer s H E hr=>(aj (bK (Wf.pb (cb (cA (aX (iJ lT rfl T.aca rfl T.acu y_ (ae 0)))) (cb (Wh (jg hr.units) (aN bO rfl T.ab6 y_ (aa (ae 0) af)) ah (aP _)) (cb (cA (aX (ay (qR T) T.ac7 hr (aa (ar (ae 0) ah abZ) af)))) (cj (cA (aX (ay (qR T) T.ac7 hr (aa (ar (ae 0) ah abZ) af))))))))) (ak (az fu)) aR)
  (ak (az (eD (bW Of (ar (ae 0) ah abZ) ah (aP _)) (fk (bW (fX hr.units) (ay (iF T) T.ack hr (aa (ar (ae 0) ah abZ) (aa (ar (ae 0) ah abZ) af))) (ae 0) (aP _))))))))
  xP
theorem i9:ax jM ["_law_ring","_law_thing"] (ao di):=⟨rfl,rfl,rfl,y_,rfl,y_,y_⟩
theorem qS(T:Tx K mg ad fd):ab5 T P w base 3 85 ["_law_ring","_law_thing"] 2 e8:=
 aQ (k:=2) T.adU.f i9 fG (λcdv A outer s H E hr=>(aj (bK (Wf.pb (cb (cA (aX (iJ uo rfl T.aca rfl T.acn y_ (ae 1)))) (cj (Wh (jg hr.units) (aN bO rfl T.ab6 y_ (aa (ae 1) af)) (aN bO rfl T.ab6 y_ (aa (ar (ae 0) ah abZ) af)) (aP _))))) (ak (az fu)) aR)
  (aj (bK (Wh (jg hr.units) (cF (sc:=(ao di)) (N:=jM) (Nt:=["_law_part"]) (Nf:=[]) (fi:=[]) rfl rfl rfl (bG (ae 1)) rfl y_ y_ y_ xp rfl y_ xp (λ_ _ _ _=>(ck xp (show((["_law_part"]:List Str)++([]:List Str)).Nodup by decide +kernel) rfl (Or.inl rfl))) (λ_ _ _ _=>(rf (cA (aX (ay (Ap T) T.adT hr (aa (ae 0) af)))))) (λ_ _ _ _=>(ae 0))) (gS af) (aP _)) (ak (az fu)) aR)
  (aj (bQ Z8 rfl (c9 rfl T.ab8 (aN bO rfl T.ab6 y_ (aa (ae 1) af))) (bT (i:=2) i9.nd rfl v6) (ak (bK (Wf.pb (cb (Wh oP (ar (ar (ae 1) (ae 2) abZ) ah abZ) ah (aP _)) (cj (aX (ay (gO T) T.acr hr (aa (ar (ar (ar (ae 0) ah abZ) (ae 2) abZ) ah abZ) (aa (ar (ae 1) (ae 2) abZ) af))))))) (ak (az fu)) aR)))
  (ak (az fu))))))
  pU
theorem c8:ax DB ["_law_ring","_law_k"] (ao pj):=⟨rfl,rfl,rfl,y_,rfl,y_,y_⟩
theorem Cm(T:Tx K mg ad fd):ab5 T P w base 1 86 ["_law_ring","_law_k"] 2 mR:=
 aQ (k:=0) T.adV.f c8 pV (λcdv A outer s H E hr=>(aj (HF (nT rfl (bh (i:=2) c8.nd rfl v6 (bh (i:=3) c8.nd rfl v6 (bh (i:=4) c8.nd rfl v6 (bh (i:=5) c8.nd rfl v6 jf))))) (ar (ar (ae 0) ah abZ) (ae 1) abZ))
  (aj (aF (i:=6) c8.nd rfl v6 (gS af))
  (aj (uj Z8 (Wh (jg hr.units) (ae 3) (ae 4) (aP _)) (aj (qX (lR 6 (ae 3)))
  (ak (aF (i:=3) c8.nd rfl v6 (aG gE (aG gD (ae 3) ah) (aN bO rfl T.ab6 y_ (aa (ar (ae 0) ah abZ) af)))))))
  (ak (az (cQ 6)))))))
  z5
theorem Aq:ax BH ["_law_one","_law_other"] (ao mq):=⟨rfl,rfl,rfl,y_,rfl,y_,y_⟩
theorem qT(T:Tx K mg ad fd):ab5 T P w base 2 87 ["_law_one","_law_other"] 2 gN:=
 aQ (k:=1) T.ac8.f Aq mS (λcdv A outer s H E hr=>(ak (az (ay (iF T) T.ack hr (aa (aG jF (aG a8 (ar (ae 0) ah abZ) (ar (ae 1) ah abZ)) (aG a8 (ar (ae 1) ah abZ) (ar (ae 0) ah abZ))) (aa (aA (aG a8 (ar (ae 0) ah abZ) (ar (ae 1) ah abZ))) af))))))
  xR
theorem Cn:ax DC ["_law_one","_law_other"] (ao pk):=⟨rfl,rfl,rfl,y_,rfl,y_,y_⟩
theorem ja(T:Tx K mg ad fd):ab5 T P w base 2 88 ["_law_one","_law_other"] 2 cX:=
 aQ (k:=1) T.acs.f Cn pW (λcdv A outer s H E hr=>(ak (az (ay (iF T) T.ack hr (aa (aA (aG gD (aG a8 (ar (ae 0) ah abZ) (ar (ae 1) ah abZ)) (aG a8 (ar (ae 1) ah abZ) (ar (ae 0) ah abZ)))) (aa (aA (aG a8 (ar (ae 0) ah abZ) (ar (ae 1) ah abZ))) af))))))
  z6
theorem dz:ax tw ["_law_ring","_law_parts"] (ao iV):=⟨rfl,rfl,rfl,y_,rfl,y_,y_⟩
theorem Ar(T:Tx K mg ad fd):ab5 T P w base 3 89 ["_law_ring","_law_parts"] 2 k6:=
 aQ (k:=2) T.adW.f dz mT (λcdv A outer s H E hr=>by exact(@aj _ _ _ _ _ (rg dz.nd (j:=2) rfl v6 (sc:=(ao iV)) (N:=tw) (Nt:=[ "_law_room" ]) (Nf:=[]) (fi:=[]) rfl rfl rfl (bG (@ar _ _ _ _ _ _ (ae 0) ah abZ)) rfl y_ y_ y_ xp rfl y_ xp (λ_ _ _ _=>(ck xp (show(([ "_law_room" ]:List Str)++([]:List Str)).Nodup by decide +kernel) rfl (Or.inl rfl))) (λ_ _ _ _=>cD) (λ_ _ _ _=>(@bt _ _ _ _ _ _ (@aa _ _ _ _ _ _ ah (@aa _ _ _ _ _ _ ah af z_) z_)))) (@aj _ _ _ _ _ (bQ Z8 rfl (c9 rfl T.ab8 (aN bO rfl T.ab6 y_ (@aa _ _ _ _ _ _ (ae 1) af z_))) (bT (i:=3) dz.nd rfl v6) (@aj _ _ _ _ _ (@aF _ _ _ 4 _ _ _ dz.nd rfl v6 (@aA _ _ _ (ay (Cm T) T.adV hr (@aa _ _ _ _ _ _ (ae 0) (@aa _ _ _ _ _ _ (ae 3) af z_) z_))) z_ aes) (@aj _ _ _ _ _ (@aF _ _ _ 5 _ _ _ dz.nd rfl v6 (@aA _ _ _ (ay (qT T) T.ac8 hr (@aa _ _ _ _ _ _ (@ar _ _ _ _ _ _ (@ar _ _ _ _ _ _ (@ar _ _ _ _ _ _ (ae 0) ah abZ) (ae 3) abZ) ah abZ) (@aa _ _ _ _ _ _ (@ar _ _ _ _ _ _ (ae 1) (ae 3) abZ) af z_) z_))) z_ aes) (@ak _ _ _ (bQ Z8 rfl (c9 rfl T.ab8 (@iK _ _ _ _ _ (Ol 2 rfl T.ab6) (aN bO rfl T.ab6 PySem.boot_len (@aa _ _ _ _ _ _ (ae 2) af z_)))) (bT (i:=6) dz.nd rfl v6) (@ak _ _ _ (lS 2 (ae 6) (ay (ja T) T.acs hr (@aa _ _ _ _ _ _ (@iK _ _ _ _ _ (jG 2 (ae 6) abZ) (@ar _ _ _ _ _ _ (ae 2) (ae 6) abZ)) (@aa _ _ _ _ _ _ (@ar _ _ _ _ _ _ (@gS _ _ _ _ _ (@aa _ _ _ _ _ _ (ae 5) (@aa _ _ _ _ _ _ (@ar _ _ _ _ _ _ (ae 1) (ae 3) abZ) af z_) z_)) (qf M6 rfl T.acK y_ (@aa _ _ _ _ _ _ (bW Om (ae 6) (ae 4) rfl) af z_)) abZ) af z_) z_))))))))) (@ak _ _ _ (@az _ _ _ _ (cQ 2))))))
  xS
theorem Co:ax DD ["_law_one","_law_other"] (ao pq):=⟨rfl,rfl,rfl,y_,rfl,y_,y_⟩
theorem tQ(T:Tx K mg ad fd):ab5 T P w base 2 90 ["_law_one","_law_other"] 2 i4:=
 aQ (k:=1) T.ac9.f Co pX (λcdv A outer s H E hr=>(ak (az (ay (iF T) T.ack hr (aa (aA (aG a8 (ar (ae 0) ah abZ) (ar (ae 1) ah abZ))) (aa (aA (aG a8 (ar (ae 0) ah abZ) (ar (ae 1) ah abZ))) af))))))
  z7
theorem fK:ax Gz ["_law_ring","_law_parts"] (ao rQ):=⟨rfl,rfl,rfl,y_,rfl,y_,y_⟩
theorem xa(T:Tx K mg ad fd):ab5 T P w base 4 91 ["_law_ring","_law_parts"] 2 k7:=
 aQ (k:=3) T.ada.f fK sE (λcdv A outer s H E hr=>(aj (aF (i:=2) fK.nd rfl v6 (bt (aa ah (aa ah af))))
  (aj (bQ Z8 rfl (CP rfl T.ade (ay (Ar T) T.adW hr (aa (ae 0) (aa (ae 1) af))) (ar (ae 0) ah abZ)) (nT rfl (bh (i:=3) fK.nd rfl v6 (bh (i:=4) fK.nd rfl v6 jf))) (aj (aF (i:=5) fK.nd rfl v6 (aA (ay (tQ T) T.ac9 hr (aa (ae 3) (aa (ae 4) af)))))
  (ak (bK (aX (ay (gO T) T.acr hr (aa (ae 2) (aa (ae 5) af)))) (ak (aF (i:=2) fK.nd rfl v6 (ae 5))) aR))))
  (ak (az (cQ 2))))))
  B3
theorem As:ax BI ["_law_cut","_law_one","_law_other"] (ao mr):=⟨rfl,rfl,rfl,y_,rfl,y_,y_⟩
theorem lr(T:Tx K mg ad fd):ab5 T P w base 1 92 ["_law_cut","_law_one","_law_other"] 3 fb:=
 aQ (k:=0) T.acI.f As mU (λcdv A outer s H E hr=>(ak (az (bW (jg hr.units) (uq K4 K5 (ar (ae 0) ah abZ) (ae 1) (ar (ae 0) ah abZ)) (uq K4 K5 (ar (ae 0) ah abZ) (ae 2) (ar (ae 0) ah abZ)) (aP _)))))
  xT
theorem bU:ax zD ["_law_ring","_law_cut"] (ao kE):=⟨rfl,rfl,rfl,y_,rfl,y_,y_⟩
theorem oH(T:Tx K mg ad fd):ab5 T P w base 3 93 ["_law_ring","_law_cut"] 2 fR:=
 aQ (k:=2) T.adb.f bU k8 (λcdv A outer s H E hr=>(aj (aF (i:=2) bU.nd rfl v6 (bt (aa ah (aa ah af))))
  (aj (bQ Z8 rfl (bG (ar (ae 0) ah abZ)) (nT rfl (bh (i:=3) bU.nd rfl v6 (bh (i:=4) bU.nd rfl v6 (bh (i:=5) bU.nd rfl v6 (bh (i:=6) bU.nd rfl v6 jf))))) (ak (bK (aX (ay (lr T) T.acI hr (aa (ae 1) (aa (ae 4) (aa (ae 5) af))))) (ak (aF (i:=2) bU.nd rfl v6 (ay (ja T) T.acs hr (aa (ae 2) (aa (ae 6) af))))) aR)))
  (ak (az (cQ 2))))))
  wN
theorem Au:ax BJ ["_law_ring","_law_cut"] (ao mv):=⟨rfl,rfl,rfl,y_,rfl,y_,y_⟩
theorem lu(T:Tx K mg ad fd):ab5 T P w base 4 94 ["_law_ring","_law_cut"] 2 fc:=
 aQ (k:=3) T.acJ.f Au mW (λcdv A outer s H E hr=>(ak (az (ay (tQ T) T.ac9 hr (aa (aA (ay (oH T) T.adb hr (aa (ae 0) (aa (ae 1) af)))) (aa (aA (ay (ja T) T.acs hr (aa (ar (ar (ae 0) ah abZ) (ar (ae 1) ah abZ) abZ) (aa (ar (ar (ae 0) ah abZ) (ar (ae 1) ah abZ) abZ) af)))) af))))))
  xU
theorem dM:ax g8 ["_law_ring","_law_top_here","_law_sending","_law_cut"] (ao cq):=⟨rfl,rfl,rfl,y_,rfl,y_,y_⟩
theorem nO(T:Tx K mg ad fd):ab5 T P w base 11 95 ["_law_ring","_law_top_here","_law_sending","_law_cut"] 4 dJ:=
 aQ (k:=10) T.adX.f dM d9 (λcdv A outer s H E hr=>by exact(@aj _ _ _ _ _ (rg dM.nd (j:=4) rfl v6 (sc:=(ao cq)) (N:=g8) (Nt:=[ "_law_name" ,"_law_one" ,"_law_other" ,"_law_size" ]) (Nf:=[]) (fi:=[]) rfl rfl rfl (bG (@ar _ _ _ _ _ _ (ae 0) ah abZ)) rfl y_ y_ y_ xp rfl y_ xp (λ_ _ _ _=>(A3 rfl (dQ (i:=0) xp (show(([ "_law_name" ,"_law_one" ,"_law_other" ,"_law_size" ]:List Str)++([]:List Str)).Nodup by decide +kernel) rfl (Or.inl rfl) (dQ (i:=1) xp (show(([ "_law_name" ,"_law_one" ,"_law_other" ,"_law_size" ]:List Str)++([]:List Str)).Nodup by decide +kernel) rfl (Or.inl rfl) (dQ (i:=2) xp (show(([ "_law_name" ,"_law_one" ,"_law_other" ,"_law_size" ]:List Str)++([]:List Str)).Nodup by decide +kernel) rfl (Or.inl rfl) (dQ (i:=3) xp (show(([ "_law_name" ,"_law_one" ,"_law_other" ,"_law_size" ]:List Str)++([]:List Str)).Nodup by decide +kernel) rfl (Or.inl rfl) uW)))))) (λ_ _ _ _=>cD) (λ_ _ _ _=>(ae 3))) (@aj _ _ _ _ _ (@aF _ _ _ 5 _ _ _ dM.nd rfl v6 (@aA _ _ _ (ay (xa T) T.ada hr (@aa _ _ _ _ _ _ (ae 0) (@aa _ _ _ _ _ _ (ae 4) af z_) z_))) z_ aes) (@aj _ _ _ _ _ (@bK _ _ _ _ _ _ _ _ (Wh (jg hr.units) (ay (lh T) T.acB hr (@aa _ _ _ _ _ _ (ae 0) (@aa _ _ _ _ _ _ (@bt _ _ _ _ _ _ (@aa _ _ _ _ _ _ (ae 5) (@aa _ _ _ _ _ _ (ae 4) (@aa _ _ _ _ _ _ (ae 3) af z_) z_) z_)) af z_) z_)) (bW (fX hr.units) (ae 5) (ae 1) (aP _)) (aP _)) (@ak _ _ _ (@az _ _ _ _ fu)) aR) (@ak _ _ _ (@az _ _ _ _ (bW (fX hr.units) (ay (lh T) T.acB hr (@aa _ _ _ _ _ _ (ae 0) (@aa _ _ _ _ _ _ (@bt _ _ _ _ _ _ (@aa _ _ _ _ _ _ (ae 1) (@aa _ _ _ _ _ _ (ae 2) (@aa _ _ _ _ _ _ (@bt _ _ _ _ _ _ (@aa _ _ _ _ _ _ ah (@aa _ _ _ _ _ _ ah af z_) z_)) af z_) z_) z_)) af z_) z_)) (bW (fX hr.units) (@ar _ _ _ _ _ _ (ae 1) ah abZ) ah (aP _)) (aP _))))))))
  mX
theorem bE:ax jN ["_law_ring","_law_top_here"] (ao dj):=⟨rfl,rfl,rfl,y_,rfl,y_,y_⟩
theorem qU(T:Tx K mg ad fd):ab5 T P w base 9 96 ["_law_ring","_law_top_here"] 2 ff:=
 aQ (k:=8) T.adY.f bE fH (λcdv A outer s H E hr=>by exact(@aj _ _ _ _ _ (@aF _ _ _ 2 _ _ _ bE.nd rfl v6 (@aA _ _ _ (ay (Ce T) T.adz hr (@aa _ _ _ _ _ _ (ae 0) (@aa _ _ _ _ _ _ ah (@aa _ _ _ _ _ _ ah (@aa _ _ _ _ _ _ (ae 1) af z_) z_) z_) z_))) z_ aes) (@aj _ _ _ _ _ (@bK _ _ _ _ _ _ _ _ (Wf.pb (cb (Wh (jg hr.units) (@ar _ _ _ _ _ _ (ae 2) ah abZ) uL (aP _)) (cb (Wh (jg hr.units) (aN bO rfl T.ab6 y_ (@aa _ _ _ _ _ _ (ae 2) af z_)) ah (aP _)) (cj (cA (aX (ay (lr T) T.acI hr (@aa _ _ _ _ _ _ (@ar _ _ _ _ _ _ (ae 2) ah abZ) (@aa _ _ _ _ _ _ ah (@aa _ _ _ _ _ _ ah af z_) z_) z_)))))))) (@ak _ _ _ (@az _ _ _ _ fu)) aR) (@aj _ _ _ _ _ (@aF _ _ _ 3 _ _ _ bE.nd rfl v6 (@gS _ _ _ _ _ af) z_ aes) (@aj _ _ _ _ _ (bQ Z8 rfl (c9 rfl T.ab8 (aN bO rfl T.ab6 y_ (@aa _ _ _ _ _ _ (@ar _ _ _ _ _ _ (ae 0) ah abZ) af z_))) (bT (i:=4) bE.nd rfl v6) (@ak _ _ _ (bQ Z8 rfl (uk rfl T.ab8 (ae 4) (aN bO rfl T.ab6 y_ (@aa _ _ _ _ _ _ (@ar _ _ _ _ _ _ (ae 0) ah abZ) af z_))) (bT (i:=5) bE.nd rfl v6) (@ak _ _ _ (@bK _ _ _ _ _ _ _ _ (aX (ay (lr T) T.acI hr (@aa _ _ _ _ _ _ (@bt _ _ _ _ _ _ (@aa _ _ _ _ _ _ (ae 4) (@aa _ _ _ _ _ _ (ae 5) af z_) z_)) (@aa _ _ _ _ _ _ ah (@aa _ _ _ _ _ _ ah af z_) z_) z_))) (@aj _ _ _ _ _ (@aF _ _ _ 6 _ _ _ bE.nd rfl v6 (@aA _ _ _ (ay (ja T) T.acs hr (@aa _ _ _ _ _ _ (@ar _ _ _ _ _ _ (@ar _ _ _ _ _ _ (ae 0) ah abZ) (ae 4) abZ) (@aa _ _ _ _ _ _ (@ar _ _ _ _ _ _ (@ar _ _ _ _ _ _ (ae 0) ah abZ) (ae 5) abZ) af z_) z_))) z_ aes) (@ak _ _ _ (qX (lR 3 (@gS _ _ _ _ _ (@aa _ _ _ _ _ _ (@aA _ _ _ (ay (qT T) T.ac8 hr (@aa _ _ _ _ _ _ (@aA _ _ _ (ay (lq T) T.acH hr (@aa _ _ _ _ _ _ (ae 1) (@aa _ _ _ _ _ _ (ae 6) af z_) z_))) (@aa _ _ _ _ _ _ (@aA _ _ _ (ay (oH T) T.adb hr (@aa _ _ _ _ _ _ (ae 0) (@aa _ _ _ _ _ _ (@bt _ _ _ _ _ _ (@aa _ _ _ _ _ _ (ae 4) (@aa _ _ _ _ _ _ (ae 5) af z_) z_)) af z_) z_))) af z_) z_))) (@aa _ _ _ _ _ _ (@bt _ _ _ _ _ _ (@aa _ _ _ _ _ _ (ae 4) (@aa _ _ _ _ _ _ (ae 5) af z_) z_)) af z_) z_)))))) aR))))) (@aj _ _ _ _ _ (@bK _ _ _ _ _ _ _ _ (Oz 3 (Wh (HY hr.units) (@gS _ _ _ _ _ (@aa _ _ _ _ _ _ (@ar _ _ _ _ _ _ (ae 2) ah abZ) (@aa _ _ _ _ _ _ (@ar _ _ _ _ _ _ (ae 2) ah abZ) af z_) z_)) (ae 3) rfl)) (@ak _ _ _ (@az _ _ _ _ fu)) aR) (@ak _ _ _ (@az _ _ _ _ (bW (fX hr.units) (HX 3 (cF (sc:=(ao dj)) (N:=jN) (Nt:=[ "_law_one" ]) (Nf:=[ "_law_told" ]) (fi:=[2]) rfl rfl rfl (bG (ae 3)) rfl y_ y_ y_ xp rfl y_ xp (λ_ _ _ _=>(ck xp (show(([ "_law_one" ]:List Str)++([ "_law_told" ]:List Str)).Nodup by decide +kernel) rfl (Or.inl rfl))) (λ_ _ _ _=>(rf (aX (ay (gO T) T.acr hr (@aa _ _ _ _ _ _ (@ar _ _ _ _ _ _ (ae 0) ah abZ) (@aa _ _ _ _ _ _ (@ar _ _ _ _ _ _ (ae 1) ah abZ) af z_) z_))))) (λ_ _ _ _=>(ae 0)))) (@gS _ _ _ _ _ af) (aP _))))))))))
  pZ
theorem lx:ax BK ["_law_ring","_law_top_here"] (ao mw):=⟨rfl,rfl,rfl,y_,rfl,y_,y_⟩
theorem Av(T:Tx K mg ad fd):ab5 T P w base 5 97 ["_law_ring","_law_top_here"] 2 k9:=
 aQ (k:=4) T.adZ.f lx mY (λcdv A outer s H E hr=>(aj (bQ Z8 rfl (c9 rfl T.ab8 (aN bO rfl T.ab6 y_ (aa (ar (ae 0) ah abZ) af))) (bT (i:=2) lx.nd rfl v6) (ak (bQ Z8 rfl (uk rfl T.ab8 (ae 2) (aN bO rfl T.ab6 y_ (aa (ar (ae 0) ah abZ) af))) (bT (i:=3) lx.nd rfl v6) (ak (bK (Wh (fX hr.units) (ay (lu T) T.acJ hr (aa (ae 0) (aa (bt (aa (ae 2) (aa (ae 3) af))) af))) (ae 1) (aP _)) (ak (az (bt (aa (ae 2) (aa (ae 3) af))))) aR)))))
  (ak (az nR))))
  xV
theorem xb:ax R4 ["_law_script"] (ao JR):=⟨rfl,rfl,rfl,y_,rfl,y_,y_⟩
theorem Se(T:Tx K mg ad fd):ab5 T P w base 12 98 ["_law_script"] 1 fs_law:=
 aQ (k:=11) T.ad0.f xb P4 (λcdv A outer s H E hr=>by exact(@aj _ _ _ _ _ (@aF _ _ _ 1 _ _ _ xb.nd rfl v6 (@aA _ _ _ (ay (Ak T) T.adS hr (@aa _ _ _ _ _ _ (ae 0) af z_))) z_ aes) (@aj _ _ _ _ _ (@aF _ _ _ 2 _ _ _ xb.nd rfl v6 (@aA _ _ _ (ay (Cf T) T.adD hr (@aa _ _ _ _ _ _ (ae 1) af z_))) z_ aes) (@aj _ _ _ _ _ (HF (nT rfl (bh (i:=3) xb.nd rfl v6 (bh (i:=4) xb.nd rfl v6 (bh (i:=5) xb.nd rfl v6 jf)))) (ae 2)) (@aj _ _ _ _ _ (@bK _ _ _ _ _ _ _ _ (Wf.pb (cb (cA (aX (ay (qS T) T.adU hr (@aa _ _ _ _ _ _ (ae 1) (@aa _ _ _ _ _ _ (ae 4) af z_) z_)))) (cb (Wh (jg hr.units) (ay (xa T) T.ada hr (@aa _ _ _ _ _ _ (ae 1) (@aa _ _ _ _ _ _ (ae 4) af z_) z_)) (ae 3) (aP _)) (cj (Wh (jg hr.units) (ay (lu T) T.acJ hr (@aa _ _ _ _ _ _ (ae 1) (@aa _ _ _ _ _ _ (ae 5) af z_) z_)) (ae 3) (aP _)))))) (@ak _ _ _ (@az _ _ _ _ fu)) aR) (@aj _ _ _ _ _ (@bK _ _ _ _ _ _ _ _ (Wf.pb (cb (Wh Ij (ay (lh T) T.acB hr (@aa _ _ _ _ _ _ (ae 1) (@aa _ _ _ _ _ _ (ae 2) af z_) z_)) fu (aP _)) (cj (cA (aX (ay (nO T) T.adX hr (@aa _ _ _ _ _ _ (ae 1) (@aa _ _ _ _ _ _ (ae 3) (@aa _ _ _ _ _ _ (ae 4) (@aa _ _ _ _ _ _ (ae 5) af z_) z_) z_) z_))))))) (@ak _ _ _ (@az _ _ _ _ fu)) aR) (@aj _ _ _ _ _ (@bK _ _ _ _ _ _ _ _ (Wf.pb (cb (cA (aX (ay (qU T) T.adY hr (@aa _ _ _ _ _ _ (ae 1) (@aa _ _ _ _ _ _ (ae 3) af z_) z_)))) (cj (Wh (jg hr.units) (ay (fh T) T.acp hr (@aa _ _ _ _ _ _ (ae 1) af z_)) (@bt _ _ _ _ _ _ (@aa _ _ _ _ _ _ (ae 3) (@aa _ _ _ _ _ _ (@aA _ _ _ (ay (Av T) T.adZ hr (@aa _ _ _ _ _ _ (ae 1) (@aa _ _ _ _ _ _ (ae 3) af z_) z_))) af z_) z_)) (aP _))))) (@ak _ _ _ (@az _ _ _ _ fu)) aR) (@aj _ _ _ _ _ (@bK _ _ _ _ _ _ _ _ (Wh Ij (ay (uf T) T.adP hr (@aa _ _ _ _ _ _ (ae 1) (@aa _ _ _ _ _ _ (ae 4) (@aa _ _ _ _ _ _ (@aA _ _ _ (ay (x9 T) T.adR hr (@aa _ _ _ _ _ _ (ae 1) (@aa _ _ _ _ _ _ (ae 4) af z_) z_))) af z_) z_) z_)) fu (aP _)) (@ak _ _ _ (@az _ _ _ _ fu)) aR) (@aj _ _ _ _ _ (@bK _ _ _ _ _ _ _ _ (Wh (fX hr.units) (@ar _ _ _ _ _ _ (ae 3) ah abZ) ah (aP _)) (@ak _ _ _ (@az _ _ _ _ (QR (bW (fX hr.units) (@ar _ _ _ _ _ _ (ae 1) ah abZ) (@gS _ _ _ _ _ af) (aP _)) (fk (bW (fX hr.units) (aN (Na rfl) rfl T.aco y_ (@aa _ _ _ _ _ _ (@aA _ _ _ (cF (sc:=(ao JR)) (N:=R4) (Nt:=[ "_law_ask" ]) (Nf:=[]) (fi:=[]) rfl rfl rfl (bG (@ar _ _ _ _ _ _ (ae 1) ah abZ)) rfl y_ y_ y_ xp rfl y_ xp (λ_ _ _ _=>(ck xp (show(([ "_law_ask" ]:List Str)++([]:List Str)).Nodup by decide +kernel) rfl (Or.inl rfl))) (λ_ _ _ _=>cD) (λ_ _ _ _=>(@ar _ _ _ _ _ _ (@ar _ _ _ _ _ _ (ae 0) ah abZ) ah abZ)))) af z_)) ah (aP _)))))) aR) (@aj _ _ _ _ _ (@aF _ _ _ 6 _ _ _ xb.nd rfl v6 (@aA _ _ _ (ay (GQ T) T.adx hr (@aa _ _ _ _ _ _ (ae 1) (@aa _ _ _ _ _ _ (@aA _ _ _ (ay (lq T) T.acH hr (@aa _ _ _ _ _ _ (ae 3) (@aa _ _ _ _ _ _ (@bt _ _ _ _ _ _ (@aa _ _ _ _ _ _ ah (@aa _ _ _ _ _ _ ah af z_) z_)) af z_) z_))) af z_) z_))) z_ aes) (@ak _ _ _ (@az _ _ _ _ (eD (bW (fX hr.units) (@ar _ _ _ _ _ _ (ae 6) ah abZ) uL (aP _)) (fk (ay (gO T) T.acr hr (@aa _ _ _ _ _ _ (@aA _ _ _ (ay (lq T) T.acH hr (@aa _ _ _ _ _ _ (ae 3) (@aa _ _ _ _ _ _ (@bt _ _ _ _ _ _ (@aa _ _ _ _ _ _ ah (@aa _ _ _ _ _ _ ah af z_) z_)) af z_) z_))) (@aa _ _ _ _ _ _ (@aA _ _ _ (ay (lu T) T.acJ hr (@aa _ _ _ _ _ _ (ae 1) (@aa _ _ _ _ _ _ (@ar _ _ _ _ _ _ (ae 6) ah abZ) af z_) z_))) af z_) z_))))))))))))))))
  P7
end
noncomputable def Zy(i:Nat):Addr:=([21,28,35,42,49,56,115,122,129,136,143,150,157,164,171,178,185,192,199,204,211,218,223,228,235,242,249,254,261,268,273,278,283,290,302,307,295,333,328,338,321,314,352,345,359,364,369,376,390,397,383,404,411,418,423,430,484,477,456,451,463,470,444,437,505,498,491,527,520,541,548,555,562,534,513,574,569,588,581,694,595,616,630,656,663,668,637,609,602,642,623,649,675,682,689,704,699,711,716]:List Addr).getD i 0
noncomputable abbrev Zz:Value:=(.str "ringloads.divisors" 187)
noncomputable abbrev ZA:Value:=aeo
noncomputable abbrev ZC:Value:=aeh
noncomputable abbrev ZD:Value:=aej
noncomputable abbrev ZE:Value:=(.str "ringloads.ways" 464)
noncomputable abbrev ZF:Value:=ael
noncomputable abbrev ZG:Value:=aep
noncomputable abbrev ZH:Value:=aek
noncomputable abbrev ZI:Value:=(.str "ringloads.sendings" 644)
noncomputable abbrev ZJ:Value:=aem
noncomputable abbrev Kw:Value:=aen
noncomputable abbrev xh:Value:=aeg
noncomputable abbrev yG:Value:=aei
noncomputable abbrev jc:Value:=aee
noncomputable def ZK(i:Nat):FuncData:=[WI "greatest_shared" fv Zz 20,WI "least_common" ji Zz 27,WI "is_whole" rE ZA 34,WI "is_number_below" fw ZA 41,WI "are_two_wholes" gw ZA 48,WI "is_ratio" rG ZA 55,WI "lowest" zt ZC 114,WI "ratio" Do ZC 121,WI "plus" JI ZC 128,WI "minus" Dp ZC 135,WI "times" Dq ZC 142,WI "over" JJ ZC 149,WI "under" Dr ZC 156,WI "greater" vD ZC 163,WI "lesser" zu ZC 170,WI "sum_of" zv ZC 177,WI "is_cut" zw ZD 184,WI "is_within" oY ZD 191,WI "parts_places" jj ZD 198,WI "across" uD ZD 203,WI "rooms_of" rH ZD 210,WI "shown_by" rJ ZD 217,WI "all_cuts" nq ZD 222,WI "cuts_apart" iR ZD 227,WI "greatest_cut" jk ZD 234,WI "is_way" zx ZE 241,WI "other_way" oZ ZE 248,WI "ties_of" l7 ZE 253,WI "is_over" vF ZE 260,WI "sent_over" o5 ZF 267,WI "load_of" qy ZF 272,WI "loads_of" nr ZF 277,WI "strains_of" iS ZF 282,WI "top_of" zy ZF 289,WI "common_bottom" g5 ZG 301,WI "in_units" nu ZG 306,WI "weighed" l8 ZG 294,WI "still_across" fM ZH 332,WI "most_on" vI ZH 327,WI "left_free" ku ZH 337,WI "sent_one_by_one" fz ZH 320,WI "fitting" vK ZH 313,WI "left_across" kx ZH 351,WI "most_more" o6 ZH 344,WI "first_wrong_part" eL ZI 358,WI "is_sending" iT ZI 363,WI "are_ways" nv ZI 368,WI "least_top" o7 ZJ 375,WI "has_top" vL ZJ 389,WI "shows_top" o8 ZJ 396,WI "lets_least" l9 ZJ 382,WI "lesser_place" jm Kw 403,WI "greater_place" g6 Kw 410,WI "do_cross" rL Kw 417,WI "parted_in" ky Kw 422,WI "first_side_by_side" dF Kw 429,WI "part_behind" kB xh 483,WI "slid_once" o9 xh 476,WI "share_no_tie" fN xh 455,WI "has_form_of_slide" d3 xh 450,WI "not_sent" rM xh 462,WI "most_slid" pf xh 469,WI "is_slide" rN xh 443,WI "slid_by" vO xh 436,WI "ways_apart" ma xh 504,WI "greatest_slide" gy xh 497,WI "slides_for" me xh 490,WI "nearest_way" kC yG 526,WI "keeps_whole_asks" eM yG 519,WI "half_of_greatest" eN yG 540,WI "by_lesser_place" dh yG 547,WI "rising_way" mf yG 554,WI "gain_of" vP yG 561,WI "keeps_within" jn yG 533,WI "lets_rounding" g7 yG 512,WI "rounded_ways" fO yG 573,WI "rounding_of" kD yG 568,WI "_law_take" ph jc 587,WI "_law_begun" mh jc 580,WI "_law_great" iU jc 693,WI "_law_low" rP jc 594,WI "_law_times" mi jc 615,WI "_law_under" mj jc 629,WI "_law_whole" ml jc 655,WI "_law_ratio" mn jc 662,WI "_law_is_sending" di jc 667,WI "_law_ties" pj jc 636,WI "_law_minus" mq jc 608,WI "_law_plus" pk jc 601,WI "_law_loads" iV jc 641,WI "_law_over" pq jc 622,WI "_law_top" rQ jc 648,WI "_law_apart" mr jc 674,WI "_law_across" kE jc 681,WI "_law_shown" mv jc 688,WI "_law_others_right" cq jc 703,WI "_law_more_right" dj jc 698,WI "_law_first" mw jc 710,WI "law" JR jc 715].getD i (WI "law" JR Zz 0)
theorem tx{Pm:Params}{h:Heap}{mg:Str->Option Value}(X:(Hd.Kf Pm).In h)(G:h.Ns mainGlobals mg):Tx (Hd.Kf Pm) mg Zy ZK where
 acv:=FX.mk' X G (a:=21) (c:=20) (md:=Zz) z_ z_ z_ z_ ab1
 adf:=FX.mk' X G (a:=28) (c:=27) (md:=Zz) z_ z_ z_ z_ ab1
 ach:=FX.mk' X G (a:=35) (c:=34) (md:=ZA) z_ z_ z_ z_ ab0
 acL:=FX.mk' X G (a:=42) (c:=41) (md:=ZA) z_ z_ z_ z_ ab1
 acM:=FX.mk' X G (a:=49) (c:=48) (md:=ZA) z_ z_ z_ z_ ab0
 acw:=FX.mk' X G (a:=56) (c:=55) (md:=ZA) z_ z_ z_ z_ ab0
 aci:=FX.mk' X G (a:=115) (c:=114) (md:=ZC) z_ z_ z_ z_ ab1
 adg:=FX.mk' X G (a:=122) (c:=121) (md:=ZC) z_ z_ z_ z_ ab1
 acg:=FX.mk' X G (a:=129) (c:=128) (md:=ZC) z_ z_ z_ z_ ab1
 acd:=FX.mk' X G (a:=136) (c:=135) (md:=ZC) z_ z_ z_ z_ ab1
 acx:=FX.mk' X G (a:=143) (c:=142) (md:=ZC) z_ z_ z_ z_ ab1
 acN:=FX.mk' X G (a:=150) (c:=149) (md:=ZC) z_ z_ z_ z_ ab1
 ab7:=FX.mk' X G (a:=157) (c:=156) (md:=ZC) z_ z_ z_ z_ ab1
 adh:=FX.mk' X G (a:=164) (c:=163) (md:=ZC) z_ z_ z_ z_ ab1
 adi:=FX.mk' X G (a:=171) (c:=170) (md:=ZC) z_ z_ z_ z_ ab1
 acO:=FX.mk' X G (a:=178) (c:=177) (md:=ZC) z_ z_ z_ z_ ab0
 adj:=FX.mk' X G (a:=185) (c:=184) (md:=ZD) z_ z_ z_ z_ ab1
 acP:=FX.mk' X G (a:=192) (c:=191) (md:=ZD) z_ z_ z_ z_ ab1
 acy:=FX.mk' X G (a:=199) (c:=198) (md:=ZD) z_ z_ z_ z_ ab2
 acQ:=FX.mk' X G (a:=204) (c:=203) (md:=ZD) z_ z_ z_ z_ ab1
 acR:=FX.mk' X G (a:=211) (c:=210) (md:=ZD) z_ z_ z_ z_ ab1
 acS:=FX.mk' X G (a:=218) (c:=217) (md:=ZD) z_ z_ z_ z_ ab1
 acT:=FX.mk' X G (a:=223) (c:=222) (md:=ZD) z_ z_ z_ z_ ab0
 adk:=FX.mk' X G (a:=228) (c:=227) (md:=ZD) z_ z_ z_ z_ ab2
 acp:=FX.mk' X G (a:=235) (c:=234) (md:=ZD) z_ z_ z_ z_ ab0
 acz:=FX.mk' X G (a:=242) (c:=241) (md:=ZE) z_ z_ z_ z_ ab0
 adl:=FX.mk' X G (a:=249) (c:=248) (md:=ZE) z_ z_ z_ z_ ab0
 acA:=FX.mk' X G (a:=254) (c:=253) (md:=ZE) z_ z_ z_ z_ ab2
 acU:=FX.mk' X G (a:=261) (c:=260) (md:=ZE) z_ z_ z_ z_ ab3
 adm:=FX.mk' X G (a:=268) (c:=267) (md:=ZF) z_ z_ z_ z_ ab3
 adn:=FX.mk' X G (a:=273) (c:=272) (md:=ZF) z_ z_ z_ z_ ab2
 ado:=FX.mk' X G (a:=278) (c:=277) (md:=ZF) z_ z_ z_ z_ ab1
 adp:=FX.mk' X G (a:=283) (c:=282) (md:=ZF) z_ z_ z_ z_ ab1
 adq:=FX.mk' X G (a:=290) (c:=289) (md:=ZF) z_ z_ z_ z_ ab1
 ads:=FX.mk' X G (a:=302) (c:=301) (md:=ZG) z_ z_ z_ z_ ab0
 acV:=FX.mk' X G (a:=307) (c:=306) (md:=ZG) z_ z_ z_ z_ ab1
 adt:=FX.mk' X G (a:=295) (c:=294) (md:=ZG) z_ z_ z_ z_ ab1
 adu:=FX.mk' X G (a:=333) (c:=332) (md:=ZH) z_ z_ z_ z_ ab3
 adv:=FX.mk' X G (a:=328) (c:=327) (md:=ZH) z_ z_ z_ z_ ab3
 adw:=FX.mk' X G (a:=338) (c:=337) (md:=ZH) z_ z_ z_ z_ λ_ _ _ _ _ _ u l=>match u,l with | [_,_,_,_,_],_=>rfl
 acW:=FX.mk' X G (a:=321) (c:=320) (md:=ZH) z_ z_ z_ z_ ab1
 adx:=FX.mk' X G (a:=314) (c:=313) (md:=ZH) z_ z_ z_ z_ ab1
 ady:=FX.mk' X G (a:=352) (c:=351) (md:=ZH) z_ z_ z_ z_ ab2
 adz:=FX.mk' X G (a:=345) (c:=344) (md:=ZH) z_ z_ z_ z_ ab3
 adA:=FX.mk' X G (a:=359) (c:=358) (md:=ZI) z_ z_ z_ z_ ab1
 adB:=FX.mk' X G (a:=364) (c:=363) (md:=ZI) z_ z_ z_ z_ ab1
 adC:=FX.mk' X G (a:=369) (c:=368) (md:=ZI) z_ z_ z_ z_ ab1
 adD:=FX.mk' X G (a:=376) (c:=375) (md:=ZJ) z_ z_ z_ z_ ab0
 adE:=FX.mk' X G (a:=390) (c:=389) (md:=ZJ) z_ z_ z_ z_ ab2
 adF:=FX.mk' X G (a:=397) (c:=396) (md:=ZJ) z_ z_ z_ z_ ab2
 acB:=FX.mk' X G (a:=383) (c:=382) (md:=ZJ) z_ z_ z_ z_ ab1
 acC:=FX.mk' X G (a:=404) (c:=403) (md:=Kw) z_ z_ z_ z_ ab1
 acX:=FX.mk' X G (a:=411) (c:=410) (md:=Kw) z_ z_ z_ z_ ab1
 adG:=FX.mk' X G (a:=418) (c:=417) (md:=Kw) z_ z_ z_ z_ ab2
 acq:=FX.mk' X G (a:=423) (c:=422) (md:=Kw) z_ z_ z_ z_ ab1
 acD:=FX.mk' X G (a:=430) (c:=429) (md:=Kw) z_ z_ z_ z_ ab1
 acY:=FX.mk' X G (a:=484) (c:=483) (md:=xh) z_ z_ z_ z_ ab2
 acZ:=FX.mk' X G (a:=477) (c:=476) (md:=xh) z_ z_ z_ z_ ab1
 ac0:=FX.mk' X G (a:=456) (c:=455) (md:=xh) z_ z_ z_ z_ λ_ _ _ _ _ _ u l=>match u,l with | [_,_,_,_,_],_=>rfl
 adH:=FX.mk' X G (a:=451) (c:=450) (md:=xh) z_ z_ z_ z_ ab1
 ac1:=FX.mk' X G (a:=463) (c:=462) (md:=xh) z_ z_ z_ z_ ab3
 ac2:=FX.mk' X G (a:=470) (c:=469) (md:=xh) z_ z_ z_ z_ ab2
 adI:=FX.mk' X G (a:=444) (c:=443) (md:=xh) z_ z_ z_ z_ ab2
 ac3:=FX.mk' X G (a:=437) (c:=436) (md:=xh) z_ z_ z_ z_ ab2
 adJ:=FX.mk' X G (a:=505) (c:=504) (md:=xh) z_ z_ z_ z_ ab2
 adK:=FX.mk' X G (a:=498) (c:=497) (md:=xh) z_ z_ z_ z_ ab3
 adL:=FX.mk' X G (a:=491) (c:=490) (md:=xh) z_ z_ z_ z_ ab1
 ac4:=FX.mk' X G (a:=527) (c:=526) (md:=yG) z_ z_ z_ z_ ab1
 adM:=FX.mk' X G (a:=520) (c:=519) (md:=yG) z_ z_ z_ z_ ab3
 ac5:=FX.mk' X G (a:=541) (c:=540) (md:=yG) z_ z_ z_ z_ ab1
 ac6:=FX.mk' X G (a:=548) (c:=547) (md:=yG) z_ z_ z_ z_ ab1
 adN:=Rn.mk' (c0:=547) z_ rfl z_
 acE:=FX.mk' X G (a:=555) (c:=554) (md:=yG) z_ z_ z_ z_ ab1
 acF:=FX.mk' X G (a:=562) (c:=561) (md:=yG) z_ z_ z_ z_ ab3
 adO:=FX.mk' X G (a:=534) (c:=533) (md:=yG) z_ z_ z_ z_ ab3
 adP:=FX.mk' X G (a:=513) (c:=512) (md:=yG) z_ z_ z_ z_ ab2
 adQ:=FX.mk' X G (a:=574) (c:=573) (md:=yG) z_ z_ z_ z_ ab1
 adR:=FX.mk' X G (a:=569) (c:=568) (md:=yG) z_ z_ z_ z_ ab1
 acj:=FX.mk' X G (a:=588) (c:=587) (md:=jc) z_ z_ z_ z_ ab1
 acG:=FX.mk' X G (a:=581) (c:=580) (md:=jc) z_ z_ z_ z_ ab1
 adS:=FX.mk' X G (a:=694) (c:=693) (md:=jc) z_ z_ z_ z_ ab0
 ack:=FX.mk' X G (a:=595) (c:=594) (md:=jc) z_ z_ z_ z_ ab1
 acH:=FX.mk' X G (a:=616) (c:=615) (md:=jc) z_ z_ z_ z_ ab1
 acr:=FX.mk' X G (a:=630) (c:=629) (md:=jc) z_ z_ z_ z_ ab1
 ac7:=FX.mk' X G (a:=656) (c:=655) (md:=jc) z_ z_ z_ z_ ab0
 adT:=FX.mk' X G (a:=663) (c:=662) (md:=jc) z_ z_ z_ z_ ab0
 adU:=FX.mk' X G (a:=668) (c:=667) (md:=jc) z_ z_ z_ z_ ab1
 adV:=FX.mk' X G (a:=637) (c:=636) (md:=jc) z_ z_ z_ z_ ab1
 ac8:=FX.mk' X G (a:=609) (c:=608) (md:=jc) z_ z_ z_ z_ ab1
 acs:=FX.mk' X G (a:=602) (c:=601) (md:=jc) z_ z_ z_ z_ ab1
 adW:=FX.mk' X G (a:=642) (c:=641) (md:=jc) z_ z_ z_ z_ ab1
 ac9:=FX.mk' X G (a:=623) (c:=622) (md:=jc) z_ z_ z_ z_ ab1
 ada:=FX.mk' X G (a:=649) (c:=648) (md:=jc) z_ z_ z_ z_ ab1
 acI:=FX.mk' X G (a:=675) (c:=674) (md:=jc) z_ z_ z_ z_ ab2
 adb:=FX.mk' X G (a:=682) (c:=681) (md:=jc) z_ z_ z_ z_ ab1
 acJ:=FX.mk' X G (a:=689) (c:=688) (md:=jc) z_ z_ z_ z_ ab1
 adX:=FX.mk' X G (a:=704) (c:=703) (md:=jc) z_ z_ z_ z_ ab3
 adY:=FX.mk' X G (a:=699) (c:=698) (md:=jc) z_ z_ z_ z_ ab1
 adZ:=FX.mk' X G (a:=711) (c:=710) (md:=jc) z_ z_ z_ z_ ab1
 ad0:=FX.mk' X G (a:=716) (c:=715) (md:=jc) z_ z_ z_ z_ ab0
 acm:=aan X G z_
 ad1:=aan X G z_
 ad5:=aan X G z_
 ad2:=aan X G z_
 ace:=aan X G z_
 acK:=aan X G z_
 aca:=aan X G z_
 ab6:=aan X G z_
 acn:=aan X G z_
 ad6:=aan X G z_
 ad3:=aan X G z_
 ab8:=aan X G z_
 ad4:=aan X G z_
 ad7:=aan X G z_
 aco:=aan X G z_
 acu:=aan X G z_
 ade:=aan X G z_
 acf:=Eo (W.mg_of X G (v:=(.str "back" 468)) z_)
 ad8:=En (W.mg_of X G (v:=.ref 506) z_) (show(Hd.Kf Pm).lookup 506=some (Hd.aea #[(.int 1 862),(.int 2 863)]) by kernel_rfl) ⟨_,_,[L2.V.int 1,L2.V.int 2],_,rfl,rfl,rfl,xp,(.cons ⟨_,rfl⟩ (.cons ⟨_,rfl⟩ .nil)),λK H=>(.cons (.int _) (.cons (.int _) .nil))⟩
 acb:=En (W.mg_of X G (v:=.ref 108) z_) (show(Hd.Kf Pm).lookup 108=some (Hd.aea #[(.int 0 308),(.int 1 309)]) by kernel_rfl) ⟨_,_,[L2.V.int 0,L2.V.int 1],_,rfl,rfl,rfl,xp,(.cons ⟨_,rfl⟩ (.cons ⟨_,rfl⟩ .nil)),λK H=>(.cons (.int _) (.cons (.int _) .nil))⟩
 ab9:=Eo (W.mg_of X G (v:=(.str "on" 466)) z_)
theorem walkF(w:World)(mg:Str→Option Value)(fa:Addr)(h:Heap)(X:(Hd.Kf w.params).In h)(G:h.Ns mainGlobals mg) (hmg:mg "law"=some (.ref fa)) :
  ∃ fd:FuncData,(∀(s:Shared)(u:Value),BindsTo s fd ⟨[u],[]⟩ [("_law_script",u)])∧∀ base:Heap,(Hd.Kf w.params).In base→base.Ns mainGlobals mg→FnOk PySem.Challenge.pw_ringloads_k28_rings_at_their_bounds w (Hd.Kf w.params) mg base CX0 12 fa fd ["_law_script"] (spF (Hd.Kf w.params) 1 fs_law):=by
 have T:=tx X G
 have e:=hmg.symm.trans T.ad0.m
 cases e
 exact⟨_,fun s v=>.of_eq rfl,fun base _ _=>Se T⟩
theorem tabR(w:World):∀x∈L2.lamNames,W.tabIn (Hd.Kf w.params) x=none∨((PyProof.Rows.recsOf Hd.q).find? λe=>e.name == x).isSome=true:=by
 intro x hx;simp only[L2.lamNames,ZU,abA,or_false]at hx;rcases hx with rfl|rfl|rfl
 . exact .inl z_
 . exact .inr z_
 . exact .inl z_
theorem walk{l:W.OpenLaw}{q:Program}{loose:List Str}{XP:(Str->Option Value)->Heap->Prop}{YP:World->Heap->Prop}{d:DefRec}{K:Params->W.Frag}(hn:l.most=some 63)(hq:PyProof.Rows.importsNone q=true)(hdf:d.params.defaults=[])
  (hY:∀(w:World)(h:Heap),YP w h->(K w.params).In h) (hto:∀w:World,L2.tabsOk (K w.params)=true) (hrc:∀(w:World),∀x∈L2.lamNames,W.tabIn (K w.params) x=none∨((PyProof.Rows.recsOf q).find? λe=>e.name == x).isSome=true)
  (F:∀(w:World)(mg:Str->Option Value)(fa:Addr)(h:Heap),(K w.params).In h->h.Ns mainGlobals mg->mg d.name=some (.ref fa) ->
   ∃ fd:FuncData,(∀(s:Shared)(u:Value),BindsTo s fd ⟨[u],[]⟩ [("_law_script",u)])/\∀ base:Heap,(K w.params).In base->base.Ns mainGlobals mg->FnOk l.prog w (K w.params) mg base CX0 12 fa fd ["_law_script"] (spF (K w.params) 1 fs_law)) :
  W.WalkO q loose XP YP l.row.toRowW d [] (λf vs=>PySem.call f vs) :=
 L2.walk_of (n:=63) (k:=12) (x:="_law_script") (CX:=λ_=>CX0) (sp:=λw=>spF (K w.params) 1 fs_law) hn hq xp hdf ⟨rfl,xp,xp,rfl⟩ hY hto hrc F (λ_ H a ns hl hO hS=>HH hl hO hS (Ka hl)) λ_ _ _ _ _ z=>z
end My
open PySem PySem.W PyProof.Rows
noncomputable abbrev PySem.W.Fast.tw7560124181406027409:PySem.Program:=PySem.Challenge.pw_ringloads_k28_rings_at_their_bounds
theorem PySem.W.Fast.te7560124181406027409:PySem.Challenge.pw_ringloads_k28_rings_at_their_bounds=PySem.W.Fast.tw7560124181406027409:=rfl
set_option maxRecDepth 100000 in
theorem PySem.Challenge.cw_ringloads_k28_rings_at_their_bounds_holds : PySem.Challenge.rw_ringloads_k28_rings_at_their_bounds.Holds := by
 w_on;o_law
 refine W.holds_open (q:=Hd.q) (loose:=Hd.loose) (Xt:=Hd.Xt) (XP:=XL Hd.q []) (Yf:=Hook.obs Hd.Hk) (Ya:=Hook.val Hd.Hk) (YP:=Hook.says Hd.Hk) (N:=_) Hd.left (Hook.of Hd.Hk) (Hook.keeps Hd.Hk) (fun s e=>xl_of s (abt.mp e).1) XL.keeps (by rfl) (by rfl) (by rfl) (fun s e=>recFacts_of (abt.mp e).2) (by rfl) (by assumption) y_ ⟨rfl,rfl,rfl,rfl,rfl,y_⟩ ?hw ?hc
 case hw=>w_witness2
 case hc=>exact My.walk (l:=PySem.Challenge.rw_ringloads_k28_rings_at_their_bounds) (K:=Hd.Kf) rfl y_ rfl (fun w h Y=>PySem.W.kIn_of Y) (fun w=>by kernel_rfl) My.tabR My.walkF