import PyProof.Rows.All
import Wide.All
import OpenK.AllK
import Wide.FinOn
import PyProof.EqAt
import PyProof.EqKinds
import PyProof.TupleCall
import KE.BitLaws
import Open.SpecLaws
import KE.OsHead
import KE.OsGo
import KE.KSortKeyAny
import KE.KSortTupG
import KE.KSortTupUse
import KE.KDictList
import KE.KEqDict
import KE.KDictLaws
import PySem.Challenge.RW_whohaswhat_s01_answers
set_option Elab.async false
set_option linter.all false
set_option maxRecDepth 100000
set_option maxHeartbeats 4000000
open PySem.W (KdlSrc Looks WRecords WalkOS callWith_K codeIn emptyDict fnOf handedIn instObj isFn kdl_dict keepIn ktu_apart lookIn makesIn methodObj mg_of nsIn plainGet)
open PySem.Heap (ExtBut IsList Ns)
open Nat (mul_succ ne_of_gt succ_mul)
open List (Mem Nodup Pairwise all_eq_true any_filter cons_append filter_map filter_nil find?_append find?_cons flatMap_map foldl_nil forIn_cons forIn_nil getD_eq_getElem?_getD length length_cons length_nil length_singleton lookup_cons map_append map_cons map_drop map_flatMap map_id map_nil map_take mem_cons mem_flatMap mem_singleton of_mem_zip size_toArray sum_nil take_sublist)
open Array (getD length_toList toArray_toList toList)
open Int (toNat toNat_natCast)
open Option (getD_none isSome_map isSome_some map map_some none_or)
open Bool (and_eq_true false_eq_true noConfusion or_eq_true)
open PySem (IsL)
open PySem.F (plain_set_new slot_dict_get slot_set_iter type_dict_pop type_list_count)
open PyProof.Rows (TupOf TupsOf boot_dict boot_list)
open PySem.Builtin.SmallTypes (nextOf ownedTupleHandOut ownedTupleIsFree)
open PyVbptaj (answers answers_asked shape)
open Vbptaj (askRight blank counted deedAt inBox inForce leave licences lockedOf onDay partsOf putDeed putRight rightAt variants withParts)
open PyFlat (played told)
open VbptajNeutral (asked asked1)
abbrev LS:=PySem.W.Frag
abbrev LU:=Vbptaj.State
abbrev LV:=Vbptaj.Deed
abbrev LW:=Vbptaj.Right
noncomputable section
abbrev G7:=@PySem.wpAny_bind
abbrev G8:=@List.length_map
abbrev G9:=@if_neg
abbrev G_:=@PySem.wpAny_pure
abbrev Ha:=@PySem.Heap.get?_push_of_some
abbrev Hb:=@of_decide_eq_true
abbrev Hc:=@if_pos
abbrev Hd:=@List.getElem?_map
abbrev He:=@decide_eq_true
abbrev Hf:=@List.map_cons
abbrev Hg:=@Option.some.inj
abbrev Hh:=@List.mem_cons_of_mem
abbrev Hi:=@List.mem_cons
abbrev Hj:=@PySem.Heap.get?_push_size
abbrev Hk:=@List.mem_cons_self
abbrev Hl:=@List.mem_of_getElem?
abbrev Hm:=@Bool.false_ne_true
abbrev Hn:=@List.getElem?_eq_getElem
abbrev Ho:=@Ne.symm
abbrev Hq:=@Bool.and_eq_true
abbrev Hr:=@List.length_cons
abbrev Ht:=@decide_eq_true_iff
abbrev Hu:=@Nat.le_refl
abbrev Hv:=@Nat.le_trans
abbrev Hw:=@decide_eq_false
abbrev Hx:=@List.length_append
abbrev Hy:=@List.filter_cons
abbrev Hz:=@List.length_filter_le
abbrev HA:=@List.mem_map
abbrev HB:=@PySem.Heap.lt_size
abbrev HC:=@PySem.Paired.length
abbrev HD:=@Bool.eq_iff_iff
abbrev HE:=@Bool.true_and
abbrev HF:=@List.pairwise_cons
abbrev HG:=@Bool.and_true
abbrev HH:=@List.mem_singleton
abbrev HI:=@PySem.PassesOwn.never
abbrev HJ:=@Nat.zero_le
abbrev HK:=@List.mem_filter
abbrev HL:=@List.map_append
abbrev HM:=@List.map_map
abbrev HN:=@PySem.mem_of_lookup
abbrev HP:=@List.size_toArray
abbrev HQ:=@List.getElem?_eq_some_iff
abbrev HR:=@Array.length_toList
abbrev HS:=@List.Perm.refl
abbrev HU:=@congrArg
abbrev HV:=@Bool.false_and
abbrev HW:=@Nat.ne_of_lt
abbrev HX:=@PySem.wpAny_newObj_type
abbrev HY:=@Nat.lt_of_lt_of_le
abbrev HZ:=@List.contains_iff_mem
abbrev H_:=@List.mem_append
abbrev Ia:=@beq_eq_false_iff_ne
abbrev Ib:=@PySem.F.plainAttrs_list
abbrev Ic:=@List.length_range
abbrev Ie:=@PySem.wpAny_setField_rec
abbrev Ig:=@PySem.boot_len
abbrev Ih:=@PySem.wpAny_call_entry
abbrev Ii:=@Classical.byContradiction
abbrev Ij:=@List.all_eq_true
abbrev Ik:=@List.nodup_cons
abbrev Il:=@PySem.Heap.size_push
abbrev Im:=@List.take_length
abbrev Io:=@List.mem_of_find?_eq_some
abbrev Ip:=@List.filter_sublist
abbrev Iq:=@PySem.wpAny_mono
abbrev Ir:=@Bool.and_eq_true_iff
abbrev Iu:=@List.flatMap_cons
abbrev Iv:=@List.length_take
abbrev Iw:=@List.getD_eq_getElem?_getD
abbrev Ix:=@PySem.F.slot_list_append
abbrev Iy:=@PyProof.Rows.callWith_type1
abbrev Iz:=@PySem.F.slot_dict_keyiterator_next
abbrev IA:=@PySem.wpAny_callSpecial?_slot
abbrev IB:=@PySem.wpAny_truthy_bool
abbrev IC:=@List.length_drop
abbrev ID:=@PySem.F.type_list_append
abbrev IE:=@List.length_singleton
abbrev IF:=@List.length_eq_zero_iff
abbrev IG:=@List.pairwise_singleton
abbrev IH:=@List.getElem?_eq_none
abbrev II:=@PySem.Calls.spliced_cons
abbrev IJ:=@List.zip_cons_cons
abbrev IK:=@List.filter_append
abbrev IL:=@List.pairwise_map
abbrev IM:=@List.flatMap_append
abbrev IN:=@PySem.Around.under_plainId
abbrev IP:=@PySem.wpAny_seqItems
abbrev IQ:=@Option.map_eq_some_iff
abbrev IR:=@List.any_eq_true
abbrev IS:=@List.mem_append_right
abbrev IT:=@PySem.wpAny_field
abbrev IU:=@List.append_nil
abbrev IV:=@List.foldl_cons
abbrev IW:=@PySem.wpAny_Call_Name_kw
abbrev IX:=@beq_iff_eq
abbrev IY:=@Nat.lt_succ_self
abbrev IZ:=@Array.getElem?_toList
abbrev I0:=@List.getElem?_zip_eq_some
abbrev I_:=@PySem.codeAny_builtin
abbrev Ja:=@PySem.wpAny_Call_method
abbrev Jb:=@PySem.codeAny_mono
abbrev Jc:=@List.find?_cons
abbrev Jd:=@List.find?_eq_none
abbrev Je:=@List.filter_filter
abbrev Jf:=@List.length_zip
abbrev Jg:=@PySem.wpAny_holding
abbrev Jh:=@Nat.lt_irrefl
abbrev Ji:=@List.all_cons
abbrev Jj:=@PySem.Heap.SameBut.update
abbrev Jk:=@PySem.Heap.get?_update_other
abbrev Jl:=@PySem.F.slot_list_extend
abbrev Jm:=@Bool.and_comm
abbrev Jn:=@PySem.F.plainAttrs_dict
abbrev Jo:=@PySem.wpAny_typeNameOfWhole_keyiter
abbrev Jp:=@PySem.Calls.callWith_builtin
abbrev Jq:=@PySem.wpAny_passesOwn
abbrev Jr:=@PySem.wpAny_setState_of
abbrev Js:=@Nat.le_of_lt
abbrev Jt:=@Nat.ne_of_gt
abbrev Ju:=@PyProof.Rows.F.plain_set_update_loop
abbrev Jv:=@List.filterMap_cons
abbrev Jw:=@Bool.not_eq_true
abbrev Jx:=@PySem.Calls.evalArgs_plain
abbrev Jy:=@trivial
abbrev Jz:=@List.append_assoc
abbrev JA:=@List.take_append_drop
abbrev JB:=@Int.toNat_natCast
abbrev JC:=@PySem.F.type_list_extend
abbrev JD:=@PySem.wpAny_setEntries_of
abbrev JE:=@List.Nodup.sublist
abbrev JF:=@List.lookup_cons
abbrev JG:=@PySem.tupleKind_room_in1
abbrev JH:=@PySem.F.slot_tuple_iterator_next
abbrev JI:=@PySem.wpAny_rule
abbrev JJ:=@Nat.le_of_ble_eq_true
abbrev JK:=@decide_eq_decide
abbrev JL:=@List.filter_congr
abbrev JM:=@List.foldl_append
abbrev JN:=@List.take_of_length_le
abbrev JO:=@PySem.Calls.spliced_nil
abbrev JP:=@PySem.wpAny_fieldsOf
abbrev JQ:=@List.find?_some
abbrev JR:=@Nat.lt_succ_of_lt
abbrev JS:=@List.sum_cons
abbrev JT:=@PySem.plainId_quiet
abbrev JU:=@PySem.wpAny_attempt
abbrev JV:=@Int.natCast_nonneg
abbrev JW:=@List.getElem?_append_right
abbrev JX:=@Nat.lt_of_le_of_lt
abbrev JY:=@Bool.and_false
abbrev JZ:=@PySem.F.called_set
abbrev J0:=@Array.getElem?_eq_getElem
abbrev J1:=@List.getElem?_append_left
abbrev J2:=@List.Pairwise.imp_of_mem
abbrev J3:=@List.drop_eq_getElem_cons
abbrev J4:=@PySem.Heap.get?_update_self
abbrev J5:=@List.mem_range
abbrev J6:=@Bool.false_or
abbrev J7:=@List.any_cons
abbrev J8:=@List.filter_eq_self
abbrev J9:=@List.map_congr_left
abbrev J_:=@List.takeWhile_cons
abbrev Ka:=@PySem.Obj.data_mapFields
abbrev Kb:=@PySem.F.slot_dict_values
abbrev Kc:=@List.map_nil
abbrev Kd:=@List.filter_eq_nil_iff
abbrev Ke:=@List.getElem?_set_self
abbrev Kf:=@List.range_succ_eq_map
abbrev Kg:=@List.cons.injEq
abbrev Kh:=@List.mem_filterMap
abbrev Ki:=@List.getElem_range
abbrev Kj:=@PySem.sizeLine_eq
abbrev Kk:=@PySem.wpAny_pyIter_list
abbrev Kl:=@PySem.wpAny_pyIter_slot
abbrev Km:=@PySem.fits_of_scanBound
abbrev Kn:=@List.perm_append_comm
abbrev Ko:=@Bool.and_eq_false_iff
abbrev Kp:=@Prod.mk.inj
abbrev Kq:=@List.getElem?_set_ne
abbrev Kr:=@List.mem_of_mem_take
abbrev Ks:=@Nat.le_add_right
abbrev Kt:=@PySem.wpAny_isInstance
abbrev Ku:=@PySem.wpAny_pyIter_zip
abbrev Kv:=@List.any_map
abbrev Kw:=@Int.toNat_of_nonneg
abbrev Kx:=@PySem.evalArgs_none
abbrev Ky:=@PySem.call_meetsIn
abbrev Kz:=@PyProof.Rows.F.entry_set_update_loop
abbrev KA:=@PySem.pushCells_keeps
abbrev KC:=@PySem.wpAny_execs_nil
abbrev KD:=@Nat.le_of_eq
abbrev KG:=@Nat.pos_of_ne_zero
abbrev KH:=@Nat.min_eq_left
abbrev KI:=@PySem.F.args_tuple_iterator_next_1
abbrev KJ:=@List.Sublist.map
abbrev KL:=@PySem.F.plain_list_iadd
abbrev KN:=@PySem.F.slot_list_count
abbrev KO:=@PySem.F.entry_tuple_iterator_next
abbrev KP:=@List.all_map
abbrev KQ:=@getElem!_pos
abbrev KR:=@PySem.wpAny_setField
abbrev KS:=@PySem.wpAny_of_eq
abbrev KU:=@PySem.wpAny_updateSeq_pair
abbrev KW:=@Nat.le_of_succ_le
abbrev KY:=@Nat.min_le_right
abbrev KZ:=@PySem.wpAny_handled
abbrev K0:=@PySem.wpAny_onRaise
abbrev K1:=@PySem.wpAny_newList
abbrev K2:=@Nat.div_eq_of_lt
abbrev K3:=@Nat.lt_trans
abbrev K4:=@PySem.F.slot_dict_setdefault
abbrev K5:=@PySem.W.length_le_weightAllW
abbrev K6:=@List.any_eq_false
abbrev K7:=@List.nodup_append
abbrev K8:=@PySem.F.entry_proto_collect
abbrev K9:=@PySem.F.plain_proto_collect
abbrev K_:=@PySem.F.slot_dict_pop
abbrev La:=@PySem.F.slot_zip_next
abbrev Lb:=@Array.getElem?_eq_some_iff
abbrev Lc:=@Array.perm_iff_toList_perm
abbrev Ld:=@Int.fdiv_eq_ediv_of_nonneg
abbrev Le:=@List.length_eraseIdx_of_lt
abbrev Lf:=@PySem.wpAny_dictEntries
abbrev Lg:=@PySem.wpAny_setEpoch_of
abbrev Lh:=@List.Pairwise.sublist
abbrev Li:=@List.drop_drop
abbrev Lj:=@List.getElem?_eq_none_iff
abbrev Lk:=@PySem.F.plain_extend_loop
abbrev Ll:=@PySem.F.slot_dict_getitem
abbrev Lm:=@PyProof.Rows.boot_sorted
abbrev Ln:=@List.length_erase_of_mem
abbrev Lo:=@List.getElem?_take_of_lt
abbrev Lp:=@Option.isSome_iff_exists
abbrev Lq:=@Bool.or_false
abbrev Lr:=@PySem.F.args_dict_keyiterator_next_1
abbrev Ls:=@PySem.wpAny_askSetting
abbrev Lu:=@Nat.le_mul_of_pos_right
abbrev Lv:=@Nat.le_succ
abbrev Lw:=@PySem.F.entry_list_iadd
abbrev Lx:=@PySem.F.args_dict_get_3
abbrev Ly:=@PySem.F.args_dict_pop_3
abbrev Lz:=@PySem.F.entry_dict_keyiterator_next
abbrev LA:=@PySem.F.slot_list_index
abbrev LB:=@PySem.F.args_zip_next_1
abbrev LC:=@PySem.wpAny_throw
abbrev LD:=@PySem.wpAny_letGo
abbrev LF:=@List.drop_eq_nil_of_le
abbrev LG:=@List.length_pos_of_mem
abbrev LH:=@List.pairwise_lt_range
abbrev LI:=@Nat.div_eq_zero_iff_lt
abbrev LJ:=@PySem.W.cellsFrom_some
abbrev LK:=@PySem.F.entry_dict_get
abbrev LL:=@PySem.F.entry_dict_pop
abbrev LM:=@PySem.F.slot_dict_keyiterator_iter
abbrev LN:=@PySem.F.entry_zip_next
abbrev LO:=@PySem.wpAny_dictEpoch
abbrev LP:=@PyProof.noPylong_small
abbrev LQ:=@PyProof.Rows.listUpdate_at
abbrev LR:=@PySem.wpAny_ite_split
namespace L2
open PySem PySem.Spec PyProof.Rows
abbrev Key:=Sum Int Str
def g5:Key->Value->Bool
 | .inl k,v=>Value.isInt k v
 | .inr x,v=>Value.isStrOf x v
def EN(w:World):Key->Int
 | .inl k=>hashInt k
 | .inr x=>hashStr w x
theorem ca:∀{k:Key}{v:Value},g5 k v=true->(∃i t,k=Sum.inl i/\v=Value.int i t)\/(∃x t,k=Sum.inr x/\v=Value.str x t)
 | .inl i,v,h=>by obtain⟨t,e⟩:=Value.isInt_shape (k:=i) (v:=v) h;exact .inl ⟨i,t,rfl,e⟩
 | .inr x,v,h=>by obtain⟨t,e⟩:=Value.isStrOf_shape (x:=x) (v:=v) h;exact .inr ⟨x,t,rfl,e⟩
theorem yV(i:Int)(t:Tok):g5 (.inl i) (.int i t)=true:=by simp[g5,Value.isInt]
theorem yU(x:Str)(t:Tok):g5 (.inr x) (.str x t)=true:=by simp[g5,Value.isStrOf]
theorem Dk(a b:Int):decide ((Sum.inl a:Key)=Sum.inl b)=(a==b):=by
 by_cases e:a=b
 .subst e;simp
 .have h:¬(Sum.inl a:Key)=Sum.inl b:=λq=>e (Sum.inl.inj q);rw[Hw h];exact(Ia.mpr e).symm
theorem Dh(a b:Str):decide ((Sum.inr a:Key)=Sum.inr b)=decide (a=b):=by
 by_cases e:a=b
 .subst e;simp
 .have h:¬(Sum.inr a:Key)=Sum.inr b:=λq=>e (Sum.inr.inj q);rw[Hw h,Hw e]
theorem Dj(a:Int)(b:Str):decide ((Sum.inl a:Key)=Sum.inr b)=false:=Hw (λq=>nomatch q)
theorem Di(a:Str)(b:Int):decide ((Sum.inr a:Key)=Sum.inl b)=false:=Hw (λq=>nomatch q)
def ba(prog:Program)(w:World):PySem.KeyKind prog w Key where
 is:=g5
 hash:=EN w
 inj:=λv a b ha hb=>by
  rcases ca ha with⟨i,t,rfl,rfl⟩|⟨x,t,rfl,rfl⟩
  .rcases ca hb with⟨j,u,rfl,e⟩|⟨y,u,rfl,e⟩
   .injection e with e1 _;rw[e1]
   .exact nomatch e
  .rcases ca hb with⟨j,u,rfl,e⟩|⟨y,u,rfl,e⟩
   .exact nomatch e
   .injection e with e1 _;rw[e1]
 byValue:=λk v h=>by rcases ca h with⟨i,t,rfl,rfl⟩|⟨x,t,rfl,rfl⟩<;>rfl
 pyHash:=λhv h=>by
  rcases ca hv with⟨i,t,rfl,rfl⟩|⟨x,t,rfl,rfl⟩
  .exact wpAny_pyHash_int h
  .exact wpAny_pyHash_str h
 eqBool:=λhu hv h=>by
  rcases ca hu with⟨i,t,rfl,rfl⟩|⟨x,t,rfl,rfl⟩
  .rcases ca hv with⟨j,u,rfl,rfl⟩|⟨y,u,rfl,rfl⟩
   .rw[Dk]at h;exact wpAny_eqBool_int h
   .rw[Dj]at h;exact SeqAt.EqAt.int_str i t y u _ _ _ _ h
  .rcases ca hv with⟨j,u,rfl,rfl⟩|⟨y,u,rfl,rfl⟩
   .rw[Di]at h;exact SeqAt.EqAt.str_int x t j u _ _ _ _ h
   .rw[Dh]at h;exact wpAny_eqBool_str h
 «strs»:=λk x t v h=>by
  rcases ca h with⟨i,u,rfl,e⟩|⟨y,u,rfl,e⟩
  .exact nomatch e
  .injection e with e1 _;subst e1;cases v<;>rfl
theorem vo(prog:Program)(w:World)(i:Int)(t:Tok):(ba prog w).is (.inl i) (.int i t)=true:=yV i t
theorem vn(prog:Program)(w:World)(x:Str)(t:Tok):(ba prog w).is (.inr x) (.str x t)=true:=yU x t
inductive V where
 |non|bl (b:Bool)|int (i:Int)|str (x:Str)|byt (b:Array UInt8)|flt (b:UInt64)|ref (a:Addr)|ty (n:String)
 deriving DecidableEq
def aR:V->Value->Prop
 | .non,u=>u=Value.none
 | .bl b,u=>u=Value.bool b
 | .int i,u=>∃t,u=Value.int i t
 | .str x,u=>∃t,u=Value.str x t
 | .byt b,u=>∃t,u=Value.bytes b t
 | .flt b,u=>∃t,u=Value.float b t
 | .ref a,u=>u=Value.ref a
 | .ty n,u=>u=Value.type n
abbrev aC:List V->List Value->Prop:=Paired aR
theorem aC.length{xs:List V}{us:List Value}(r:aC xs us):xs.length=us.length:=HC r
theorem aC.get:∀{xs:List V}{us:List Value}{i:Nat}{x:V},aC xs us->xs[i]?=some x->∃u,us[i]?=some u/\aR x u
 |_,_,_,_,.nil,e=>by simp at e
 |_,_,0,_,.cons r _,e=>by simp at e;subst e;exact⟨_,rfl,r⟩
 |_,_,i+1,x,.cons _ t,e=>by obtain⟨u,h1,h2⟩:=aC.get (i:=i) (x:=x) t (by simpa using e);exact⟨u,by simpa using h1,h2⟩
theorem aC.set(r:aR x u):∀{xs:List V}{us:List Value}(i:Nat),aC xs us->aC (xs.set i x) (us.set i u)
 |_,_,_,.nil=>.nil
 |_,_,0,.cons _ t=>.cons r t
 |_,_,i+1,.cons q t=>.cons q (aC.set r i t)
theorem aC.append:∀{xs ys:List V}{us ws:List Value},aC xs us->aC ys ws->aC (xs++ys) (us++ws)
 |_,_,_,_,.nil,s=>s
 |_,_,_,_,.cons r t,s=>.cons r (aC.append t s)
theorem aC.take:∀{xs:List V}{us:List Value}(n:Nat),aC xs us->aC (xs.take n) (us.take n)
 |_,_,0,_=>.nil
 |_,_,_+1,.nil=>.nil
 |_,_,n+1,.cons r t=>.cons r (aC.take n t)
theorem aC.drop:∀{xs:List V}{us:List Value}(n:Nat),aC xs us->aC (xs.drop n) (us.drop n)
 |_,_,0,r=>r
 |_,_,_+1,.nil=>.nil
 |_,_,n+1,.cons _ t=>aC.drop n t
theorem aC.none_of:∀{xs:List V}{us:List Value}{i:Nat},aC xs us->xs[i]?=none->us[i]?=none:=λ{xs us i} r e=>by have h1:=r.length;have h2:xs.length<=i:=Lj.mp e;exact Lj.mpr (by omega)
def dN:Option V->Option Value->Prop
 |some v,some u=>aR v u
 |none,none=>True
 |_,_=>False
def KV{κ:Type}:List (κ×V)->List (κ×Value)->Prop:=Paired λ(p:κ×V)(q:κ×Value)=>p.1=q.1/\aR p.2 q.2
def kV:Key->V
 | .inl i=>.int i
 | .inr x=>.str x
inductive HO where
 |lst (xs:List V)
 |tup (xs:List V)
 |dK (kvs:List (Key×V))|dT (kvs:List (List Key×V))
 |set (S:Int->Bool) (n:Nat)
 |ins (C dx:Addr) (fs:List (Str×V))
 |own (x:Addr)
 |xd (fs:List (Str×V))
 |met (f x:Addr)
 |rng (lo hi:Int)
 |frz (o:Obj) (u:HO)
 |tbl (ps:Array Value)
 |ext (φ:Heap->Prop)
abbrev Hp:=Addr->Option HO
def upd(H:Hp)(a:Addr)(o:HO):Hp:=λb=>if b=a then some o else H b
theorem aa{H:Hp}{a:Addr}{o:HO}:upd H a o a=some o:=by unfold upd;rw[Hc rfl]
theorem ai{H:Hp}{a b:Addr}{o:HO}(h:b≠a):upd H a o b=H b:=by unfold upd;rw[G9 h]
theorem aF{H:Hp}{a b:Addr}{o u:HO}(h:H a=some o)(h':H b=some u)(d:o≠u:=by intro z;cases z):a≠b:=by intro e;subst e;rw[h]at h';exact d (Hg h')
theorem au{H:Hp}{a b:Addr}{o:HO}(h:H a=some o)(h':H b=none):a≠b:=by intro e;subst e;rw[h]at h';cases h'
section
variable(P:Program)(w:World)
def bZ(H:Hp)(h:Heap)(a:Addr):HO->Prop
 | .lst xs=>xs.length<=sizeLine/\∃(its:List Value)(n:Nat),aC xs its/\h.get? a=some {cls:=.type "list",data:=.seq its.toArray n}
 | .tup xs=>xs.length<=sizeLine/\∃its:List Value,aC xs its/\IsTup h a its.toArray
 | .dK kvs=>kvs.length<=sizeLine/\(a==sysModules)=false/\∃vs,KV kvs vs/\h.DictOf (ba P w) a vs
 | .dT kvs=>kvs.length<=sizeLine/\(a==sysModules)=false/\∃xs:List (List Key×Addr×Value),
   Paired (λ(p:List Key×V)(q:List Key×Addr×Value)=>p.1=q.1/\H q.2.1=some (.tup (p.1.map kV))/\aR p.2 q.2.2) kvs xs/\
   ∃o es ep,h.get? a=some o/\o.ExactDict/\o.data=.dict es ep/\es.toList=xs.map (entryOfKey (tupleKind (ba P w)))/\(xs.map (·.1)).Nodup
 | .set S n=>h.SetOf (intKind P w) a S n
 | .ins C dx fs=>H dx=some (.own a)/\fs.length<=1000/\dx≠a/\h.get? a=some (instObj C dx)/\
   ∃mA,h.Ns1 dx mA/\(∀f,dN (fs.lookup f) (mA f))/\PySem.Within mA (fs.map (·.1))
 | .own _=>∃o,h.get? a=some o
 | .xd fs=>∃mA,h.Ns1 a mA/\∀f,dN (fs.lookup f) (mA f)
 | .rng lo hi=>∃t u v,h.get? a=some {cls:=.type "range",data:=.fields #[.int lo t,.int hi u,.int 1 v]}
 | .frz o u=>h.get? a=some o/\bZ H h a u
 | .tbl ps=>h.get? a=some {cls:=.none,data:=.fields ps}
 | .met f x=>h.get? a=some (methodObj (.ref f) (.ref x))
 | .ext φ=>φ h/\(∃o,h.get? a=some o)/\∀h1 h2:Heap,φ h1->(∀o,h1.get? a=some o->h2.get? a=some o)->φ h2
def HOk(H:Hp)(h:Heap):Prop:=∀a o,H a=some o->bZ P w H h a o
end
section
variable{P:Program}{w:World}{H H':Hp}{h h':Heap}{a:Addr}{o:HO}
theorem bZ.lt(x:bZ P w H h a o):a<h.objs.size:=by
 cases o with
 |lst xs=>obtain⟨_,_,_,_,e⟩:=x;exact HB e
 |tup xs=>obtain⟨_,_,_,p⟩:=x;exact p.lt
 |dK kvs=>obtain⟨_,_,_,_,o,_,_,e,_⟩:=x;exact HB e
 |dT kvs=>obtain⟨_,_,_,_,o,_,_,e,_⟩:=x;exact HB e
 |set S n=>obtain⟨o,_,_,_,e,_⟩:=x;exact HB e
 |ins C dx fs=>obtain⟨_,_,_,e,_⟩:=x;exact HB e
 |own y=>obtain⟨_,e⟩:=x;exact HB e
 |xd fs=>obtain⟨_,⟨_,_,_,e,_⟩,_⟩:=x;exact HB e
 |rng lo hi=>obtain⟨_,_,_,e⟩:=x;exact HB e
 |frz ob u=>obtain⟨e,_⟩:=x;exact HB e
 |tbl ps=>exact HB (show h.get? a=some _ from x)
 |met f y=>exact HB (show h.get? a=some _ from x)
 |ext φ=>obtain⟨_,⟨_,e⟩,_⟩:=x;exact HB e
theorem Paired.mapP{α β:Type}{F G:α->β->Prop}:∀{l₁:List α}{l₂:List β},Paired F l₁ l₂->(∀a b,F a b->G a b)->Paired G l₁ l₂
 |_,_,.nil,_=>.nil
 |_,_,.cons r t,f=>.cons (f _ _ r) (Paired.mapP t f)
theorem bZ.stay(x:bZ P w H h a o)(k:∀b u,(b=a\/H b=some (.own a))->h.get? b=some u->h'.get? b=some u)(ho:∀b,H b=some (.own a)->H' b=some (.own a)) (ht:∀b xs,H b=some (.tup xs)->H' b=some (.tup xs)):bZ P w H' h' a o:=by
 induction o with
 |lst xs=>obtain⟨z,its,n,r,e⟩:=x;exact⟨z,its,n,r,k _ _ (.inl rfl) e⟩
 |tup xs=>obtain⟨z,its,r,ob,e,c⟩:=x;exact⟨z,its,r,ob,k _ _ (.inl rfl) e,c⟩
 |dK kvs=>obtain⟨z,y,vs,r,ob,es,ep,e,c⟩:=x;exact⟨z,y,vs,r,ob,es,ep,k _ _ (.inl rfl) e,c⟩
 |dT kvs=>obtain⟨z,y,xs,r,ob,es,ep,e,c⟩:=x;exact⟨z,y,xs,Paired.mapP r λp q z=>⟨z.1,ht _ _ z.2.1,z.2.2⟩,ob,es,ep,k _ _ (.inl rfl) e,c⟩
 |set S n=>obtain⟨ob,es,ep,t,e,c⟩:=x;exact⟨ob,es,ep,t,k _ _ (.inl rfl) e,c⟩
 |ins C dx fs=>obtain⟨d,z,ne,e,mA,⟨od,es,ep,e2,c⟩,r⟩:=x;exact⟨ho _ d,z,ne,k _ _ (.inl rfl) e,mA,⟨od,es,ep,k _ _ (.inr d) e2,c⟩,r⟩
 |own y=>obtain⟨ob,e⟩:=x;exact⟨ob,k _ _ (.inl rfl) e⟩
 |xd fs=>obtain⟨mA,⟨od,es,ep,e,c⟩,r⟩:=x;exact⟨mA,⟨od,es,ep,k _ _ (.inl rfl) e,c⟩,r⟩
 |rng lo hi=>obtain⟨t,u,v,e⟩:=x;exact⟨t,u,v,k _ _ (.inl rfl) e⟩
 |frz ob u ih=>obtain⟨e,q⟩:=x;exact⟨k _ _ (.inl rfl) e,ih q⟩
 |tbl ps=>have e:h.get? a=some {cls:=.none,data:=.fields ps}:=x;show h'.get? a=some {cls:=.none,data:=.fields ps};exact k a _ (.inl rfl) e
 |met f y=>have e:h.get? a=some (methodObj (.ref f) (.ref y)):=x;show h'.get? a=some (methodObj (.ref f) (.ref y));exact k a _ (.inl rfl) e
 |ext φ=>obtain⟨p,⟨o,e⟩,st⟩:=x;exact⟨st _ _ p λo q=>k _ _ (.inl rfl) q,⟨o,k _ _ (.inl rfl) e⟩,st⟩
theorem HOk.lt(x:HOk P w H h)(e:H a=some o):a<h.objs.size:=(x a o e).lt
theorem HOk.fresh(x:HOk P w H h)(e:h.objs.size<=a):H a=none:=by
 cases q:H a with
 |none=>rfl
 |some u=>exact absurd (HY (x.lt q) e) (Jh _)
theorem HOk.kept(x:HOk P w H h)(k:∀b u,h.get? b=some u->h'.get? b=some u):HOk P w H h':=λa o e=>
 (x a o e).stay (λb u _ q=>k b u q) (λ_ q=>q) λ_ _ q=>q
theorem HOk.laid(x:HOk P w H h)(k:∀b u,h.get? b=some u->h'.get? b=some u)(hp:h.objs.size<=a)(new:bZ P w (upd H a o) h' a o):HOk P w (upd H a o) h':=λb u e=>by
 have hn:=x.fresh hp;by_cases hb:b=a
 .subst hb;rw[aa]at e;cases e;exact new
 .rw[ai hb]at e;exact(x b u e).stay (λc v _ q=>k c v q) (λc q=>by rw[ai (au q hn)];exact q) λc xs q=>by rw[ai (au q hn)];exact q
end
def Rd(H:Hp)(a:Addr)(u:HO):Prop:=H a=some u\/∃o,H a=some (.frz o u)
theorem Rd.of(h:H a=some u):Rd H a u:=.inl h
theorem Rd.ok{P:Program}{w:World}{H:Hp}{h:Heap}{a:Addr}{u:HO}(r:Rd H a u)(x:HOk P w H h):bZ P w H h a u:=by
 rcases r with r|⟨o,r⟩
 .exact x a u r
 .obtain⟨_,q⟩:=x a _ r;exact q
def Mut:Option HO->Prop
 |some (.lst _)=>True
 |some (.dK _)=>True
 |some (.dT _)=>True
 |some (.set _ _)=>True
 |some (.ins _ _ _)=>True
 |some (.ext _)=>True
 |_=>False
section
variable{P:Program}{w:World}{H:Hp}{h h':Heap}{x e:Addr}{o':HO}
theorem HOk.write(ok:HOk P w H h)(mu:Mut (H x))(he:e=x\/H e=some (.own x))(k:∀b u,b≠e->h.get? b=some u->h'.get? b=some u)(heo:∃u,h'.get? e=some u)(new:bZ P w (upd H x o') h' x o'):HOk P w (upd H x o') h':=λb u q=>by
 have nown:∀c y,H c=some (.own y)->c≠x:=λc y r z=>by subst z;rw[r]at mu;exact mu
 have ntup:∀c xs,H c=some (.tup xs)->c≠x:=λc xs r z=>by subst z;rw[r]at mu;exact mu
 by_cases hb:b=x
 .subst hb;rw[aa]at q;cases q;exact new
 .rw[ai hb]at q;by_cases hbe:b=e
  .have q':H b=some (.own x):=by
    rcases he with z|z
    .exact absurd (hbe.trans z) hb
    .rw[hbe];exact z
   rw[q]at q';cases q';obtain⟨v,hv⟩:=heo;exact⟨v,by rw[hbe];exact hv⟩
  .refine(ok b u q).stay (λc v hc r=>k c v ?_ r) (λc r=>by rw[ai (nown c b r)];exact r) λc xs r=>by rw[ai (ntup c xs r)];exact r
   rcases hc with rfl|hc
   .exact hbe
   .rintro rfl;rcases he with z|z
    .exact nown c b hc z
    .rw[hc]at z;cases z;exact hb rfl
end
structure Un(fs ex:List Addr)(H H':Hp)(h h':Heap):Prop where
 keep:∀b o,h.get? b=some o->H b=none->b∉fs->b∉ex->h'.get? b=some o
 slot:∀b o,h.get? b=some o->H b=none->b∈fs->b∉ex->∃sl,h'.get? b=some {o with slots:=sl}
 free:∀b o,h.get? b=some o->H b=none->b∉ex->H' b=none
 there:∀b o,h.get? b=some o->b∉ex->∃o',h'.get? b=some o'
 tups:∀b xs,H b=some (.tup xs)->H' b=some (.tup xs)
 frzs:∀b o u,H b=some (.frz o u)->H' b=some (.frz o u)
 tbls:∀b ps,H b=some (.tbl ps)->∃more,H' b=some (.tbl (ps++more))
section
variable{fs fs' ex ex':List Addr}{H H1 H2:Hp}{h h1 h2 h':Heap}{a x e:Addr}{o:HO}
theorem Un.any(u:Un fs ex H H1 h h1){b:Addr}{ob:Obj}(q:h.get? b=some ob)(n:H b=none)(hx:b∉ex):∃sl,h1.get? b=some {ob with slots:=sl}:=by
 by_cases hb:b∈fs
 .exact u.slot b ob q n hb hx
 .exact⟨ob.slots,u.keep b ob q n hb hx⟩
theorem Un.trans(a:Un fs ex H H1 h h1)(b:Un fs ex H1 H2 h1 h2):Un fs ex H H2 h h2 where
 keep:=λc ob q n hc hx=>b.keep c ob (a.keep c ob q n hc hx) (a.free c ob q n hx) hc hx
 slot:=λc ob q n hc hx=>by obtain⟨sl,e1⟩:=a.slot c ob q n hc hx;obtain⟨sl',e2⟩:=b.slot c _ e1 (a.free c ob q n hx) hc hx;exact⟨sl',e2⟩
 free:=λc ob q n hx=>by obtain⟨o',e1⟩:=a.there c ob q hx;exact b.free c o' e1 (a.free c ob q n hx) hx
 there:=λc ob q hx=>by obtain⟨o',e1⟩:=a.there c ob q hx;exact b.there c o' e1 hx
 tups:=λc xs q=>b.tups c xs (a.tups c xs q)
 frzs:=λc ob xs q=>b.frzs c ob xs (a.frzs c ob xs q)
 tbls:=λc ps q=>by obtain⟨m1,e1⟩:=a.tbls c ps q;obtain⟨m2,e2⟩:=b.tbls c _ e1;exact⟨m1++m2,by rw[e2,Array.append_assoc]⟩
theorem Un.kept(k:∀b u,h.get? b=some u->h'.get? b=some u):Un fs ex H H h h':=
 ⟨λb ob q _ _ _=>k b ob q,λb ob q _ _ _=>⟨ob.slots,k b ob q⟩,λ_ _ _ n _=>n,λb ob q _=>⟨ob,k b ob q⟩,λ_ _ q=>q,λ_ _ _ q=>q,λ_ ps q=>⟨#[],by rw[q];simp⟩⟩
theorem Un.refl:Un fs ex H H h h:=Un.kept λ_ _ q=>q
theorem Un.laid(k:∀b u,h.get? b=some u->h'.get? b=some u)(hp:h.objs.size<=a)(hn:H a=none):Un fs ex H (upd H a o) h h' where
 keep:=λb u q _ _ _=>k b u q
 slot:=λb u q _ _ _=>⟨u.slots,k b u q⟩
 free:=λb u q n _=>by rw[ai (HW (HY (HB q) hp))];exact n
 there:=λb u q _=>⟨u,k b u q⟩
 tups:=λb xs q=>by rw[ai (au q hn)];exact q
 frzs:=λb u xs q=>by rw[ai (au q hn)];exact q
 tbls:=λb ps q=>⟨#[],by rw[ai (au q hn),q];simp⟩
theorem Un.write(mu:Mut (H x))(he:e=x\/H e=some (.own x))(k:∀b u,b≠e->h.get? b=some u->h'.get? b=some u)(heo:∃u,h'.get? e=some u):Un fs ex H (upd H x o) h h':=by
 have hx:∀b,H b=none->b≠x:=λb n z=>by subst z;rw[n]at mu;exact mu
 have hb:∀b,H b=none->b≠e:=λb n z=>by
  subst z;rcases he with r|r
  .exact hx b n r
  .rw[n]at r;cases r
 have hm:∀b u,H b=some u->¬Mut (some u)->b≠x:=λb u q nm z=>by subst z;rw[q]at mu;exact nm mu
 refine⟨λb u q n _ _=>k b u (hb b n) q,λb u q n _ _=>⟨u.slots,k b u (hb b n) q⟩,λb u q n _=>by rw[ai (hx b n)];exact n,λb u q _=>?_,
  λb xs q=>by rw[ai (hm b _ q λz=>z)];exact q,λb u xs q=>by rw[ai (hm b _ q λz=>z)];exact q,λb ps q=>⟨#[],by rw[ai (hm b _ q λz=>z),q];simp⟩⟩
 by_cases hbe:b=e
 .subst hbe;exact heo
 .exact⟨u,k b u hbe q⟩
theorem Un.mono(u:Un fs ex H H1 h h1)(hs:∀b∈fs,b∈fs')(hx:∀b∈ex,b∈ex'):Un fs' ex' H H1 h h1:=
 ⟨λb ob q n hb he=>u.keep b ob q n (λz=>hb (hs b z)) λz=>he (hx b z),λ_ _ q n _ he=>u.any q n λz=>he (hx _ z),λb ob q n he=>u.free b ob q n λz=>he (hx b z),λb ob q he=>u.there b ob q λz=>he (hx b z),u.tups,u.frzs,u.tbls⟩
end
def trk(h:Heap)(H:Hp):List Addr:=(List.range h.objs.size).filter λa=>(H a).isSome
def jA(h:Heap)(H:Hp):Heap:=PySem.W.hideAll h (trk h H)
theorem y1(h:Heap)(H:Hp):(jA h H).objs.size=h.objs.size:=PySem.W.hideAll_size _ _
theorem Az(e:h.get? b=some o)(n:H b=none):(jA h H).get? b=some o:=
 PySem.W.hideAll_get _ e λhm=>by have q:(H b).isSome=true:=(HK.mp hm).2;rw[n]at q;simp at q
theorem BK(e:(jA h H).get? b=some o):h.get? b=some o/\H b=none:=by
 have e':h.get? b=some o:=PySem.W.of_hideAll (trk h H) e;refine⟨e',?_⟩;cases q:H b with
 |none=>rfl
 |some x=>have hm:b∈trk h H:=HK.mpr ⟨J5.mpr (HB e'),by simp[q]⟩;have z:(jA h H).get? b=none:=PySem.W.hideAll_none (trk h H) hm;rw[z]at e;cases e
def Cf(g h:Heap)(L:Addr):List (Addr×Obj):=(List.range h.objs.size).filterMap λa=>if a=L\/(g.get? a).isSome=true then none else(h.get? a).map λo=>(a,o)
def rest(g h:Heap)(L d:Addr):List (Addr×Obj):=(Cf g h L).filter λp=>decide (p.1≠d)
structure Mod(K:LS)(mg:Str->Option Value)(base:Heap):Prop where
 kin:K.In base
 glob:base.Ns mainGlobals mg
 blt:∃mb,base.Ns builtinsNs mb/\∀x:Str,x≠"__name__"->mb x=bootBuiltins x
 nolimit:base.NoLimit
structure Cx where
 prog:Program
 w:World
 K:LS
 mg:Str->Option Value
 base:Heap
 A:Around
 N:List Str
 s_0:Shared
 H_0:Hp
 env:Env
 outer:List Env
 stack:List Env
 ex:List Addr
 fn:Str->Bool
 calm:Bool
 pn:List (Addr×Obj)
 xe:Value->Shared->Prop
def frs(l:List Env):List Addr:=l.filterMap (·.frame)
abbrev Cx.fs(X:Cx):List Addr:=frs X.outer
def Vis(sc:Scope)(x:Str):Prop:=sc.names.lookup x=some .local\/sc.names.lookup x=some .cell\/sc.names.lookup x=some .free
def Loc(sc:Scope)(x:Str):Prop:=sc.names.lookup x=some .local\/sc.names.lookup x=some .cell
def EY(env:Env)(h:Heap)(m:Str->Option Value)(x:Str)(u:Value):Prop:=
 (env.kindOf x=some .local/\m x=some u)\/((env.kindOf x=some .cell\/env.kindOf x=some .free)/\∃c,env.cells.lookup x=some c/\h.IsCell c (some u))
structure Cx.Ok(X:Cx):Prop where
 mod:Mod X.K X.mg X.base
 kind:X.env.scope.kind=.function
 glob:X.env.globals=mainGlobals
 blt:X.env.builtins=builtinsNs
 above:X.s_0.heap.objs.size<=X.env.locals
 inj:∀x y c,X.env.cells.lookup x=some c->X.env.cells.lookup y=some c->x=y
 has:∀x,(X.env.kindOf x=some .cell\/X.env.kindOf x=some .free)->∃c,X.env.cells.lookup x=some c
 cab:∀x c,X.fn x=true->X.env.cells.lookup x=some c->X.s_0.heap.objs.size<=c
 hd:X.calm=true->X.A.handled=none
 frames:X.A.frames=some X.stack
 stk:X.stack=X.outer\/(X.stack=X.env::X.outer/\X.env.frame=some X.env.locals)
 exf:∀b∈X.ex,b≠X.env.locals/\∀x c,X.env.cells.lookup x=some c->c≠b
 bs:∀b o,X.base.get? b=some o->X.s_0.heap.get? b=some o/\X.H_0 b=none
 bsz:X.base.objs.size<=X.s_0.heap.objs.size
 noex:∀b o,X.base.get? b=some o->b∉X.ex
 exfs:∀b∈X.ex,b∉X.fs
 funs:X.s_0.heap.FunFrames X.base X.outer
 frf:∀b∈X.fs,X.H_0 b=none
structure Inv(X:Cx)(LX:List (Addr×Obj))(σ:List (Option V))(H:Hp)(s:Shared):Prop where
 ok:X.Ok
 os:s.os=X.s_0.os
 bare:AllBare s.gens
 base:Un X.fs X.ex X.H_0 H X.s_0.heap s.heap
 loc:∃m,s.heap.Ns X.env.locals m/\∀(i:Nat)(x:Str)(v:V),X.N[i]?=some x->σ[i]?=some (some v)->Vis X.env.scope x->∃u,aR v u/\EY X.env s.heap m x u
 cell:∀x c,X.env.cells.lookup x=some c->∃v,s.heap.IsCell c v
 free:H X.env.locals=none
 freeC:∀x c,X.env.cells.lookup x=some c->H c=none
 pin:∀p∈X.pn++LX,s.heap.get? p.1=some p.2/\H p.1=none/\p.1≠X.env.locals/\p.1∉X.fs/\∀v,p.2.data≠ .cell v
 hok:HOk X.prog X.w H s.heap
 len:σ.length=X.N.length
section
variable{X:Cx}{LX:List (Addr×Obj)}{σ:List (Option V)}{H H':Hp}{s:Shared}{h':Heap}
theorem Cx.Ok.nofr(ok:X.Ok)(e:X.base.get? b=some o):b∉X.fs:=λhb=>by have:=(ok.funs.mem hb).1;rw[e]at this;cases this
theorem Inv.bs(I:Inv X LX σ H s):∀b o,X.base.get? b=some o->s.heap.get? b=some o/\H b=none:=λb o e=>
 ⟨I.base.keep b o (I.ok.bs b o e).1 (I.ok.bs b o e).2 (I.ok.nofr e) (I.ok.noex b o e),I.base.free b o (I.ok.bs b o e).1 (I.ok.bs b o e).2 (I.ok.noex b o e)⟩
theorem Inv.bk(I:Inv X LX σ H s):∀b o,X.base.get? b=some o->s.heap.get? b=some o:=λb o e=>(I.bs b o e).1
theorem Inv.mod(I:Inv X LX σ H s):Mod X.K X.mg X.base:=I.ok.mod
theorem Inv.kIn(I:Inv X LX σ H s):X.K.In s.heap:=I.ok.mod.kin.keeps I.bk
theorem Inv.nolimit(I:Inv X LX σ H s):s.heap.NoLimit:=I.ok.mod.nolimit.keeps I.bk
theorem Inv.fr(I:Inv X LX σ H s):∃m,Fr X.base X.env.locals s.heap m:=
 let⟨m,hn,_⟩:=I.loc
 ⟨m,hn,I.bk,Hv I.ok.bsz I.ok.above⟩
theorem Inv.lt(I:Inv X LX σ H s):X.env.locals<s.heap.objs.size:=let⟨_,hn,_⟩:=I.loc;hn.lt
theorem Inv.sz(I:Inv X LX σ H s):X.s_0.heap.objs.size<=s.heap.objs.size:=Hv I.ok.above (Js I.lt)
theorem Inv.nofs(I:Inv X LX σ H s)(h:s.heap.objs.size<=a):a∉X.fs:=λhb=>by obtain⟨_,o,ho,_⟩:=I.ok.funs.mem hb;exact absurd (HY (HB ho) (Hv I.sz h)) (Jh _)
theorem Inv.cne(I:Inv X LX σ H s):∀x c,X.env.cells.lookup x=some c->c≠X.env.locals:=λx c e z=>by obtain⟨v,o,ho,hd⟩:=I.cell x c e;obtain⟨m,⟨o',es,ep,NR,hd',_⟩,_⟩:=I.loc;rw[z,NR]at ho;cases ho;rw[hd']at hd;cases hd
theorem Inv.funs(I:Inv X LX σ H s):s.heap.FunFrames X.base X.outer:=by
 have all:∀(l:List Env),(∀b∈frs l,b∈X.fs)->X.s_0.heap.FunFrames X.base l->s.heap.FunFrames X.base l:=by
  intro l;induction l with
  |nil=>intro _ _;trivial
  |cons env r ih=>intro hs hl;obtain⟨hk,⟨L,o,hf,hn,ho,hd⟩,hr⟩:=hl;have hL:L∈X.fs:=hs L (by unfold frs;rw[Jv,hf];exact Hk);obtain⟨sl,e⟩:=I.base.slot L o ho (I.ok.frf L hL) hL λz=>I.ok.exfs L z hL;exact⟨hk,⟨L,_,hf,hn,e,hd⟩,ih (λb hb=>hs b (by unfold frs;rw[Jv,hf];exact Hh _ hb)) hr⟩
 exact all X.outer (λ_ hb=>hb) I.ok.funs
theorem Inv.stack(I:Inv X LX σ H s):s.heap.FunFrames X.base X.stack:=by
 rcases I.ok.stk with e|⟨e,hf⟩
 .rw[e];exact I.funs
 .rw[e];obtain⟨m,hn,_⟩:=I.loc;refine .cons (by rw[I.ok.kind];decide) hf hn ?_ I.funs;exact Heap.get?_none_of_le (Hv I.ok.bsz I.ok.above)
theorem Inv.stkSub(I:Inv X LX σ H s):∀b∈frs X.stack,b∈X.env.locals::X.fs:=λb hb=>by
 rcases I.ok.stk with e|⟨e,hf⟩
 .rw[e]at hb;exact Hh _ hb
 .rw[e]at hb;unfold frs at hb;rw[Jv,hf]at hb;exact hb
theorem Inv.stkFree(I:Inv X LX σ H s):∀b∈frs X.stack,H b=none:=λb hb=>by
 rcases Hi.mp (I.stkSub b hb)with e|hb
 .rw[e];exact I.free
 .obtain⟨_,o,ho,_⟩:=I.ok.funs.mem hb;exact I.base.free b o ho (I.ok.frf b hb) λz=>I.ok.exfs b z hb
theorem Inv.step{g':Array GenState}{t':Nat}{d':Drawn}{ch:List Addr}(I:Inv X LX σ H s)(O2:∀b∈ch,(b∈X.ex\/X.s_0.heap.objs.size<=b)/\b≠X.env.locals/\(∀x c,X.env.cells.lookup x=some c->c≠b)/\∀p∈X.pn++LX,p.1≠b)(keep:∀b o,b≠X.env.locals->b∉X.fs->b∉ch->s.heap.get? b=some o->H b=none->h'.get? b=some o)(slot:∀b o,b≠X.env.locals->b∈X.fs->b∉ch->s.heap.get? b=some o->H b=none->∃sl,h'.get? b=some {o with slots:=sl}) (free:∀b o,b∉ch->s.heap.get? b=some o->H b=none->H' b=none)(there:∀b o,b∉ch->s.heap.get? b=some o->∃o',h'.get? b=some o')(tups:∀b xs,H b=some (.tup xs)->H' b=some (.tup xs)) (frzs:∀b o u,H b=some (.frz o u)->H' b=some (.frz o u)) (tbls:∀b ps,H b=some (.tbl ps)->∃more,H' b=some (.tbl (ps++more)))(ns:∀m,s.heap.Ns X.env.locals m->h'.Ns X.env.locals m) (hok:HOk X.prog X.w H' h') (hg:AllBare g'):Inv X LX σ H' {s with heap:=h',gens:=g',drawn:=d',toks:=t'}:=by
 have neL:∀b o,X.s_0.heap.get? b=some o->b≠X.env.locals:=λb o e=>HW (HY (HB e) I.ok.above);have neC:∀b o,X.s_0.heap.get? b=some o->b∉X.ex->b∉ch:=λb o e hx hb=>by
  rcases(O2 b hb).1 with z|z
  .exact hx z
  .exact absurd (HY (HB e) z) (Jh _)
 have cellK:∀x c,X.env.cells.lookup x=some c->∀v,s.heap.IsCell c v->h'.IsCell c v:=λx c e v ⟨o,ho,hd⟩=>by
  have nch:c∉ch:=λz=>(O2 c z).2.2.1 x c e rfl;by_cases hc:c∈X.fs
  .obtain⟨sl,q⟩:=slot c o (I.cne x c e) hc nch ho (I.freeC x c e);exact⟨_,q,hd⟩
  .exact⟨o,keep c o (I.cne x c e) hc nch ho (I.freeC x c e),hd⟩
 refine⟨I.ok,I.os,hg,⟨λb o e n hb hx=>?_,λb o e n hb hx=>?_,λb o e n hx=>?_,λb o e hx=>?_,λb xs e=>tups b xs (I.base.tups b xs e),λb o xs e=>frzs b o xs (I.base.frzs b o xs e),λb ps e=>?_⟩,?_,λx c e=>?_,?_,λx c e=>?_,λp hp=>?_,hok,I.len⟩
 .exact keep b o (neL b o e) hb (neC b o e hx) (I.base.keep b o e n hb hx) (I.base.free b o e n hx)
 .obtain⟨sl,e1⟩:=I.base.slot b o e n hb hx;obtain⟨sl',e2⟩:=slot b _ (neL b o e) hb (neC b o e hx) e1 (I.base.free b o e n hx);exact⟨sl',e2⟩
 .obtain⟨o',e1⟩:=I.base.there b o e hx;exact free b o' (neC b o e hx) e1 (I.base.free b o e n hx)
 .obtain⟨o',e1⟩:=I.base.there b o e hx;exact there b o' (neC b o e hx) e1
 .obtain⟨m1,e1⟩:=I.base.tbls b ps e;obtain⟨m2,e2⟩:=tbls b _ e1;exact⟨m1++m2,by rw[e2,Array.append_assoc]⟩
 .obtain⟨m,hn,hl⟩:=I.loc;refine⟨m,ns m hn,λi x v e1 e2 e3=>?_⟩;obtain⟨u,r,l⟩:=hl i x v e1 e2 e3;refine⟨u,r,?_⟩;rcases l with l|⟨k,c,e,z⟩
  .exact .inl l
  .exact .inr ⟨k,c,e,cellK x c e _ z⟩
 .obtain⟨v,z⟩:=I.cell x c e;exact⟨v,cellK x c e v z⟩
 .obtain⟨m,⟨o,_,_,ho,_⟩,_⟩:=I.loc;exact free _ o (λz=>(O2 _ z).2.1 rfl) ho I.free
 .obtain⟨v,o,ho,hd⟩:=I.cell x c e;exact free c o (λz=>(O2 c z).2.2.1 x c e rfl) ho (I.freeC x c e)
 .obtain⟨e,n,ne,nf,d⟩:=I.pin p hp;have nch:p.1∉ch:=λz=>(O2 p.1 z).2.2.2 p hp rfl;exact⟨keep p.1 p.2 ne nf nch e n,free p.1 p.2 nch e n,ne,nf,d⟩
theorem Inv.un{t':Nat}(I:Inv X LX σ H s)(u:Un X.fs [] H H' s.heap h')(hok:HOk X.prog X.w H' h'):Inv X LX σ H' {s with heap:=h',toks:=t'}:=by
 obtain⟨m,⟨o,es,ep,ho,r⟩,_⟩:=id I.loc;obtain⟨sl,hL⟩:=u.any ho I.free (by simp)
 exact I.step (g':=s.gens) (d':=s.drawn) (ch:=[]) (λ_ z=>nomatch z) (λb o _ hb _ e n=>u.keep b o e n hb (by simp)) (λb o _ hb _ e n=>u.slot b o e n hb (by simp)) (λb o _ e n=>u.free b o e n (by simp)) (λb o _ e=>u.there b o e (by simp)) u.tups u.frzs u.tbls (λm' hm=>by
  obtain⟨o',es',NS,NR,r'⟩:=hm;rw[ho]at NR;cases NR
  exact⟨_,es',NS,hL,r'⟩) hok I.bare
theorem Inv.call{g':Array GenState}{t':Nat}{d':Drawn}{ch:List Addr}(I:Inv X LX σ H s)(u:Un (frs X.stack) ch H H' s.heap h')(hok:HOk X.prog X.w H' h')(hg:AllBare g')(O2:∀b∈ch,(b∈X.ex\/X.s_0.heap.objs.size<=b)/\b≠X.env.locals/\(∀x c,X.env.cells.lookup x=some c->c≠b)/\∀p∈X.pn++LX,p.1≠b):Inv X LX σ H' {s with heap:=h',gens:=g',drawn:=d',toks:=t'}:=by
 obtain⟨m,⟨o,es,ep,ho,r⟩,_⟩:=id I.loc;obtain⟨sl,hL⟩:=u.any ho I.free λz=>(O2 _ z).2.1 rfl
 exact I.step (ch:=ch) O2 (λb o hL hb hc e n=>u.keep b o e n (λz=>(Hi.mp (I.stkSub b z)).elim hL hb) hc) (λb o _ _ hc e n=>u.any e n hc) (λb o hc e n=>u.free b o e n hc) (λb o hc e=>u.there b o e hc) u.tups u.frzs u.tbls (λm' hm=>by
  obtain⟨o',es',NS,NR,r'⟩:=hm;rw[ho]at NR;cases NR
  exact⟨_,es',NS,hL,r'⟩) hok hg
theorem Inv.turned{t':Nat}{it:Addr}(I:Inv X LX σ H s)(k:∀b o,b≠it->s.heap.get? b=some o->h'.get? b=some o)(hn:H it=none)(hL:it≠X.env.locals)(h1:it∈X.ex\/X.s_0.heap.objs.size<=it) (h2:∀x c,X.env.cells.lookup x=some c->c≠it) (h3:∀p∈X.pn++LX,p.1≠it):Inv X LX σ H {s with heap:=h',toks:=t'}:=by
 have nit:∀b u,H b=some u->b≠it:=λb u e z=>by rw[z,hn]at e;cases e
 refine I.step (g':=s.gens) (d':=s.drawn) (ch:=[it]) (λb hb=>?_) (λb o _ _ hc e _=>k b o (λz=>hc (by simp[z])) e) (λb o _ _ hc e _=>⟨o.slots,k b o (λz=>hc (by simp[z])) e⟩) (λ_ _ _ _ n=>n)
  (λb o hc e=>⟨o,k b o (λz=>hc (by simp[z])) e⟩) (λ_ _ e=>e) (λ_ _ _ e=>e) (λb ps e=>⟨#[],by rw[e];simp⟩) (λm hm=>?_) (λb u e=>?_) I.bare
 .have e:b=it:=by simpa using hb
  subst e;exact⟨h1,hL,h2,h3⟩
 .obtain⟨o,es,ep,ho,r⟩:=hm;exact⟨o,es,ep,k _ o (Ho hL) ho,r⟩
 .refine(I.hok b u e).stay (λc v hc q=>k c v ?_ q) (λ_ q=>q) λ_ _ q=>q;rcases hc with z|z
  .rw[z];exact nit b u e
  .exact nit c _ z
theorem Inv.tok(I:Inv X LX σ H s)(t:Nat):Inv X LX σ H {s with toks:=t}:=I.un (h':=s.heap) (t':=t) Un.refl I.hok
theorem Inv.kept{t':Nat}(I:Inv X LX σ H s)(k:∀b u,s.heap.get? b=some u->h'.get? b=some u):Inv X LX σ H {s with heap:=h',toks:=t'}:=I.un (Un.kept k) (I.hok.kept k)
theorem Inv.laid{a:Addr}{o:HO}{t':Nat}(I:Inv X LX σ H s)(k:∀b u,s.heap.get? b=some u->h'.get? b=some u)(hp:s.heap.objs.size<=a)(new:bZ X.prog X.w (upd H a o) h' a o):Inv X LX σ (upd H a o) {s with heap:=h',toks:=t'}:=I.un (Un.laid k hp (I.hok.fresh hp)) (I.hok.laid k hp new)
theorem Inv.write{x e:Addr}{o:HO}{t':Nat}(I:Inv X LX σ H s)(mu:Mut (H x))(he:e=x\/H e=some (.own x))(k:∀b u,b≠e->s.heap.get? b=some u->h'.get? b=some u)(heo:∃u,h'.get? e=some u)(new:bZ X.prog X.w (upd H x o) h' x o):Inv X LX σ (upd H x o) {s with heap:=h',toks:=t'}:=I.un (Un.write mu he k heo) (I.hok.write mu he k heo new)
theorem Inv.weak(I:Inv X LX σ H s)(hl:σ'.length=σ.length)(w:∀(i:Nat) v,σ'[i]?=some (some v)->σ[i]?=some (some v)):Inv X LX σ' H s:=
 ⟨I.ok,I.os,I.bare,I.base,let⟨m,hn,N6⟩:=I.loc;⟨m,hn,λi x v e1 e2 e3=>N6 i x v e1 (w i v e2) e3⟩,I.cell,I.free,I.freeC,I.pin,I.hok,hl.trans I.len⟩
theorem Inv.pins_of(I:Inv X LX σ H s)(h:∀p∈pins',s.heap.get? p.1=some p.2/\H p.1=none/\p.1≠X.env.locals/\p.1∉X.fs/\∀v,p.2.data≠ .cell v):Inv X pins' σ H s:=
 ⟨I.ok,I.os,I.bare,I.base,I.loc,I.cell,I.free,I.freeC,λp hp=>(H_.mp hp).elim (λz=>I.pin p (List.mem_append_left _ z)) (h p),I.hok,I.len⟩
theorem nF{N:List Str}(hN:N.Nodup){i j:Nat}{x:Str}(a:N[i]?=some x)(b:N[j]?=some x):i=j:=by obtain⟨h1,e1⟩:=HQ.mp a;obtain⟨h2,e2⟩:=HQ.mp b;exact(List.getElem_inj hN).mp (e1.trans e2.symm)
theorem qo{M:Model}{A:Around}{E:Value->Shared->Prop}{i:Nat}{x:Str}{v:V}{u:Value}{Q:Unit->Shared->Prop}(I:Inv X LX σ H s)(hN:X.N.Nodup)(hi:X.N[i]?=some x)(hx:Loc X.env.scope x)(r:aR v u)(h:∀s',Inv X LX (σ.set i (some v)) H s'->(∃a,Heap.SameBut a s.heap s'.heap/\(a=X.env.locals\/X.env.cells.lookup x=some a))->Q () s') (hf:X.fn x=true\/X.env.scope.names.lookup x=some .local:=by first|exact .inl rfl|exact .inr rfl|assumption):wpAny M A (storeName X.env x u) Q E s:=by
 obtain⟨m,hn,hl⟩:=id I.loc;have hcls:(X.env.scope.kind==.class||(X.env.scope.kind==.module&&X.env.locals !=X.env.globals))=false:=by rw[I.ok.kind];rfl
 have hiσ:i<σ.length:=by rw[I.len];exact(HQ.mp hi).1
 have cne:=I.cne;have N7:∀{a:Addr}{h':Heap},(∃o,s.heap.get? a=some o/\H a=none)->Heap.SameBut a s.heap h'->HOk X.prog X.w H h':=λ{a h'} ha hs b ob e=>by
  obtain⟨_,_,No⟩:=ha;refine(I.hok b ob e).stay (λc w' hc q=>(hs.2 c ?_).trans q) (λ_ q=>q) λ_ _ q=>q;rintro rfl;rcases hc with rfl|hc
  .rw[No]at e;cases e
  .rw[No]at hc;cases hc
 rcases hx with hk|hk
 .refine wpAny_storeName_local hk hn (λh' O3 hs=>?_) hcls;obtain⟨oL,_,_,hoL,_⟩:=id hn;refine h _ ⟨I.ok,I.os,I.bare,⟨λb o e n hb hx=>?_,λb o e n hb hx=>?_,I.base.free,λb o e hx=>?_,I.base.tups,I.base.frzs,I.base.tbls⟩,⟨_,O3,λj y v' e1 e2 e3=>?_⟩,λy c e=>?_,I.free,I.freeC,λp hp=>?_,N7 ⟨oL,hoL,I.free⟩ hs,by simpa using I.len⟩ ⟨_,hs,.inl rfl⟩
  .exact(hs.2 b (HW (HY (HB e) I.ok.above))).trans (I.base.keep b o e n hb hx)
  .obtain⟨sl,e1⟩:=I.base.slot b o e n hb hx;exact⟨sl,(hs.2 b (HW (HY (HB e) I.ok.above))).trans e1⟩
  .obtain⟨o',e1⟩:=I.base.there b o e hx;exact⟨o',(hs.2 b (HW (HY (HB e) I.ok.above))).trans e1⟩
  .by_cases hj:j=i
   .subst hj;rw[hi]at e1;cases e1;rw[Ke hiσ]at e2;cases e2;exact⟨u,r,.inl ⟨hk,by simp⟩⟩
   .rw[Kq (Ho hj)]at e2;obtain⟨u',r',q⟩:=hl j y v' e1 e2 e3;refine⟨u',r',?_⟩;rcases q with⟨k,e⟩|⟨k,c,e,z⟩
    .refine .inl ⟨k,?_⟩;have:y≠x:=λe=>hj (nF hN e1 (e▸hi));simp[this,e]
    .exact .inr ⟨k,c,e,z.sameBut hs (cne y c e)⟩
  .obtain⟨w',z⟩:=I.cell y c e;exact⟨w',z.sameBut hs (cne y c e)⟩
  .obtain⟨e,n,ne,nf,d⟩:=I.pin p hp;exact⟨(hs.2 p.1 ne).trans e,n,ne,nf,d⟩
 .have hfn:X.fn x=true:=by
   rcases hf with z|z
   .exact z
   .rw[z]at hk;cases hk
  obtain⟨c,hc⟩:=I.ok.has x (.inl hk);obtain⟨w',z⟩:=I.cell x c hc;refine wpAny_storeName_cell I.ok.kind hk hc z (λh' hc' hs=>?_);obtain⟨oc,hoc,hocd⟩:=id z;refine h {s with heap:=h'} ⟨I.ok,I.os,I.bare,⟨λb o e n hb hx=>?_,λb o e n hb hx=>?_,I.base.free,λb o e hx=>?_,I.base.tups,I.base.frzs,I.base.tbls⟩,⟨m,hn.sameBut hs (Ho (cne x c hc)),λj y v' e1 e2 e3=>?_⟩,λy c' e=>?_,I.free,I.freeC,λp hp=>?_,N7 ⟨oc,hoc,I.freeC x c hc⟩ hs,by simpa using I.len⟩ ⟨c,hs,.inr hc⟩
  .exact(hs.2 b (HW (HY (HB e) (I.ok.cab x c hfn hc)))).trans (I.base.keep b o e n hb hx)
  .obtain⟨sl,e1⟩:=I.base.slot b o e n hb hx;exact⟨sl,(hs.2 b (HW (HY (HB e) (I.ok.cab x c hfn hc)))).trans e1⟩
  .obtain⟨o',e1⟩:=I.base.there b o e hx;exact⟨o',(hs.2 b (HW (HY (HB e) (I.ok.cab x c hfn hc)))).trans e1⟩
  .by_cases hj:j=i
   .subst hj;rw[hi]at e1;cases e1;rw[Ke hiσ]at e2;cases e2;exact⟨u,r,.inr ⟨.inl hk,c,hc,hc'⟩⟩
   .rw[Kq (Ho hj)]at e2;obtain⟨u',r',q⟩:=hl j y v' e1 e2 e3;refine⟨u',r',?_⟩;rcases q with q|⟨k,c',e,z'⟩
    .exact .inl q
    .refine .inr ⟨k,c',e,z'.sameBut hs ?_⟩;rintro rfl;exact hj (nF hN e1 (I.ok.inj _ _ _ e hc▸hi))
  .by_cases hcc:c'=c
   .subst hcc;exact⟨_,hc'⟩
   .obtain⟨w2,z2⟩:=I.cell y c' e;exact⟨w2,z2.sameBut hs hcc⟩
  .obtain⟨e,n,ne,nf,d⟩:=I.pin p hp;refine⟨(hs.2 p.1 ?_).trans e,n,ne,nf,d⟩;intro q;rw[q,hoc]at e;have q':oc=p.2:=Hg e;exact d w' (by rw[<-q'];exact hocd)
theorem sT(I:Inv X LX σ H s)(hN:X.N.Nodup)(hi:X.N[i]?=some x)(hx:Loc X.env.scope x)(r:aR v u)(h:∀s',Inv X LX (σ.set i (some v)) H s'->Q () s') (hf:X.fn x=true\/X.env.scope.names.lookup x=some .local:=by first|exact .inl rfl|exact .inr rfl|assumption):wpAny M A (storeName X.env x u) Q E s:=
 qo I hN hi hx r (λs' I' _=>h s' I') hf
theorem Inv.call'{s':Shared}{ch:List Addr}(I:Inv X LX σ H s)(ho:s'.os=s.os)(u:Un (frs X.stack) ch H H' s.heap s'.heap)(hok:HOk X.prog X.w H' s'.heap)(hg:AllBare s'.gens)(O2:∀b∈ch,(b∈X.ex\/X.s_0.heap.objs.size<=b)/\b≠X.env.locals/\(∀x c,X.env.cells.lookup x=some c->c≠b)/\∀p∈X.pn++LX,p.1≠b):Inv X LX σ H' s':=by obtain⟨h',g',d',t',o'⟩:=s';have e:o'=s.os:=ho;subst e;exact I.call (g':=g') (t':=t') (d':=d') u hok hg O2
end
abbrev XK:=Value->Option Addr->Hp->Prop
abbrev St:=List (Option V)
abbrev VK:=V->Hp->Prop
abbrev TE:=St->Hp->VK->Prop
abbrev TT:=St->Hp->(Bool->Hp->Prop)->Prop
abbrev TA:=St->Hp->(List V->Hp->Prop)->Prop
structure jC where
 nx:St->Hp->Prop
 rt:VK
 bk:St->Hp->Prop:=λ_ _=>False
 ct:St->Hp->Prop:=λ_ _=>False
abbrev TS:=jC->St->Hp->Prop
def EP(X:Cx)(LX:List (Addr×Obj))(σ:St)(Q:VK)(u:Value)(s':Shared):Prop:=∃v H',Inv X LX σ H' s'/\aR v u/\Q v H'
def TP(X:Cx)(LX:List (Addr×Obj))(σ:St)(Q:Bool->Hp->Prop)(b:Bool)(s':Shared):Prop:=∃H',Inv X LX σ H' s'/\Q b H'
def AP(X:Cx)(LX:List (Addr×Obj))(σ:St)(Q:List V->Hp->Prop)(us:List Value)(s':Shared):Prop:=∃vs H',Inv X LX σ H' s'/\aC vs us/\Q vs H'
def SP(X:Cx)(LX:List (Addr×Obj))(D:jC)(f:Flow)(s':Shared):Prop:=
 match f with
 | .next=>∃σ' H',Inv X LX σ' H' s'/\D.nx σ' H'
 | .brk=>∃σ' H',Inv X LX σ' H' s'/\D.bk σ' H'
 | .cont=>∃σ' H',Inv X LX σ' H' s'/\D.ct σ' H'
 | .ret u=>∃v σ' H',Inv X LX σ' H' s'/\aR v u/\D.rt v H'
def PE(X:Cx)(e:Expr)(t:TE):Prop:=
 ∀(LX:List (Addr×Obj))(s:Shared)(σ:St)(H:Hp)(Q:VK),Inv X LX σ H s->t σ H Q->wpAny (model X.prog X.w) X.A (eval e X.env) (EP X LX σ Q) X.xe s
def PT(X:Cx)(e:Expr)(t:TT):Prop:=
 ∀(LX:List (Addr×Obj))(s:Shared)(σ:St)(H:Hp)(Q:Bool->Hp->Prop),Inv X LX σ H s->t σ H Q->wpAny (model X.prog X.w) X.A (isTrue e X.env (eval e X.env)) (TP X LX σ Q) X.xe s
def PW(X:Cx)(e:Expr)(t:TT):Prop:=
 ∀(whole:Sem Value)(LX:List (Addr×Obj))(s:Shared)(σ:St)(H:Hp)(Q:Bool->Hp->Prop),Inv X LX σ H s->t σ H Q->wpAny (model X.prog X.w) X.A (isTrue e X.env whole) (TP X LX σ Q) X.xe s
theorem PW.pt(h:PW X e t):PT X e t:=h _
def PA(X:Cx)(es:List Expr)(t:TA):Prop:=
 ∀(pos:Pos)(LX:List (Addr×Obj))(s:Shared)(σ:St)(H:Hp)(Q:List V->Hp->Prop),Inv X LX σ H s->t σ H Q->wpAny (model X.prog X.w) X.A (spliced (backTo pos (starEach es X.env))) (AP X LX σ Q) X.xe s
def PS(X:Cx)(st:Stmt)(t:TS):Prop:=
 ∀(LX:List (Addr×Obj))(s:Shared)(σ:St)(H:Hp)(D:jC),Inv X LX σ H s->t D σ H->wpAny (model X.prog X.w) X.A (exec st X.env) (SP X LX D) X.xe s
def PSs(X:Cx)(st:List Stmt)(t:TS):Prop:=
 ∀(LX:List (Addr×Obj))(s:Shared)(σ:St)(H:Hp)(D:jC),Inv X LX σ H s->t D σ H->wpAny (model X.prog X.w) X.A (execs st X.env) (SP X LX D) X.xe s
theorem thn{α:Type}{t:Sem α}{Q Q':α->Shared->Prop}{M:Model}{A:Around}{E:Value->Shared->Prop}{s:Shared}(h:wpAny M A t Q E s)(hQ:∀a s,Q a s->Q' a s):wpAny M A t Q' E s:=Iq h hQ λ_ _ x=>x
section
variable{X:Cx}
inductive EV(σ:St)(i:Nat)(H:Hp)(Q:VK):Prop|mk(v:V)(_:σ[i]?=some (some v))(_:Q v H)
def bA(i:Nat):TE:=λσ H Q=>EV σ i H Q
def tC(v:V):TE:=λ_ H Q=>Q v H
theorem Db(hN:X.N[i]?=some x)(hv:Vis X.env.scope x)(hd:(x==("__debug__":Str))=false:=by decide)(hcd:(x==("__classdict__":Str))=false:=by decide):PE X (.Name x pos) (bA i):=by
 intro LX s σ H Q I h;obtain⟨v,e,h⟩:=h;obtain⟨m,hn,hl⟩:=I.loc;obtain⟨u,r,l⟩:=hl i x v hN e hv;have fin:EP X LX σ Q u s:=⟨v,H,I,r,h⟩;rcases l with⟨hk,hm⟩|⟨hk,c,hc,hcell⟩
 .exact wpAny_Name (wpAny_loadName_local I.ok.kind hk hn hm fin) hd
 .rcases hk with hk|hk
  .exact wpAny_Name (wpAny_loadName_cell I.ok.kind hk hc hcell fin) hd
  .exact wpAny_Name (wpAny_loadName_free I.ok.kind hk hc hcell fin hcd) hd
theorem aI{i j pos}:PE X (.Constant (.int i) j pos) (tC (.int i)):=λ_ _ _ H _ I h=>wpAny_Constant_int ⟨.int i,H,I.tok _,⟨_,rfl⟩,h⟩
theorem eR{b j pos}:PE X (.Constant (.bool b) j pos) (tC (.bl b)):=λ_ _ _ H _ I h=>Constant_bool ⟨.bl b,H,I,rfl,h⟩
theorem fj{j pos}:PE X (.Constant .none j pos) (tC .non):=λ_ _ _ H _ I h=>Constant_none ⟨.non,H,I,rfl,h⟩
theorem kF{x j pos}:PE X (.Constant (.str x) j pos) (tC (.str x)):=λ_ _ _ H _ I h=>Calls.Constant_str ⟨.str x,H,I.tok _,⟨_,rfl⟩,h⟩
def Gl(X:Cx)(x:Str):Prop:=X.env.kindOf x=some .globalImplicit
theorem ml(I:Inv X LX σ H s)(hg:Gl X x)(hm:X.mg x=some u)(h:Q u s)(hd:(x==("__debug__":Str))=false:=by decide):wpAny (model X.prog X.w) X.A (eval (.Name x pos) X.env) Q E s:=
 Calls.Name_function_global I.ok.kind hg (Calls.loadGlobal_global (by rw[I.ok.glob];exact I.mod.glob.keeps I.bk) hm h) hd
theorem gM(I:Inv X LX σ H s)(hg:Gl X x)(hm:X.mg x=none)(hv:bootBuiltins x=some u)(h:Q u s)(hn:x≠"__name__":=by decide) (hd:(x==("__debug__":Str))=false:=by decide):wpAny (model X.prog X.w) X.A (eval (.Name x pos) X.env) Q E s:=by obtain⟨mb,h1,h2⟩:=I.mod.blt;exact Calls.Name_function_global I.ok.kind hg (Calls.loadGlobal_builtin (by rw[I.ok.glob];exact I.mod.glob.keeps I.bk) hm (by rw[I.ok.blt];exact h1.keeps I.bk) ((h2 x hn).trans hv) h) hd
theorem pP(hg:Gl X x)(hm:X.mg x=some u)(r:aR v u)(hd:(x==("__debug__":Str))=false:=by decide):PE X (.Name x pos) (tC v):=
 λ_ _ _ H _ I h=>ml I hg hm ⟨v,H,I,r,h⟩ hd
variable{a b:Expr}{ta tb:TE}{pos:Pos}
def PC(X:Cx)(op:CmpOp)(a b:Expr)(t:TE):Prop:=
 ∀(LX:List (Addr×Obj))(s:Shared)(σ:St)(H:Hp)(Q:VK),Inv X LX σ H s->t σ H Q->
  wpAny (model X.prog X.w) X.A (eval a X.env) (λv s₁=>wpAny (model X.prog X.w) X.A (eval b X.env) (λu s₂=>wpAny (model X.prog X.w) X.A (compareOp op v u) (EP X LX σ Q) X.xe s₂) X.xe s₁) X.xe s
theorem tJ(b:Expr)(h:op≠ .In)(h2:op≠ .NotIn):behindInMarks op b=false:=by
 have e1:(op==CmpOp.In)=false:=by cases op<;>first|rfl|exact absurd rfl h
 have e2:(op==CmpOp.NotIn)=false:=by cases op<;>first|rfl|exact absurd rfl h2
 cases b<;>simp[behindInMarks,e1,e2]
inductive CK(H1:Hp)(x:V)(Q:Bool->Hp->Prop):Prop|mk(c:_)(_:x=.bl c)(_:Q c H1)
def tB(t:TE):TT:=λσ H Q=>t σ H λx H1=>CK H1 x Q
theorem xV(h:PC X op a b t)(h1:behindInMarks op b=false:=by first|exact tJ _ (by decide) (by decide)|rfl):PE X (.Compare a [op] [b] pos) t:=λLX s σ H Q I hw=>wpAny_Compare1 (h LX s σ H Q I hw) h1
theorem gK{op:CmpOp}{t:TE}(h:PC X op a b t)(h1:behindInMarks op b=false:=by first|exact tJ _ (by decide) (by decide)|rfl):PT X (.Compare a [op] [b] pos) (tB t):=by intro LX s σ H Q I hw;refine wpAny_isTrue_Compare1 (thn (h LX s σ H _ I hw) λv s1 h1=>thn h1 λu s2 h2=>thn h2 λc s3 ⟨x,H1,I1,r1,q1⟩=>?_) h1;obtain⟨d,rfl,q⟩:=q1;cases r1;exact IB ⟨H1,I1,q⟩
theorem eL{e:Expr}{t:TE}(h:PE X e t)(he:∀whole,isTrue e X.env whole=(do let v<-whole;standAt e.pos;holding [v] (truthy v)):=by intro _;rfl):PT X e (tB t):=by intro LX s σ H Q I hw;refine isTrue_plain (thn (h LX s σ H _ I hw) λv s1 ⟨x,H1,I1,r1,q1⟩=>?_) (he _);obtain⟨d,rfl,q⟩:=q1;cases r1;exact IB ⟨H1,I1,q⟩
variable{tA tB':TT}{rest:List Expr}
def EE(t u:TT):TT:=λσ H Q=>t σ H λc H1=>if c=true then u σ H1 Q else Q false H1
def tOr(t u:TT):TT:=λσ H Q=>t σ H λc H1=>if c=true then Q true H1 else u σ H1 Q
def Cy(t:TT):TT:=λσ H Q=>t σ H λc H1=>Q (!c) H1
theorem jo(ha:PT X a tA):PW X (.BoolOp .And [a] pos) tA:=by
 intro wh LX s σ H Q I h;refine isTrue_and (thn (ha LX s σ H Q I h) λc s1 e=>?_);cases c with
 |true=>exact isTrue_and_nil e
 |false=>exact e
theorem jd(ha:PT X a tA):PW X (.BoolOp .Or [a] pos) tA:=by
 intro wh LX s σ H Q I h;refine isTrue_or (thn (ha LX s σ H Q I h) λc s1 e=>?_);cases c with
 |false=>exact isTrue_or_nil e
 |true=>exact e
theorem kC(ha:PT X a tA)(hb:PW X (.BoolOp .And (b::rest) pos) tB'):PW X (.BoolOp .And (a::b::rest) pos) (EE tA tB'):=by
 intro wh LX s σ H Q I h;refine isTrue_and (thn (ha LX s σ H _ I h) λc s1 ⟨H1,I1,q1⟩=>?_);cases c with
 |true=>exact hb wh LX s1 σ H1 Q I1 q1
 |false=>exact⟨H1,I1,q1⟩
theorem jE(ha:PT X a tA)(hb:PW X (.BoolOp .Or (b::rest) pos) tB'):PW X (.BoolOp .Or (a::b::rest) pos) (tOr tA tB'):=by
 intro wh LX s σ H Q I h;refine isTrue_or (thn (ha LX s σ H _ I h) λc s1 ⟨H1,I1,q1⟩=>?_);cases c with
 |true=>exact⟨H1,I1,q1⟩
 |false=>exact hb wh LX s1 σ H1 Q I1 q1
theorem om(ha:PT X a tA):PT X (.UnaryOp .Not a pos) (Cy tA):=by intro LX s σ H Q I h;exact isTrue_not (ha LX s σ H (λc H1=>Q (!c) H1) I h)
inductive Ck(tb:TE)(σ:St)(H1:Hp)(x:V)(Q:VK):Prop|mk(c:_)(_:x=.bl c)(_:if c=true then tb σ H1 Q else Q (.bl false) H1)
def Eg(ta tb:TE):TE:=λσ H Q=>ta σ H λx H1=>Ck tb σ H1 x Q
inductive wG(H1:Hp)(x:V)(Q:VK):Prop|mk(c:_)(_:x=.bl c)(_:Q (.bl (!c)) H1)
def AX(ta:TE):TE:=λσ H Q=>ta σ H λx H1=>wG H1 x Q
theorem kG{op}{t:TE}(h:PE X a t):PE X (.BoolOp op [a] pos) t:=λLX s σ H Q I hw=>BoolOp_one (h LX s σ H Q I hw)
theorem je(ha:PE X a ta)(hb:PE X (.BoolOp .And (b::rest) pos) tb):PE X (.BoolOp .And (a::b::rest) pos) (Eg ta tb):=by
 intro LX s σ H Q I h;refine BoolOp_and (thn (ha LX s σ H _ I h) λv s1 ⟨x,H1,I1,r1,q1⟩=>?_);obtain⟨c,rfl,q1⟩:=q1;cases r1;refine IB ?_;cases c with
 |true=>exact hb LX s1 σ H1 Q I1 q1
 |false=>exact⟨.bl false,H1,I1,rfl,q1⟩
theorem Dc(ha:PE X a ta):PE X (.UnaryOp .Not a pos) (AX ta):=by intro LX s σ H Q I h;refine UnaryOp_ (thn (ha LX s σ H _ I h) λv s1 ⟨x,H1,I1,r1,q1⟩=>?_);obtain⟨c,rfl,q1⟩:=q1;cases r1;exact not_of (IB ⟨.bl (!c),H1,I1,rfl,q1⟩)
def tIf(t:TT)(ta tb:TE):TE:=λσ H Q=>t σ H λc H1=>if c=true then ta σ H1 Q else tb σ H1 Q
theorem nE{c:Expr}(hc:PT X c tA)(ha:PE X a ta)(hb:PE X b tb):PE X (.IfExp c a b pos) (tIf tA ta tb):=by
 intro LX s σ H Q I h;refine wpAny_IfExp (thn (hc LX s σ H _ I h) λd s1 ⟨H1,I1,q1⟩=>?_);cases d with
 |true=>exact ha LX s1 σ H1 Q I1 q1
 |false=>exact hb LX s1 σ H1 Q I1 q1
end
def SqL(K:LS)(H:Hp)(a:Addr)(xs:List V):Prop:=
 Rd H a (.lst xs)\/
  ∃(o:Obj)(its:Array Value)(n:Nat),K.lookup a=some o/\o.cls=.type "list"/\o.dict=none/\o.data=.seq its n/\its.size<=sizeLine/\aC xs its.toList
def SqT(K:LS)(H:Hp)(a:Addr)(xs:List V):Prop:=
 Rd H a (.tup xs)\/
  ∃(o:Obj)(its:Array Value)(n:Nat),K.lookup a=some o/\o.cls=.type "tuple"/\o.data=.seq its n/\its.size<=sizeLine/\aC xs its.toList
def pF:Value->Option V
 | .none=>some .non
 | .bool b=>some (.bl b)
 | .int i _=>some (.int i)
 | .str x _=>some (.str x)
 | .bytes b _=>some (.byt b)
 | .float b _=>some (.flt b)
 | .ref a=>some (.ref a)
 | .type n=>some (.ty n)
 |_=>none
theorem aR.abs(r:aR x u):pF u=some x:=by
 cases x with
 |non=>cases r;rfl
 |bl _=>cases r;rfl
 |int _=>obtain⟨t,rfl⟩:=r;rfl
 |str _=>obtain⟨t,rfl⟩:=r;rfl
 |byt _=>obtain⟨t,rfl⟩:=r;rfl
 |flt _=>obtain⟨t,rfl⟩:=r;rfl
 |ref _=>cases r;rfl
 |ty _=>cases r;rfl
theorem aR.inj{x y:V}{u:Value}(r:aR x u)(q:aR y u):x=y:=Hg (r.abs.symm.trans q.abs)
theorem aC.inj:∀{xs ys:List V}{us:List Value},aC xs us->aC ys us->xs=ys
 |_,_,_,.nil,.nil=>rfl
 |_,_,_,.cons r t,.cons r' t'=>by rw[r.inj r',aC.inj t t']
section
variable{X:Cx}{LX:List (Addr×Obj)}{σ:St}{H:Hp}{s:Shared}{a:Addr}{xs ys:List V}
theorem SqL.of{K:LS}(h:H a=some (.lst xs)):SqL K H a xs:=.inl (.inl h)
theorem SqT.of{K:LS}(h:H a=some (.tup xs)):SqT K H a xs:=.inl (.inl h)
theorem Inv.list(I:Inv X LX σ H s)(h:SqL X.K H a xs):∃its:List Value,aC xs its/\PlainL s.heap a its.toArray/\xs.length<=sizeLine:=by
 rcases h with h|⟨o,its,n,hk,hc,hd,hs,hz,r⟩
 .obtain⟨z,its,n,r,e⟩:=h.ok I.hok;exact⟨its,r,⟨_,n,e,rfl,rfl,rfl⟩,z⟩
 .refine⟨its.toList,r,⟨o,n,I.kIn a o hk,hc,hd,by simpa using hs⟩,?_⟩;have e:=r.length;simp only[length_toList]at e;omega
theorem Inv.tuple(I:Inv X LX σ H s)(h:SqT X.K H a xs):∃its:List Value,aC xs its/\IsTup s.heap a its.toArray/\xs.length<=sizeLine:=by
 rcases h with h|⟨o,its,n,hk,hc,hs,hz,r⟩
 .obtain⟨z,its,r,p⟩:=h.ok I.hok;exact⟨its,r,p,z⟩
 .refine⟨its.toList,r,⟨o,I.kIn a o hk,hc,n,by simpa using hs⟩,?_⟩;have e:=r.length;simp only[length_toList]at e;omega
theorem Inv.list_inj(I:Inv X LX σ H s)(h:SqL X.K H a xs)(h':SqL X.K H a ys):xs=ys:=by
 obtain⟨its,r,⟨o,n,e,_,_,d⟩,_⟩:=I.list h;obtain⟨its',r',⟨o',n',e',_,_,d'⟩,_⟩:=I.list h';rw[e]at e';cases e';rw[d]at d';injection d' with d1 _;have:its=its':=by simpa using HU toList d1
 subst this;exact r.inj r'
theorem Inv.tuple_inj(I:Inv X LX σ H s)(h:SqT X.K H a xs)(h':SqT X.K H a ys):xs=ys:=by
 obtain⟨its,r,⟨o,e,_,n,d⟩,_⟩:=I.tuple h;obtain⟨its',r',⟨o',e',_,n',d'⟩,_⟩:=I.tuple h';rw[e]at e';cases e';rw[d]at d';injection d' with d1 _;have:its=its':=by simpa using HU toList d1
 subst this;exact r.inj r'
end
abbrev Cx.wish(X:Cx)(E:Value->Shared->Prop):Cx:={X with xe:=E}
abbrev Cx.nox(X:Cx):Cx:=X.wish λ_ _=>False
theorem Cx.Ok.wish{X:Cx}(ok:X.Ok)(E:Value->Shared->Prop):(X.wish E).Ok:=
 ⟨ok.mod,ok.kind,ok.glob,ok.blt,ok.above,ok.inj,ok.has,ok.cab,ok.hd,ok.frames,ok.stk,ok.exf,ok.bs,ok.bsz,ok.noex,ok.exfs,ok.funs,ok.frf⟩
theorem Cx.Ok.unwish{X:Cx}{E:Value->Shared->Prop}(ok:(X.wish E).Ok):X.Ok:=
 ⟨ok.mod,ok.kind,ok.glob,ok.blt,ok.above,ok.inj,ok.has,ok.cab,ok.hd,ok.frames,ok.stk,ok.exf,ok.bs,ok.bsz,ok.noex,ok.exfs,ok.funs,ok.frf⟩
section
variable{X:Cx}{LX:List (Addr×Obj)}{σ:St}{H:Hp}{s:Shared}{E:Value->Shared->Prop}
theorem Inv.wish(I:Inv X LX σ H s)(E:Value->Shared->Prop):Inv (X.wish E) LX σ H s:=⟨I.ok.wish E,I.os,I.bare,I.base,I.loc,I.cell,I.free,I.freeC,I.pin,I.hok,I.len⟩
theorem Inv.unwish(I:Inv (X.wish E) LX σ H s):Inv X LX σ H s:=⟨I.ok.unwish,I.os,I.bare,I.base,I.loc,I.cell,I.free,I.freeC,I.pin,I.hok,I.len⟩
theorem SP.unwish{D:jC}{f:Flow}{s':Shared}(h:SP (X.wish E) LX D f s'):SP X LX D f s':=by
 cases f with
 |next=>obtain⟨σ',H',I,q⟩:=h;exact⟨σ',H',I.unwish,q⟩
 |brk=>obtain⟨σ',H',I,q⟩:=h;exact⟨σ',H',I.unwish,q⟩
 |cont=>obtain⟨σ',H',I,q⟩:=h;exact⟨σ',H',I.unwish,q⟩
 |ret u=>obtain⟨v,σ',H',I,r,q⟩:=h;exact⟨v,σ',H',I.unwish,r,q⟩
theorem PE.nox(h:PE X.nox e t):PE X e t:=λLX s σ H Q I hw=>
 Iq (h LX s σ H Q (I.wish _) hw) (λ_ _ ⟨v,H',I',r,q⟩=>⟨v,H',I'.unwish,r,q⟩) λ_ _ z=>False.elim z
theorem PT.nox(h:PT X.nox e t):PT X e t:=λLX s σ H Q I hw=>
 Iq (h LX s σ H Q (I.wish _) hw) (λ_ _ ⟨H',I',q⟩=>⟨H',I'.unwish,q⟩) λ_ _ z=>False.elim z
theorem PSs.nox{st:List Stmt}{t:TS}(h:PSs X.nox st t):PSs X st t:=λLX s σ H D I hw=>
 Iq (h LX s σ H D (I.wish _) hw) (λ_ _ q=>q.unwish) λ_ _ z=>False.elim z
end
section
variable{X:Cx}{st:Stmt}{rest:List Stmt}{t u:TS}{e:Expr}{te:TE}{pos:Pos}
def bp:TS:=λD σ H=>D.nx σ H
def b6(t u:TS):TS:=λD σ H=>t {D with nx:=u D} σ H
theorem aM:PSs X [] bp:=λ_ _ σ H _ I h=>KC ⟨σ,H,I,h⟩
theorem aj(h1:PS X st t)(h2:PSs X rest u):PSs X (st::rest) (b6 t u):=by
 intro LX s σ H D I h;refine wpAny_execs_cons (thn (h1 LX s σ H {D with nx:=u D} I h) λf s1 q=>?_);cases f with
 |next=>obtain⟨σ',H',I',q⟩:=q;exact h2 LX s1 σ' H' D I' q
 |ret v=>exact q
 |brk=>exact q
 |cont=>exact q
theorem aL(h1:PS X st t):PSs X [st] t:=by
 intro LX s σ H D I h;refine wpAny_execs_cons (thn (h1 LX s σ H D I h) λf s1 q=>?_);cases f with
 |next=>exact KC q
 |ret v=>exact q
 |brk=>exact q
 |cont=>exact q
def CZ:TS:=λD σ H=>D.bk σ H
theorem Aa:PS X (.Break pos) CZ:=λ_ _ σ H _ I h=>wpAny_Break ⟨σ,H,I,h⟩
theorem Inv.quiet{LX:List (Addr×Obj)}{σ:St}{H:Hp}{s:Shared}(I:Inv X LX σ H s):interactive X.env=false:=by simp[interactive,I.ok.kind]
def l0(te:TE):TS:=λD σ H=>te σ H λ_ H1=>D.nx σ H1
theorem bU(he:PE X e te)(hs:swapsWith e none pos.line X.env=pure false:=by rfl):PS X (.Expr e pos) (l0 te):=by intro LX s σ H D I h;exact wpAny_Expr_any (thn (he LX s σ H _ I h) λv s1 ⟨x,H1,I1,r1,q1⟩=>⟨σ,H1,I1,q1⟩) I.quiet hs
def si(te:TE):TS:=λD σ H=>te σ H D.rt
theorem C6(he:PE X e te):PS X (.Return (some e) pos) (si te):=by intro LX s σ H D I h;exact wpAny_Return_some (thn (he LX s σ H _ I h) λv s1 ⟨x,H1,I1,r1,q1⟩=>⟨x,σ,H1,I1,r1,q1⟩)
def Eb:TS:=λD _ H=>D.rt .non H
theorem BB:PS X (.Return none pos) Eb:=λ_ _ σ H _ I h=>wpAny_Return_none ⟨.non,σ,H,I,rfl,h⟩
def pz(c:TT)(t u:TS):TS:=λD σ H=>c σ H λb H1=>if b=true then t D σ H1 else u D σ H1
theorem a9{c:Expr}{a b:List Stmt}{tc:TT}(hc:PT X c tc)(ha:PSs X a t)(hb:PSs X b u):PS X (.If c a b pos) (pz tc t u):=by
 intro LX s σ H D I h;refine wpAny_If (thn (hc LX s σ H _ I h) λd s1 ⟨H1,I1,q1⟩=>?_);cases d with
 |true=>exact ha LX s1 σ H1 D I1 q1
 |false=>exact hb LX s1 σ H1 D I1 q1
end
abbrev TG:=V->St->Hp->(St->Hp->Prop)->Prop
abbrev TGs:=List V->St->Hp->(St->Hp->Prop)->Prop
def PG(X:Cx)(target:Expr)(t:TG):Prop:=
 ∀(LX:List (Addr×Obj))(s:Shared)(σ:St)(H:Hp)(v:V)(u:Value)(Q:St->Hp->Prop),Inv X LX σ H s->aR v u->t v σ H Q->
  wpAny (model X.prog X.w) X.A (assign target X.env u) (λ_ s'=>∃σ' H',Inv X LX σ' H' s'/\Q σ' H') X.xe s
def PGs(X:Cx)(ts:List Expr)(t:TGs):Prop:=
 ∀(LX:List (Addr×Obj))(s:Shared)(σ:St)(H:Hp)(vs:List V)(us:List Value)(Q:St->Hp->Prop),Inv X LX σ H s->aC vs us->t vs σ H Q->
  wpAny (model X.prog X.w) X.A (assignInOrder ((assignEach ts X.env).map (·.2)) us) (λ_ s'=>∃σ' H',Inv X LX σ' H' s'/\Q σ' H') X.xe s
section
variable{X:Cx}{pos:Pos}
def bu(i:Nat):TG:=λv σ H Q=>Q (σ.set i (some v)) H
theorem v0(hN:X.N.Nodup)(hi:X.N[i]?=some x)(hx:Loc X.env.scope x)(hf:X.fn x=true\/X.env.scope.names.lookup x=some .local:=by first|exact .inl rfl|exact .inr rfl|assumption):PG X (.Name x pos) (bu i):=by intro LX s σ H v u Q I r h;exact wpAny_assign_Name (sT I hN hi hx r (λs' I'=>⟨_,H,I',h⟩) hf)
def ER:TGs:=λvs σ H Q=>vs=[]/\Q σ H
inductive Cv(t:TG)(u:TGs)(σ:St)(H:Hp)(vs:List V)(Q:St->Hp->Prop):Prop|mk(v:_)(r:_)(_:vs=v::r)(_:t v σ H λσ' H'=>u r σ' H' Q)
def Ev(t:TG)(u:TGs):TGs:=λvs σ H Q=>Cv t u σ H vs Q
theorem eT:PGs X [] ER:=by intro LX s σ H vs us Q I r h;obtain⟨e,h⟩:=h;subst e;cases r;exact assignInOrder_nil ⟨σ,H,I,h⟩
theorem bX{e:Expr}{es:List Expr}{t:TG}{u:TGs}(h1:PG X e t)(h2:PGs X es u)(hs:(assignEach (e::es) X.env).map (·.2)=assign e X.env::(assignEach es X.env).map (·.2):=by rfl):PGs X (e::es) (Ev t u):=by
 intro LX s σ H vs us Q I r h;obtain⟨v,vr,e1,h⟩:=h;subst e1;cases r with
 |cons r rr=>rw[hs];refine assignInOrder_cons (thn (h1 LX s σ H _ _ _ I r h) λ_ s1 ⟨σ1,H1,I1,q1⟩=>?_);exact h2 LX s1 σ1 H1 _ _ Q I1 rr q1
inductive D9(K:LS)(n:Nat)(t:TGs)(σ:St)(H:Hp)(v:V)(Q:St->Hp->Prop):Prop|mk(a:_)(xs:_)(_:v=.ref a)(_:SqT K H a xs)(_:xs.length=n)(_:t xs σ H Q)
def CH(K:LS)(n:Nat)(t:TGs):TG:=λv σ H Q=>D9 K n t σ H v Q
theorem C_(hc:X.calm=true)(h:PGs X es t)(hn:(assignEach es X.env).length=n:=by rfl) (Mr:(assignEach es X.env).findIdx? (·.1)=none:=by rfl):PG X (.Tuple es k pos) (CH X.K n t):=by intro LX s σ H v u Q I r hw;obtain⟨a,xs,e1,hq,hl,hw⟩:=hw;subst e1;cases r;obtain⟨its,rv,ht,hz⟩:=I.tuple hq;refine assign_Tuple_tuple (I.ok.hd hc) ht (by simp[hn,<-hl,rv.length]) Mr λh' hx=>?_;have I1:Inv X LX σ H {s with heap:=h'}:=I.kept (t':=s.toks) λb o e=>hx b o (HW (HB e)) e;exact h LX _ σ H xs _ Q I1 (by simpa using rv) hw
def cu(te:TE)(g:TG):TS:=λD σ H=>te σ H λx H1=>g x σ H1 D.nx
theorem du{i:Nat}{x:Str}{e:Expr}{te:TE}{MZ:Pos}(hN:X.N.Nodup)(hi:X.N[i]?=some x)(hx:Loc X.env.scope x)(he:PE X e te)(hs:swapsWith e (some (.Name x MZ)) pos.line X.env=pure false:=by rfl)(hf:X.fn x=true\/X.env.scope.names.lookup x=some .local:=by first|exact .inl rfl|exact .inr rfl|assumption):PS X (.Assign [.Name x MZ] e pos) (cu te (bu i)):=by intro LX s σ H D I h;refine wpAny_Assign_Name (thn (he LX s σ H _ I h) λv s1 ⟨y,H1,I1,r1,q1⟩=>?_) hs;exact sT I1 hN hi hx r1 (λs2 I2=>⟨_,H1,I2,q1⟩) hf
def CQ(c:TT)(tb:TS):TS:=λD σ H=>∃W:Nat->St->Hp->Prop,(∃m,W m σ H)/\∀m σ H,W m σ H->
 c σ H λb H1=>if b=true then∃N:St->Hp->Prop,(∀σ' H',N σ' H'->∃m',m'<m/\W m' σ' H')/\tb {D with nx:=N,ct:=N,bk:=D.nx} σ H1 else D.nx σ H1
theorem nz{c:Expr}{body:List Stmt}{tc:TT}{tb:TS}(hp:PassesOwn (model X.prog X.w) X.A X.env X.xe)(hc:PT X c tc)(hb:PSs X body tb):PS X (.While c body [] pos) (CQ tc tb):=by
 intro LX s σ H D I h;obtain⟨W,⟨m0,w0⟩,turn⟩:=h;refine wpAny_While (codeAny_whileLoop (λn s'=>∃σ' H',Inv X LX σ' H' s'/\W n σ' H') ?_ m0 ⟨σ,H,I,w0⟩);rintro n s1 ⟨σ1,H1,I1,w1⟩;refine Jq hp (thn (hc LX s1 σ1 H1 _ I1 (turn n σ1 H1 w1)) λb s2 ⟨H2,I2,q2⟩=>?_);cases b with
 |true=>
  obtain⟨N,hN,q2⟩:=q2;rw[Hc rfl];refine Jq hp (thn (hb LX s2 σ1 H2 _ I2 q2) λf s3 q3=>?_);cases f with
  |next=>obtain⟨σ3,H3,I3,n3⟩:=q3;obtain⟨m',hm,w3⟩:=hN σ3 H3 n3;exact⟨m',hm,σ3,H3,I3,w3⟩
  |cont=>obtain⟨σ3,H3,I3,n3⟩:=q3;obtain⟨m',hm,w3⟩:=hN σ3 H3 n3;exact⟨m',hm,σ3,H3,I3,w3⟩
  |brk=>exact q3
  |ret v=>exact q3
 |false=>rw[G9 Hm];exact KC ⟨σ1,H2,I2,q2⟩
end
structure It where
 go:Nat->Hp->Prop
 yld:Nat->Hp->V->Hp->Prop
 stop:Nat->Hp->Prop
def gZ(X:Cx)(LX:List (Addr×Obj))(H:Hp)(b:Addr):Prop:=
 H b=none/\b≠X.env.locals/\b∉X.fs/\(b∈X.ex\/X.s_0.heap.objs.size<=b)/\(∀x c,X.env.cells.lookup x=some c->c≠b)/\∀p∈X.pn++LX,p.1≠b
theorem Inv.fpOk{X:Cx}{LX:List (Addr×Obj)}{σ:St}{H H':Hp}{s:Shared}{b:Addr}(I:Inv X LX σ H s)(hb:s.heap.objs.size<=b)(hn:H' b=none):gZ X LX H' b:=by
 refine⟨hn,Jt (HY I.lt hb),I.nofs hb,.inr (Hv I.sz hb),λx c e z=>?_,λp hp z=>?_⟩
 .obtain⟨v,q⟩:=I.cell x c e;exact absurd (HY q.lt (by rw[z];exact hb)) (Jh _)
 .exact absurd (HY (HB (I.pin p hp).1) (by rw[z];exact hb)) (Jh _)
structure gn(P:Program)(w:World)(K:LS)(tg:Expr)(J:It)(fp:List Addr)(it:Addr)(tn:Nat->Heap->Prop):Prop where
 mem:it∈fp
 obj:∀i h,tn i h->∀b∈fp,∃o,h.get? b=some o/\∀v,o.data≠ .cell v
 keep:∀i h h',tn i h->(∀b∈fp,∀o,h.get? b=some o->h'.get? b=some o)->tn i h'
 item:∀(X:Cx),X.prog=P->X.w=w->X.K=K->X.calm=true->∀(i:Nat)(LX:List (Addr×Obj))(s:Shared)(σ:St)(H:Hp)(E:Value->Shared->Prop),Inv X LX σ H s->(∀b∈fp,gZ X LX H b)->tn i s.heap->J.go i H->
  wpAny (model P w) X.A (pyNext (.ref it)) (λr s1=>∃u,r=some u/\
   wpAny (model P w) X.A (letOwnedTupleGo tg (.ref it) u) (λ_ s2=>∃x H',Inv X LX σ H' s2/\aR x u/\J.yld i H x H'/\tn (i+1) s2.heap/\∀b∈fp,H' b=none) E s1) E s
 done:∀(X:Cx),X.prog=P->X.w=w->X.K=K->X.calm=true->∀(i:Nat)(LX:List (Addr×Obj))(s:Shared)(σ:St)(H:Hp)(E:Value->Shared->Prop),Inv X LX σ H s->(∀b∈fp,gZ X LX H b)->tn i s.heap->J.stop i H->
  wpAny (model P w) X.A (pyNext (.ref it)) (λr s1=>r=none/\Inv X LX σ H s1) E s
 self:∀(A:Around)(i:Nat)(s:Shared)(Q:Value->Shared->Prop)(E:Value->Shared->Prop),tn i s.heap->Q (.ref it) s->wpAny (model P w) A (pyIter (.ref it)) Q E s
abbrev TI:=St->Hp->(It->Hp->Prop)->Prop
def PIE(X:Cx)(LX:List (Addr×Obj))(σ:St)(tg:Expr)(R:It->Hp->Prop)(itv:Value)(s2:Shared):Prop:=
 ∃(it:Addr)(fp:List Addr)(tn:Nat->Heap->Prop)(J:It)(H':Hp),itv=.ref it/\Inv X LX σ H' s2/\gn X.prog X.w X.K tg J fp it tn/\tn 0 s2.heap/\(∀b∈fp,gZ X LX H' b)/\R J H'
def PI(X:Cx)(tg Me:Expr)(wi:TI):Prop:=
 ∀(LX:List (Addr×Obj))(s:Shared)(σ:St)(H:Hp)(R:It->Hp->Prop),Inv X LX σ H s->wi σ H R->
  wpAny (model X.prog X.w) X.A (eval Me X.env) (λv s1=>wpAny (model X.prog X.w) X.A (pyIter v) (PIE X LX σ tg R) X.xe s1) X.xe s
theorem jG(ho:s.heap.get? it=some o)(hc:o.cls=.type n)(hd:o.data=.fields vs)(hn:["enumerate","zip","dict_itemiterator","dict_reverseitemiterator","odict_iterator","itertools.zip_longest","itertools.pairwise"].contains n=false) (hQ:Q () s):wpAny M A (letOwnedTupleGo tg (.ref it) u) Q E s:=by
 unfold letOwnedTupleGo;cases tg<;>first
  |exact G_ hQ
  |(cases u<;>first
    |exact G_ hQ
    |(refine G7 (wpAny_load ho ?_)
      rw[hc,hd];show wpAny M A (if(["enumerate","zip","dict_itemiterator","dict_reverseitemiterator","odict_iterator","itertools.zip_longest","itertools.pairwise"].contains n&&vs[0]?==some (rawInt _))=true then _ else _) Q E s;rw[G9 (by intro h;rw[hn,HV]at h;cases h)]
      exact G_ hQ))
def Itl(K:LS)(a:Addr):It:=
 ⟨λi H=>∃xs x,SqL K H a xs/\xs[i]?=some x,λi H x H'=>H'=H/\∀xs,SqL K H a xs->xs[i]?=some x,λi H=>∃xs,SqL K H a xs/\xs.length<=i⟩
def Itt(K:LS)(a:Addr):It:=
 ⟨λi H=>∃xs x,SqT K H a xs/\xs[i]?=some x,λi H x H'=>H'=H/\∀xs,SqT K H a xs->xs[i]?=some x,λi H=>∃xs,SqT K H a xs/\xs.length<=i⟩
def Itr(lo:Int)(n:Nat):It:=⟨λi _=>i<n,λi H x H'=>H'=H/\x=.int (lo+i),λi _=>n<=i⟩
theorem yw{P:Program}{w:World}{K:LS}{tg:Expr}(a it:Addr):gn P w K tg (Itl K a) [it] it (λi h=>h.IsListIter it a i)where
 mem:=by simp
 obj:=λi h st b hb=>by
  have e:b=it:=by simpa using hb
  subst e;obtain⟨o,e,c,d⟩:=st;exact⟨o,e,λv z=>by rw[d]at z;cases z⟩
 keep:=λi h h' st k=>st.at λo e=>k it (by simp) o e
 item:=by intro X hP hw hK hc i LX s σ H E I hf st hg;subst hP hw hK;obtain⟨xs,x,hq,hx⟩:=hg;obtain⟨its,rv,p,hz⟩:=I.list hq;obtain⟨u,hu,ru⟩:=rv.get hx;obtain⟨f0,f1,f2,f3,f4,f5⟩:=hf it (by simp);refine wpAny_pyNext_list_item st p.isList (x:=u) (by simpa using hu) λh' MQ sb=>?_;have I1:Inv X LX σ H {s with heap:=h'}:=I.turned (t':=s.toks) (λb o hb e=>(sb.2 b hb).trans e) f0 f1 f3 f4 f5;obtain⟨o,e,c,d⟩:=id MQ;exact⟨u,rfl,jG (s:={s with heap:=h'}) e c d (by decide) ⟨x,H,I1,ru,⟨rfl,λys hy=>by rw[I.list_inj hy hq];exact hx⟩,MQ,λb hb=>(hf b hb).1⟩⟩
 done:=by intro X hP hw hK hc i LX s σ H E I hf st hg;subst hP hw hK;obtain⟨xs,hq,hx⟩:=hg;obtain⟨its,rv,p,hz⟩:=I.list hq;obtain⟨f0,f1,f2,f3,f4,f5⟩:=hf it (by simp);have hl:=rv.length;exact wpAny_pyNext_list_end (I.ok.hd hc) st p.isList (by simp;omega) λh' eb=>⟨rfl,I.turned (t':=s.toks) (λb o hb e=>eb b o hb e) f0 f1 f3 f4 f5⟩
 self:=λ_ _ _ _ _ st h=>wpAny_pyIter_listiter st h
theorem w_{P:Program}{w:World}{K:LS}{tg:Expr}(a it:Addr):gn P w K tg (Itt K a) [it] it (λi h=>h.IsTupleIter it a i)where
 mem:=by simp
 obj:=λi h st b hb=>by
  have e:b=it:=by simpa using hb
  subst e;obtain⟨o,e,c,d⟩:=st;exact⟨o,e,λv z=>by rw[d]at z;cases z⟩
 keep:=λi h h' st k=>st.at λo e=>k it (by simp) o e
 item:=by intro X hP hw hK hc i LX s σ H E I hf st hg;subst hP hw hK;obtain⟨xs,x,hq,hx⟩:=hg;obtain⟨its,rv,p,hz⟩:=I.tuple hq;obtain⟨u,hu,ru⟩:=rv.get hx;obtain⟨f0,f1,f2,f3,f4,f5⟩:=hf it (by simp);refine wpAny_pyNext_tuple_item st (show s.heap.IsTuple a its.toArray from p) (x:=u) (by simpa using hu) λh' MQ sb=>?_;have I1:Inv X LX σ H {s with heap:=h'}:=I.turned (t':=s.toks) (λb o hb e=>(sb.2 b hb).trans e) f0 f1 f3 f4 f5;obtain⟨o,e,c,d⟩:=id MQ;exact⟨u,rfl,jG (s:={s with heap:=h'}) e c d (by decide) ⟨x,H,I1,ru,⟨rfl,λys hy=>by rw[I.tuple_inj hy hq];exact hx⟩,MQ,λb hb=>(hf b hb).1⟩⟩
 done:=by intro X hP hw hK hc i LX s σ H E I hf st hg;subst hP hw hK;obtain⟨xs,hq,hx⟩:=hg;obtain⟨its,rv,p,hz⟩:=I.tuple hq;obtain⟨f0,f1,f2,f3,f4,f5⟩:=hf it (by simp);have hl:=rv.length;exact wpAny_pyNext_tuple_end (I.ok.hd hc) st (show s.heap.IsTuple a its.toArray from p) (by simp;omega) λh' eb=>⟨rfl,I.turned (t':=s.toks) (λb o hb e=>eb b o hb e) f0 f1 f3 f4 f5⟩
 self:=λ_ _ _ _ _ st h=>wpAny_pyIter_tupleiter st h
theorem xa{P:Program}{w:World}{K:LS}{tg:Expr}(it:Addr)(lo:Int)(n:Nat):gn P w K tg (Itr lo n) [it] it (λi h=>IsRangeIter h it (lo+(i:Nat)*1) ((n:Int)-(i:Nat)) 1)where
 mem:=by simp
 obj:=λi h st b hb=>by
  have e:b=it:=by simpa using hb
  subst e
  exact⟨_,st,λv z=>by
   have z':Data.fields _=Data.cell v:=z
   cases z'⟩
 keep:=λi h h' st k=>k it (by simp) _ st
 item:=by intro X hP hw hK hc i LX s σ H E I hf st hg;subst hP hw hK;obtain⟨f0,f1,f2,f3,f4,f5⟩:=hf it (by simp);have W:=Walks.range (prog:=X.prog) (w:=X.w) (I.ok.hd hc) it lo 1 n;refine W.item i s _ _ hg st λv h' tk hv MQ kk=>?_;obtain⟨t,rfl⟩:=hv;have I1:Inv X LX σ H {s with heap:=h',toks:=tk}:=I.turned (λb o hb e=>kk b o (by simpa using hb) e) f0 f1 f3 f4 f5;refine⟨_,rfl,jG (s:={s with heap:=h',toks:=tk}) (n:="range_iterator") MQ rfl rfl (by decide) ⟨.int (lo+i),H,I1,⟨t,?_⟩,⟨rfl,rfl⟩,MQ,λb hb=>(hf b hb).1⟩⟩;rw[Int.mul_one]
 done:=by intro X hP hw hK hc i LX s σ H E I hf st hg;subst hP hw hK;obtain⟨f0,f1,f2,f3,f4,f5⟩:=hf it (by simp);exact wpAny_pyNext_range_end (I.ok.hd hc) st (by have:n<=i:=hg;omega) λh' eb=>⟨rfl,I.turned (t':=s.toks) (λb o hb e=>eb b o hb e) f0 f1 f3 f4 f5⟩
 self:=λ_ _ _ _ _ st h=>wpAny_pyIter_rangeiter st h
section
variable{X:Cx}{tg:Expr}
inductive Ct(K:LS)(H1:Hp)(x:V)(R:It->Hp->Prop):Prop|mk(a:_)(_:x=.ref a)(_:(∃xs,SqL K H1 a xs))(_:R (Itl K a) H1)
def sf(K:LS)(tl:TE):TI:=λσ H R=>tl σ H λx H1=>Ct K H1 x R
inductive D8(K:LS)(H1:Hp)(x:V)(R:It->Hp->Prop):Prop|mk(a:_)(_:x=.ref a)(_:(∃xs,SqT K H1 a xs))(_:R (Itt K a) H1)
def EQ(K:LS)(tl:TE):TI:=λσ H R=>tl σ H λx H1=>D8 K H1 x R
theorem a8{l:Expr}{tl:TE}(hl:PE X l tl):PI X tg l (sf X.K tl):=by
 intro LX s σ H R I h;refine thn (hl LX s σ H _ I h) λv s1 ⟨x,H1,I1,r1,q1⟩=>?_;obtain⟨a,e,⟨xs,hq⟩,q⟩:=q1;subst e;cases r1;obtain⟨its,rv,p,hz⟩:=I1.list hq;refine Kk p.isList ?_;refine⟨s1.heap.objs.size,[s1.heap.objs.size],_,_,H1,rfl,I1.kept (t':=s1.toks) λb o e=>Ha _ e,yw a _,⟨_,Hj _ rfl,rfl,rfl⟩,λb hb=>?_,q⟩;have e:b=s1.heap.objs.size:=by simpa using hb
 subst e;exact I1.fpOk (Hu _) (I1.hok.fresh (Hu _))
theorem C9{l:Expr}{tl:TE}(hl:PE X l tl):PI X tg l (EQ X.K tl):=by
 intro LX s σ H R I h;refine thn (hl LX s σ H _ I h) λv s1 ⟨x,H1,I1,r1,q1⟩=>?_;obtain⟨a,e,⟨xs,hq⟩,q⟩:=q1;subst e;cases r1;obtain⟨its,rv,p,hz⟩:=I1.tuple hq;refine wpAny_pyIter_tuple (show s1.heap.IsTuple a its.toArray from p) ?_;refine⟨s1.heap.objs.size,[s1.heap.objs.size],_,_,H1,rfl,I1.kept (t':=s1.toks) λb o e=>Ha _ e,w_ a _,⟨_,Hj _ rfl,rfl,rfl⟩,λb hb=>?_,q⟩;have e:b=s1.heap.objs.size:=by simpa using hb
 subst e;exact I1.fpOk (Hu _) (I1.hok.fresh (Hu _))
theorem z9{LX:List (Addr×Obj)}{σ:St}{H:Hp}{s:Shared}{R:It->Hp->Prop}{E:Value->Shared->Prop}{lo hi:Int}{t u v:Tok}{tk:Nat}(I:Inv X LX σ H s)(h1: -(2^62)<=lo)(h2:lo<2^62)(h3: -(2^62)<=hi)(h4:hi<2^62)(q:R (Itr lo (hi-lo).toNat) H):wpAny (model X.prog X.w) X.A (pyIter (.ref s.heap.objs.size)) (PIE X LX σ tg R) E {s with heap:=s.heap.push {cls:=.type "range",data:=.fields #[.int lo t,.int hi u,.int 1 v]},toks:=tk}:=by
 refine wpAny_pyIter_range (IsRange.new ..) (small_one h1 h2 h3 h4) ?_;have I1:Inv X LX σ H {s with heap:=s.heap.push {cls:=.type "range",data:=.fields #[.int lo t,.int hi u,.int 1 v]},toks:=tk}:=I.kept λb o e=>Ha _ e
 refine⟨(s.heap.push {cls:=.type "range",data:=.fields #[.int lo t,.int hi u,.int 1 v]}).objs.size,[(s.heap.push {cls:=.type "range",data:=.fields #[.int lo t,.int hi u,.int 1 v]}).objs.size],_,_,H,rfl,
  I1.kept (t':=tk) λb o e=>Ha _ e,xa _ lo (hi-lo).toNat,?_,λb hb=>?_,q⟩
 .have e1:lo+((0:Nat):Int)*1=lo:=by simp
  have e2:(((hi-lo).toNat:Nat):Int)-((0:Nat):Int)=Builtin.Range.rangeSize lo hi 1:=by rw[rangeSize_one];split<;>omega
  show IsRangeIter _ _ (lo+((0:Nat):Int)*1) ((((hi-lo).toNat:Nat):Int)-((0:Nat):Int)) 1;rw[e1,e2];exact Hj _ rfl
 .have e:b=(s.heap.push {cls:=.type "range",data:=.fields #[.int lo t,.int hi u,.int 1 v]}).objs.size:=by simpa using hb
  subst e;exact I1.fpOk (Hu _) (I1.hok.fresh (Hu _))
inductive Cr(H1:Hp)(vs:List V)(R:It->Hp->Prop):Prop|mk(j:Int)(_:vs=[.int j])(_: -(2^62)<=j)(_:j<2^62)(_:R (Itr 0 j.toNat) H1)
def Es(ta:TA):TI:=λσ H R=>ta σ H λvs H1=>Cr H1 vs R
theorem yM(hg:Gl X "range")(hm:X.mg "range"=none)(ha:PA X [a] ta)(hs:starEach [a] X.env=[(false,eval a X.env)]:=by rfl):PI X tg (.Call (.Name "range" p) [a] [] pos) (Es ta):=by
 intro LX s σ H R I h;refine Call_ (gM I hg hm boot_range (Iy (thn (ha pos LX s σ H _ I h) λus s1 ⟨vs,H1,I1,r1,q1⟩=>?_) hs rfl));obtain⟨j,e,q1,q2,q⟩:=q1;subst e;cases r1 with
 |cons r rr=>cases rr;obtain⟨t,rfl⟩:=r;exact call_range_1 (z9 I1 (by omega) (by omega) q1 q2 (by simpa using q))
def zq(wi:TI)(g:TG)(tb:TS):TS:=λD σ H=>wi σ H λJ H1=>∃W:Nat->Nat->St->Hp->Prop,(∃m,W 0 m σ H1)/\∀i m σ H,W i m σ H->
 (J.stop i H/\D.nx σ H)\/(J.go i H/\∃N:St->Hp->Prop,(∀σ' H',N σ' H'->∃m',m'<m/\W (i+1) m' σ' H')/\∀x H',J.yld i H x H'->g x σ H' λσ2 H2=>tb {D with nx:=N,ct:=N,bk:=D.nx} σ2 H2)
def kD(fp:List Addr)(h:Heap):List (Addr×Obj):=fp.filterMap λb=>(h.get? b).map λo=>(b,o)
theorem j0{fp:List Addr}{h:Heap}{b:Addr}{o:Obj}(hb:b∈fp)(e:h.get? b=some o):(b,o)∈kD fp h:=Kh.mpr ⟨b,hb,by rw[e];rfl⟩
theorem yP(hp:p∈kD fp h):p.1∈fp/\h.get? p.1=some p.2:=by
 obtain⟨b,hb,e⟩:=Kh.mp hp;cases q:h.get? b with
 |none=>rw[q]at e;cases e
 |some o=>rw[q]at e;have e':(b,o)=p:=Hg e;subst e';exact⟨hb,q⟩
theorem Inv.pinned{LX:List (Addr×Obj)}{σ:St}{H:Hp}{s:Shared}{fp:List Addr}(I:Inv X LX σ H s)(hf:∀b∈fp,gZ X LX H b)(ho:∀b∈fp,∃o,s.heap.get? b=some o/\∀v,o.data≠ .cell v):Inv X (LX++kD fp s.heap) σ H s:=
 I.pins_of λp hp=>(H_.mp hp).elim (λz=>I.pin p (IS _ z)) λz=>by obtain⟨hb,e⟩:=yP z;obtain⟨f0,f1,f2,_⟩:=hf p.1 hb;obtain⟨o,e',d⟩:=ho p.1 hb;rw[e]at e';cases e';exact⟨e,f0,f1,f2,d⟩
theorem Inv.unpinned{LX pl:List (Addr×Obj)}{σ:St}{H:Hp}{s:Shared}(I:Inv X (LX++pl) σ H s):Inv X LX σ H s:=I.pins_of λp hp=>I.pin p (IS _ (List.mem_append_left _ hp))
theorem cy(hp:PassesOwn (model X.prog X.w) X.A X.env X.xe)(hc:X.calm=true)(hi:PI X tg Me wi)(hg:PG X tg g)(hb:PSs X body tb)(hs:∀x,foldedSetIterable Me X.env x=pure x:=by intro _;rfl):PS X (.For tg Me body [] pos) (zq wi g tb):=by
 intro LX s σ H D I h;refine wpAny_For (thn (hi LX s σ H _ I h) λv s1 h1=>thn h1 λitv s2 h2=>?_) hs;obtain⟨it,fp,tn,J,H2,e,I2,T,M5,f2,W,⟨m0,w0⟩,turn⟩:=h2;subst e;have NV:∀{H':Hp},(∀b∈fp,H' b=none)->∀b∈fp,gZ X LX H' b:=λhn b hb=>⟨hn b hb,(f2 b hb).2⟩;refine codeAny_forLoop_any (λn s'=>∃i σ' H',Inv X LX σ' H' s'/\tn i s'.heap/\(∀b∈fp,H' b=none)/\W i n σ' H') ?_ m0 ⟨0,σ,H2,I2,M5,λb hb=>(f2 b hb).1,w0⟩;rintro n s3 ⟨i,σ3,H3,I3,st3,fr3,w3⟩;rcases turn i n σ3 H3 w3 with⟨stop,qn⟩|⟨go,N,hN,step⟩
 .refine Jq hp (thn (T.done X rfl rfl rfl hc i LX s3 σ3 H3 X.xe I3 (NV fr3) st3 stop) λr s4 ⟨hr,I4⟩=>?_);subst hr;exact KC ⟨σ3,H3,I4,qn⟩
 .refine Jq hp (thn (T.item X rfl rfl rfl hc i LX s3 σ3 H3 X.xe I3 (NV fr3) st3 go) λr s4 ⟨u,hr,h4⟩=>?_);subst hr;refine Jq hp (thn h4 λ_ s5 ⟨x,H5,I5,r5,y5,st5,fr5⟩=>?_);have I5':=I5.pinned (NV fr5) (T.obj _ _ st5);refine Jq hp (thn (hg _ s5 σ3 H5 x u _ I5' r5 (step x H5 y5)) λ_ s6 ⟨σ6,H6,I6,q6⟩=>?_);refine Jq hp (thn (hb _ s6 σ6 H6 _ I6 q6) λf s7 q7=>?_);have again:∀{σ7:St}{H7:Hp},Inv X (LX++kD fp s5.heap) σ7 H7 s7->N σ7 H7->∃m,m<n/\∃i σ' H',Inv X LX σ' H' s7/\tn i s7.heap/\(∀b∈fp,H' b=none)/\W i m σ' H':=λ{σ7 H7} I7 n7=>by obtain⟨m',hm,w7⟩:=hN σ7 H7 n7;refine⟨m',hm,i+1,σ7,H7,I7.unpinned,T.keep _ _ _ st5 λb hb o e=>(I7.pin (b,o) (IS _ (IS _ (j0 hb e)))).1,λb hb=>?_,w7⟩;obtain⟨o,e,d⟩:=T.obj _ _ st5 b hb;exact(I7.pin (b,o) (IS _ (IS _ (j0 hb e)))).2.1
  cases f with
  |next=>obtain⟨σ7,H7,I7,n7⟩:=q7;exact again I7 n7
  |cont=>obtain⟨σ7,H7,I7,n7⟩:=q7;exact again I7 n7
  |brk=>obtain⟨σ7,H7,I7,q7⟩:=q7;exact⟨σ7,H7,I7.unpinned,q7⟩
  |ret v=>obtain⟨x7,σ7,H7,I7,r7,q7⟩:=q7;exact⟨x7,σ7,H7,I7.unpinned,r7,q7⟩
end
abbrev R2:=V->V->Hp->VK->Prop
def OpR(X:Cx)(f:Value->Value->Sem Value)(r:R2):Prop:=
 ∀(LX:List (Addr×Obj))(s:Shared)(σ:St)(H:Hp)(x y:V)(v u:Value)(Q:VK),Inv X LX σ H s->aR x v->aR y u->r x y H Q->
  wpAny (model X.prog X.w) X.A (f v u) (EP X LX σ Q) X.xe s
def UnR(X:Cx)(f:Value->Sem Value)(r:V->Hp->VK->Prop):Prop:=
 ∀(LX:List (Addr×Obj))(s:Shared)(σ:St)(H:Hp)(x:V)(v:Value)(Q:VK),Inv X LX σ H s->aR x v->r x H Q->
  wpAny (model X.prog X.w) X.A (f v) (EP X LX σ Q) X.xe s
def eK(X:Cx)(f:Value)(r:List V->Hp->VK->Prop):Prop:=
 ∀(LX:List (Addr×Obj))(s:Shared)(σ:St)(H:Hp)(xs:List V)(us:List Value)(Q:VK),Inv X LX σ H s->aC xs us->r xs H Q->
  wpAny (model X.prog X.w) X.A (call f us) (EP X LX σ Q) X.xe s
def tOp(r:R2)(ta tb:TE):TE:=λσ H Q=>ta σ H λx H1=>tb σ H1 λy H2=>r x y H2 Q
def tUn(r:V->Hp->VK->Prop)(ta:TE):TE:=λσ H Q=>ta σ H λx H1=>r x H1 Q
inductive RIS(C:Int->Int->Prop)(g:Int->Int->V)(x y:V)(H:Hp)(Q:VK):Prop|mk(i j:Int)(_:x=.int i)(_:y=.int j)(_:C i j)(_:Q (g i j) H)
def rI(C:Int->Int->Prop)(g:Int->Int->V):R2:=λx y H Q=>RIS C g x y H Q
inductive EX(g:Int->Int->V)(x y:V)(H:Hp)(Q:VK):Prop|mk(i j:Int)(_:x=.int i)(_:y=.int j)(_:Q (g i j) H)
def rI0(g:Int->Int->V):R2:=λx y H Q=>EX g x y H Q
inductive EW(g:Int->V)(H:Hp)(x:V)(Q:VK):Prop|mk(i:_)(_:x=.int i)(_:Q (g i) H)
def rU(g:Int->V):V->Hp->VK->Prop:=λx H Q=>EW g H x Q
section
variable{X:Cx}{a b c:Expr}{ta tb tc:TE}{pos:Pos}
theorem zx(ha:PE X a ta)(hb:PE X b tb){LX:List (Addr×Obj)}{s:Shared}{σ:St}{H:Hp}{R:V->V->Hp->Prop}(I:Inv X LX σ H s)(h:ta σ H λx H1=>tb σ H1 λy H2=>R x y H2) {Q:Value->Shared->Prop} {f:Value->Value->Sem Value} (hf:∀v u s2 x y H2,Inv X LX σ H2 s2->aR x v->aR y u->R x y H2->wpAny (model X.prog X.w) X.A (f v u) Q X.xe s2):wpAny (model X.prog X.w) X.A (eval a X.env) (λv s₁=>wpAny (model X.prog X.w) X.A (eval b X.env) (λu s₂=>wpAny (model X.prog X.w) X.A (f v u) Q X.xe s₂) X.xe s₁) X.xe s:=by refine thn (ha LX s σ H _ I h) λv s1 ⟨x,H1,I1,r1,q1⟩=>?_;refine thn (hb LX s1 σ H1 _ I1 q1) λu s2 ⟨y,H2,I2,r2,q2⟩=>?_;exact hf v u s2 x y H2 I2 r1 r2 q2
theorem bH{op:Operator}{r:R2}(ho:OpR X (binaryOp op) r)(ha:PE X a ta)(hb:PE X b tb):PE X (.BinOp a op b pos) (tOp r ta tb):=by intro LX s σ H Q I h;exact wpAny_BinOp (zx ha hb I h λv u s2 x y H2 I2 rx ry q=>ho LX s2 σ H2 x y v u Q I2 rx ry q)
theorem El(ho:UnR X (unaryOp op) r)(ha:PE X a ta):PE X (.UnaryOp op a pos) (tUn r ta):=by intro LX s σ H Q I h;exact UnaryOp_ (thn (ha LX s σ H _ I h) λv s1 ⟨x,H1,I1,r1,q1⟩=>ho LX s1 σ H1 x v Q I1 r1 q1)
theorem opI{f:Value->Value->Sem Value}{C:Int->Int->Prop}{g:Int->Int->Int} (rule:∀(i j:Int)(t u:Tok)(s:Shared)(Q:Value->Shared->Prop)(E:Value->Shared->Prop),C i j->Q (.int (g i j) s.toks) {s with toks:=s.toks+1}->wpAny (model X.prog X.w) X.A (f (.int i t) (.int j u)) Q E s):OpR X f (rI C λi j=>.int (g i j)):=by intro LX s σ H x y v u Q I rx ry h;obtain⟨i,j,rfl,rfl,hc,q⟩:=h;obtain⟨t,rfl⟩:=rx;obtain⟨t',rfl⟩:=ry;exact rule i j t t' s _ _ hc ⟨.int (g i j),H,I.tok _,⟨_,rfl⟩,q⟩
theorem zv{f:Value->Value->Sem Value}{g:Int->Int->Int} (rule:∀(i j:Int)(t u:Tok)(s:Shared)(Q:Value->Shared->Prop)(E:Value->Shared->Prop),Q (.int (g i j) s.toks) {s with toks:=s.toks+1}->wpAny (model X.prog X.w) X.A (f (.int i t) (.int j u)) Q E s):OpR X f (rI0 λi j=>.int (g i j)):=by intro LX s σ H x y v u Q I rx ry h;obtain⟨i,j,rfl,rfl,q⟩:=h;obtain⟨t,rfl⟩:=rx;obtain⟨t',rfl⟩:=ry;exact rule i j t t' s _ _ ⟨.int (g i j),H,I.tok _,⟨_,rfl⟩,q⟩
theorem wK{f:Value->Value->Sem Value}{g:Int->Int->Bool} (rule:∀(i j:Int)(t u:Tok)(s:Shared)(Q:Value->Shared->Prop)(E:Value->Shared->Prop),Q (.bool (g i j)) s->wpAny (model X.prog X.w) X.A (f (.int i t) (.int j u)) Q E s):OpR X f (rI0 λi j=>.bl (g i j)):=by intro LX s σ H x y v u Q I rx ry h;obtain⟨i,j,rfl,rfl,q⟩:=h;obtain⟨t,rfl⟩:=rx;obtain⟨t',rfl⟩:=ry;exact rule i j t t' s _ _ ⟨.bl (g i j),H,I,rfl,q⟩
def E7(i j:Int):Prop:=0<j/\j<1073741824
def zC(i j:Int):Prop:=(-(2^64)<i/\i<2^64)\/(-(2^64)<j/\j<2^64)
theorem zC.ok{i j:Int}(h:zC i j):IntMulOk i j:=by
 rcases h with⟨h1,h2⟩|⟨h1,h2⟩
 .exact .of_left (intBits_le_64 h1 h2)
 .exact .of_right (intBits_le_64 h1 h2)
theorem w8(k:Nat):(0:Int)<=2^k:=by rw[two_pow_cast];exact JV _
theorem d6:OpR X (binaryOp .Add) (rI0 λi j=>.int (i+j)):=zv λ_ _ _ _ _ _ _ q=>add_int q
theorem sC:OpR X (binaryOp .Sub) (rI0 λi j=>.int (i-j)):=zv λ_ _ _ _ _ _ _ q=>sub_int q
theorem xY:OpR X (binaryOp .Mult) (rI zC λi j=>.int (i*j)):=opI λ_ _ _ _ _ _ _ hc q=>mul_int q hc.ok
theorem BJ:OpR X (binaryOp .FloorDiv) (rI E7 λi j=>.int (i/j)):=opI λi j _ _ _ _ _ hc q=>by have h1:(0:Int)<j:=hc.1;have h2:j<1073741824:=hc.2;exact floordiv_int (by omega) (by rw[Ld i (by omega)];exact q) (.inl (LP (by omega)))
theorem xZ:OpR X (binaryOp .Mod) (rI (λ_ j=>0<j) λi j=>.int (i%j)):=opI λi j _ _ _ _ _ hc q=>by have h1:(0:Int)<j:=hc;exact mod_int' (by omega) (by rw[Int.fmod_eq_emod_of_nonneg i (by omega)];exact q)
theorem xX:OpR X (binaryOp .RShift) (rI (λ_ j=>0<=j) λi j=>.int (i/2^j.toNat)):=opI λi j _ _ _ _ _ hc q=>
 rshift_int hc (by rw[Ld i (w8 _)];exact q)
theorem Df:OpR X (binaryOp .BitAnd) (rI0 λi j=>.int (Builtin.bitAnd i j)):=zv λ_ _ _ _ _ _ _ q=>and_int q
theorem unI{f:Value->Sem Value}{g:Int->Int} (rule:∀(i:Int)(t:Tok)(s:Shared)(Q:Value->Shared->Prop)(E:Value->Shared->Prop),Q (.int (g i) s.toks) {s with toks:=s.toks+1}->wpAny (model X.prog X.w) X.A (f (.int i t)) Q E s):UnR X f (rU λi=>.int (g i)):=by intro LX s σ H x v Q I rx h;obtain⟨i,rfl,q⟩:=h;obtain⟨t,rfl⟩:=rx;exact rule i t s _ _ ⟨.int (g i),H,I.tok _,⟨_,rfl⟩,q⟩
theorem CN:UnR X (unaryOp .USub) (rU λi=>.int (-i)):=unI λ_ _ _ _ _ q=>neg_int q
def CA:V->V->Bool
 | .non,.non=>true| .non,.int _=>true| .int _,.non=>true| .non,.bl _=>true| .bl _,.non=>true| .non,.str _=>true| .str _,.non=>true
 | .int _,.int _=>true| .bl _,.bl _=>true| .str _,.str _=>true| .byt _,.byt _=>true
 | .int _,.str _=>true| .str _,.int _=>true| .bl _,.str _=>true| .str _,.bl _=>true
 |_,_=>false
def rEq:R2:=λx y H Q=>CA x y=true/\Q (.bl (decide (x=y))) H
def rNe:R2:=λx y H Q=>CA x y=true/\Q (.bl (!decide (x=y))) H
theorem wB:decide (V.int i=V.int j)=(i==j):=by rw[HD];simp
theorem yi:decide (V.bl i=V.bl j)=(i==j):=by rw[HD];simp
theorem wA:decide (V.str i=V.str j)=(i==j):=by rw[HD];simp
theorem wC:decide (V.byt i=V.byt j)=(i.toList==j.toList):=by rw[HD];cases i;cases j;simp
theorem bg(I:Inv X LX σ H s)(q:Q (.bl k) H)(e:k=k'):EP X LX σ Q (.bool k') s:=by subst e;exact⟨.bl k,H,I,rfl,q⟩
theorem bY:OpR X (compareOp .Eq) rEq:=by
 intro LX s σ H x y v u Q I rx ry h;obtain⟨hs,q⟩:=h;cases x with
 |non=>
  cases rx;cases y with
  |non=>cases ry;exact PySem.EqNone.eq_none_none (bg I q (by simp))
  |bl j=>cases ry;exact PySem.EqNone.eq_none_bool (bg I q (by simp))
  |int j=>obtain⟨t',rfl⟩:=ry;exact PySem.EqNone.eq_none_int (bg I q (by simp))
  |str j=>obtain⟨t',rfl⟩:=ry;exact PySem.EqNone.eq_none_str (bg I q (by simp))
  |_=>exact absurd (show false=true from hs) Hm
 |bl i=>
  cases rx;cases y with
  |non=>cases ry;exact PySem.EqNone.eq_bool_none (bg I q (by simp))
  |bl j=>cases ry;exact eq_bool (bg I q yi)
  |str j=>obtain⟨t',rfl⟩:=ry;exact PySem.EqMixed.eq_bool_str (bg I q (by simp))
  |_=>exact absurd (show false=true from hs) Hm
 |int i=>
  obtain⟨t,rfl⟩:=rx;cases y with
  |non=>cases ry;exact PySem.EqNone.eq_int_none (bg I q (by simp))
  |int j=>obtain⟨t',rfl⟩:=ry;exact eq_int (bg I q wB)
  |str j=>obtain⟨t',rfl⟩:=ry;exact PySem.EqMixed.eq_int_str (bg I q (by simp))
  |_=>exact absurd (show false=true from hs) Hm
 |str i=>
  obtain⟨t,rfl⟩:=rx;cases y with
  |non=>cases ry;exact PySem.EqNone.eq_str_none (bg I q (by simp))
  |bl j=>cases ry;exact PySem.EqMixed.eq_str_bool (bg I q (by simp))
  |int j=>obtain⟨t',rfl⟩:=ry;exact PySem.EqMixed.eq_str_int (bg I q (by simp))
  |str j=>obtain⟨t',rfl⟩:=ry;exact eq_str (bg I q wA)
  |_=>exact absurd (show false=true from hs) Hm
 |byt i=>
  obtain⟨t,rfl⟩:=rx;cases y with
  |byt j=>obtain⟨t',rfl⟩:=ry;exact PySem.W.eq_bytes (bg I q wC)
  |_=>exact absurd (show false=true from hs) Hm
 |_=>cases y<;>exact absurd (show false=true from hs) Hm
theorem l7:OpR X (compareOp .NotEq) rNe:=by
 intro LX s σ H x y v u Q I rx ry h;obtain⟨hs,q⟩:=h;cases x with
 |non=>
  cases rx;cases y with
  |non=>cases ry;exact PySem.EqNone.ne_none_none (bg I q (by simp))
  |bl j=>cases ry;exact PySem.EqNone.ne_none_bool (bg I q (by simp))
  |int j=>obtain⟨t',rfl⟩:=ry;exact PySem.EqNone.ne_none_int (bg I q (by simp))
  |str j=>obtain⟨t',rfl⟩:=ry;exact PySem.EqNone.ne_none_str (bg I q (by simp))
  |_=>exact absurd (show false=true from hs) Hm
 |bl i=>
  cases rx;cases y with
  |non=>cases ry;exact PySem.EqNone.ne_bool_none (bg I q (by simp))
  |bl j=>cases ry;exact ne_bool (bg I q (HU not yi))
  |str j=>obtain⟨t',rfl⟩:=ry;exact PySem.EqMixed.ne_bool_str (bg I q (by simp))
  |_=>exact absurd (show false=true from hs) Hm
 |int i=>
  obtain⟨t,rfl⟩:=rx;cases y with
  |non=>cases ry;exact PySem.EqNone.ne_int_none (bg I q (by simp))
  |int j=>obtain⟨t',rfl⟩:=ry;exact ne_int (bg I q (HU not wB))
  |str j=>obtain⟨t',rfl⟩:=ry;exact PySem.EqMixed.ne_int_str (bg I q (by simp))
  |_=>exact absurd (show false=true from hs) Hm
 |str i=>
  obtain⟨t,rfl⟩:=rx;cases y with
  |non=>cases ry;exact PySem.EqNone.ne_str_none (bg I q (by simp))
  |bl j=>cases ry;exact PySem.EqMixed.ne_str_bool (bg I q (by simp))
  |int j=>obtain⟨t',rfl⟩:=ry;exact PySem.EqMixed.ne_str_int (bg I q (by simp))
  |str j=>obtain⟨t',rfl⟩:=ry;exact ne_str (bg I q (HU not wA))
  |_=>exact absurd (show false=true from hs) Hm
 |byt i=>
  obtain⟨t,rfl⟩:=rx;cases y with
  |byt j=>obtain⟨t',rfl⟩:=ry;exact PySem.W.ne_bytes (bg I q (HU not wC))
  |_=>exact absurd (show false=true from hs) Hm
 |_=>cases y<;>exact absurd (show false=true from hs) Hm
theorem gB:OpR X (compareOp .Lt) (rI0 λi j=>.bl (decide (i<j))):=wK λ_ _ _ _ _ _ _ q=>lt_int q
theorem fF:OpR X (compareOp .LtE) (rI0 λi j=>.bl (decide (i<=j))):=wK λ_ _ _ _ _ _ _ q=>le_int q
theorem l8:OpR X (compareOp .Gt) (rI0 λi j=>.bl (decide (j<i))):=wK λ_ _ _ _ _ _ _ q=>gt_int q
theorem r9:OpR X (compareOp .GtE) (rI0 λi j=>.bl (decide (j<=i))):=wK λ_ _ _ _ _ _ _ q=>ge_int q
theorem sD:OpR X (compareOp .Is) (λx y H Q=>y=.non/\Q (.bl (decide (x=.non))) H):=by
 intro LX s σ H x y v u Q I rx ry h;obtain⟨rfl,q⟩:=h;cases ry;refine is_none_gen (bg I q ?_);cases x<;>first
  |(cases rx;rfl)
  |(obtain⟨t,rfl⟩:=rx;rfl)
theorem wb:OpR X (compareOp .IsNot) (λx y H Q=>y=.non/\Q (.bl (!decide (x=.non))) H):=by
 intro LX s σ H x y v u Q I rx ry h;obtain⟨rfl,q⟩:=h;cases ry;refine isnot_none_gen (bg I q ?_);cases x<;>first
  |(cases rx;rfl)
  |(obtain⟨t,rfl⟩:=rx;rfl)
theorem aD(b:Expr)(h:op≠ .In:=by decide)(h2:op≠ .NotIn:=by decide):behindInMarks op b=false:=by
 have e1:(op==CmpOp.In)=false:=by cases op<;>first|rfl|exact absurd rfl h
 have e2:(op==CmpOp.NotIn)=false:=by cases op<;>first|rfl|exact absurd rfl h2
 cases b<;>simp[behindInMarks,e1,e2]
theorem eV{op:CmpOp}{r:R2}(ho:OpR X (compareOp op) r)(ha:PE X a ta)(hb:PE X b tb)(hm:behindInMarks op b=false):PE X (.Compare a [op] [b] pos) (tOp r ta tb):=by intro LX s σ H Q I h;exact wpAny_Compare1 (zx ha hb I h λv u s2 x y H2 I2 rx ry q=>ho LX s2 σ H2 x y v u Q I2 rx ry q) hm
inductive Ci(H':Hp)(x:V)(Q:Bool->Hp->Prop):Prop|mk(k:_)(_:x=.bl k)(_:Q k H')
def jD(t:TE):TT:=λσ H Q=>t σ H λx H'=>Ci H' x Q
theorem aA(ho:OpR X (compareOp op) r)(ha:PE X a ta)(hb:PE X b tb)(hm:behindInMarks op b=false):PT X (.Compare a [op] [b] pos) (jD (tOp r ta tb)):=by
 intro LX s σ H Q I h
 refine wpAny_isTrue_Compare1 (thn (ha LX s σ H _ I h) λv s1 ⟨x,H1,I1,r1,q1⟩=>thn (hb LX s1 σ H1 _ I1 q1) λu s2 ⟨y,H2,I2,r2,q2⟩=>
  thn (ho LX s2 σ H2 x y v u _ I2 r1 r2 q2) λc s3 ⟨z,H3,I3,r3,k,e,q3⟩=>?_) hm
 subst e;cases r3;exact IB ⟨H3,I3,q3⟩
def xQ(r r':R2)(ta tb tc:TE):TE:=λσ H Q=>ta σ H λx H1=>tb σ H1 λy H2=>r x y H2 λz H3=>∃k,z=.bl k/\
 (if k=true then tc σ H3 λw' H4=>r' y w' H4 Q else Q (.bl false) H3)
theorem tE(ho:OpR X (compareOp op) r)(NR:OpR X (compareOp op') r')(ha:PE X a ta)(hb:PE X b tb)(hc:PE X c tc)(hm:lastMarks [op,op'] [b,c]=false:=by with_unfolding_all rfl):PE X (.Compare a [op,op'] [b,c] pos) (xQ r r' ta tb tc):=by
 intro LX s σ H Q I h
 refine Compare_chain (thn (ha LX s σ H _ I h) λv s1 ⟨x,H1,I1,r1,q1⟩=>chain_link (thn (hb LX s1 σ H1 _ I1 q1) λu s2 ⟨y,H2,I2,r2,q2⟩=>
  thn (ho LX s2 σ H2 x y v u _ I2 r1 r2 q2) λd s3 ⟨z,H3,I3,r3,k,e,q3⟩=>?_)) hm
 subst e;cases r3;refine IB ?_;cases k with
 |false=>exact ite_ff ⟨.bl false,H3,I3,rfl,q3⟩
 |true=>exact ite_tt (chain_last (thn (hc LX s3 σ H3 _ I3 q3) λw' s4 ⟨z',H4,I4,r4,q4⟩=>NR LX s4 σ H4 y z' u w' Q I4 r2 r4 q4))
theorem tj(ho:OpR X (compareOp op) r)(NR:OpR X (compareOp op') r')(ha:PE X a ta)(hb:PE X b tb)(hc:PE X c tc)(hm:lastMarks [op,op'] [b,c]=false:=by with_unfolding_all rfl):PT X (.Compare a [op,op'] [b,c] pos) (jD (xQ r r' ta tb tc)):=by
 intro LX s σ H Q I h
 refine isTrue_chain (thn (ha LX s σ H _ I h) λv s1 ⟨x,H1,I1,r1,q1⟩=>test_link (thn (hb LX s1 σ H1 _ I1 q1) λu s2 ⟨y,H2,I2,r2,q2⟩=>
  thn (ho LX s2 σ H2 x y v u _ I2 r1 r2 q2) λd s3 ⟨z,H3,I3,r3,k,e,q3⟩=>?_)) hm
 subst e;cases r3;refine IB ?_;cases k with
 |false=>obtain⟨k',e',q'⟩:=q3;cases e';exact ite_ff ⟨H3,I3,q'⟩
 |true=>refine ite_tt (test_last (thn (hc LX s3 σ H3 _ I3 q3) λw' s4 ⟨z',H4,I4,r4,q4⟩=>thn (NR LX s4 σ H4 y z' u w' _ I4 r2 r4 q4) λd' s5 ⟨z2,H5,I5,r5,k2,e2,q5⟩=>?_));subst e2;cases r5;exact IB ⟨H5,I5,q5⟩
theorem sJ:(sizeLine:Nat)<2^63:=by rw[Kj];decide
theorem gz(r:aC [x] us):∃u,us=[u]/\aR x u:=by
 cases r with
 |cons r1 r2=>cases r2;exact⟨_,rfl,r1⟩
theorem wP(r:aC [x,y] us):∃u w',us=[u,w']/\aR x u/\aR y w':=by
 cases r with
 |cons r1 r2=>
  cases r2 with
  |cons r3 r4=>cases r4;exact⟨_,_,rfl,r1,r3⟩
theorem qY(hc:X.calm=true):eK X (.builtin "min") (λxs H Q=>∃i j,xs=[.int i,.int j]/\Q (.int (if j<i then j else i)) H):=by
 intro LX s σ H xs us Q I r h;obtain⟨i,j,rfl,q⟩:=h;obtain⟨u,w',rfl,⟨t,rfl⟩,⟨t',rfl⟩⟩:=wP r;refine min_two_ints (I.ok.hd hc) λh' tk k=>⟨_,H,I.kept k,?_,q⟩;by_cases hj:j<i
 .rw[Hc hj,Hc hj];exact⟨_,rfl⟩
 .rw[G9 hj,G9 hj];exact⟨_,rfl⟩
end
structure pG(h:Heap)(x dx C:Addr)(mA:Str->Option Value):Prop where
 obj:h.get? x=some (instObj C dx)
 ns:h.Ns1 dx mA
 ne:dx≠x
theorem yR{h:Heap}{dx:Addr}{mA:Str->Option Value}(n:h.Ns1 dx mA):∃od,h.get? dx=some od/\∀name,lookIn name od=some (mA name):=by
 obtain⟨o,es,ep,ho,hd,hk,_,hm⟩:=n;refine⟨o,ho,λname=>?_⟩;have e:=hm name;unfold nsFind findBy at e;rw[<-Array.find?_toList]at e;unfold lookIn;rw[hd];dsimp only;split
 .rename_i y q;rw[q]at e;exact HU some e
 .rename_i q;rw[q]at e;have a:es.toList.any (·.refKey)=false:=by rw[K6];intro y hy;obtain⟨z,t,NW⟩:=hk y (Array.mem_toList_iff.mp hy);simp[DictEntry.refKey,NW]
  have a':¬es.toList.any (·.refKey)=true:=by rw[a];exact Hm
  rw[G9 a'];exact HU some e
theorem pG.look(I:pG h x dx C mA):∃od,PySem.W.InstAt h x (instObj C dx) C (some od)/\∀name,lookIn name od=some (mA name):=
 let⟨od,ho,hl⟩:=yR I.ns
 ⟨od,⟨I.obj,rfl,rfl,ho⟩,hl⟩
section
variable{prog:Program}{w:World}{A:Around}{E:Value->Shared->Prop}{s:Shared}{K:LS}{x dx C f:Addr}{mA:Str->Option Value}{name:Str}{v:Value}
theorem B1(X:K.In s.heap)(I:pG s.heap x dx C mA)(hg:plainGet K C name=true)(hh:PySem.W.hasDictIn K C=true)(ha:PySem.W.findIn K (.ref C) name=some none) (hv:mA name=some v) (NX:handedIn v=true) (h:Q v {s with toks:=s.toks+1}):wpAny (model prog w) A (getAttr (.ref x) name expr) Q E s:=by obtain⟨od,J,hl⟩:=I.look;exact PySem.W.get_value X J (PySem.W.plainGet_of hg).1 (PySem.W.findObj_own hh ha rfl (by rw[hl,hv])) NX h
theorem Bs(X:K.In s.heap)(I:pG s.heap x dx C mA)(hs:PySem.W.findIn K (.ref C) "__setattr__"=some (some (.builtin "object.__setattr__"))) (hp:PySem.W.plainOver K C=true) (ht:PySem.W.takerIn K C name=some none) (hh:PySem.W.hasDictIn K C=true)(hw:PySem.Within mA ns) (hsz:ns.length<=sizeLine)
 (h:∀h',pG h' x dx C (λy=>if y=name then some v else mA y)->Heap.SameBut dx s.heap h'->Q () {s with heap:=h',toks:=s.toks+2}):
  wpAny (model prog w) A (setAttr (.ref x) name v) Q E s:=by
 obtain⟨od,J,hl⟩:=I.look;refine PySem.W.set_plain X J hs (PySem.W.osa_open (s:={s with toks:=s.toks+1}) (r:=none) X J hp ht λb=>?_);obtain⟨cd,hc,hd'⟩:=PySem.W.any_some hh;have hx:s.heap.get? x=some ⟨.ref C,some dx,.plain, #[]⟩:=I.obj;refine G7 (G_ (G7 (G7 (wpAny_loadPart hx (G7 (Looks.here (s:={s with toks:=s.toks+1}) (PySem.W.looks_clsIn X hc) ?_))))));rw[hd'];refine G_ (a:=some dx) (G7 (G_ (G7 ?_)));refine wpAny_nsSet1 (s:={s with toks:=s.toks+1}) I.ns λh' hn2 hs2=>?_;obtain⟨oD,esD,epD,hoD,hdD,hcD⟩:=hn2.count (PySem.Within.cons name v hw);refine G7 (wpAny_lookBehind hoD (by rw[hdD];exact pastItsLine_dict (Hv hcD (by rw[Hr];omega))) ?_);exact G_ (h _ ⟨(hs2.2 _ (Ho I.ne)).trans I.obj,hn2,I.ne⟩ hs2)
theorem Aj(X:K.In s.heap)(hm:makesIn K C=true)(hi:PySem.W.findIn K (.ref C) "__init__"=some (some (.ref f))) (hf:PySem.W.typeIn K (.ref f)=some (.type "function"))(h:codeAny (model prog w) (A.under (.builtin "type.__call__" ⟨.ref C::vs,kw⟩)) (.call (.ref f) ⟨.ref (s.heap.objs.size+1)::vs,kw⟩) (PySem.W.InitBack (s.heap.objs.size+1) R) {s with heap:=(s.heap.push emptyDict).push (instObj C s.heap.objs.size)}):codeAny (model prog w) A (.call (.ref C) ⟨vs,kw⟩) R s:=by obtain⟨hh,g,d,t,os⟩:=s;exact PySem.W.make_core (PySem.W.makes_of X hm) (PySem.W.looks_findIn X hi) (λself=>PySem.W.bind_fn X self hf) (.inl rfl) h
end
def cI(f:Str)(v:V):List (Str×V)->List (Str×V)
 |[]=>[(f,v)]
 |(g,x)::r=>if g=f then(g,v)::r else(g,x)::cI f v r
theorem mU(f g:Str)(v:V):∀fs:List (Str×V),(cI f v fs).lookup g=if g=f then some v else fs.lookup g
 |[]=>by
  show List.lookup g [(f,v)]=_;by_cases h:g=f
  .have hb:(g==f)=true:=IX.mpr h;simp only[List.lookup,hb,if_pos h]
  .have hb:(g==f)=false:=Ia.mpr h;simp only[List.lookup,hb,if_neg h]
 |(k,x)::r=>by
  have ih:=mU f g v r;rw[show cI f v ((k,x)::r)=(if k=f then(k,v)::r else(k,x)::cI f v r)from rfl];by_cases hk:k=f
  .rw[Hc hk];by_cases h:g=k
   .have hb:(g==k)=true:=IX.mpr h;simp only[List.lookup,hb,if_pos (h.trans hk)]
   .have hb:(g==k)=false:=Ia.mpr h;simp only[List.lookup,hb,if_neg (λe:g=f=>h (e.trans hk.symm))]
  .rw[G9 hk];by_cases h:g=k
   .have hb:(g==k)=true:=IX.mpr h;simp only[List.lookup,hb,if_neg (λe:g=f=>hk (h.symm.trans e))]
   .have hb:(g==k)=false:=Ia.mpr h;simp only[List.lookup,hb];exact ih
theorem kX(f:Str)(v:V):∀fs:List (Str×V),f∈(cI f v fs).map (·.1)/\∀g,g∈fs.map (·.1)->g∈(cI f v fs).map (·.1)
 |[]=>⟨by simp[cI],λg h=>by simp at h⟩
 |(k,x)::r=>by
  obtain⟨i1,i2⟩:=kX f v r;rw[show cI f v ((k,x)::r)=(if k=f then(k,v)::r else(k,x)::cI f v r)from rfl];by_cases hk:k=f
  .rw[Hc hk];subst hk;exact⟨by simp,λg h=>by simpa using h⟩
  .rw[G9 hk];refine⟨?_,λg h=>?_⟩
   .rw[Hf];exact Hh _ i1
   .rw[Hf]at h⊢;rcases Hi.mp h with e|e
    .exact Hi.mpr (.inl e)
    .exact Hh _ (i2 g e)
theorem mV(f:Str)(v:V):∀fs:List (Str×V),(cI f v fs).length<=fs.length+1
 |[]=>by simp[cI]
 |(k,x)::r=>by
  have ih:=mV f v r;rw[show cI f v ((k,x)::r)=(if k=f then(k,v)::r else(k,x)::cI f v r)from rfl];by_cases hk:k=f
  .rw[Hc hk,Hr,Hr];omega
  .rw[G9 hk,Hr,Hr];omega
theorem dN.some_of(r:dN (some v) o):∃u,o=some u/\aR v u:=by
 cases o with
 |none=>exact(show False from r).elim
 |some u=>exact⟨u,rfl,r⟩
theorem dN.none_of(r:dN none o):o=none:=by
 cases o with
 |none=>rfl
 |some u=>exact(show False from r).elim
theorem y4(r:aR v u):handedIn u=true:=by
 cases v with
 |non=>cases(show u=Value.none from r);rfl
 |bl b=>cases(show u=Value.bool b from r);rfl
 |int i=>obtain⟨t,e⟩:=(show∃t,u=Value.int i t from r);cases e;rfl
 |str x=>obtain⟨t,e⟩:=(show∃t,u=Value.str x t from r);cases e;rfl
 |byt b=>obtain⟨t,e⟩:=(show∃t,u=Value.bytes b t from r);cases e;rfl
 |flt b=>obtain⟨t,e⟩:=(show∃t,u=Value.float b t from r);cases e;rfl
 |ref a=>cases(show u=Value.ref a from r);rfl
 |ty n=>cases(show u=Value.type n from r);rfl
section
variable{P:Program}{w:World}{H H':Hp}{h h':Heap}{a C dx:Addr}{fs fs':List (Str×V)}
theorem wq(hok:HOk P w H h)(e:H a=some (.ins C dx fs)):∃mA,pG h a dx C mA/\(∀f,dN (fs.lookup f) (mA f))/\PySem.Within mA (fs.map (·.1))/\fs.length<=1000/\H dx=some (.own a):=by obtain⟨d,z,ne,ob,mA,n,r,q⟩:=(show bZ P w H h a (.ins C dx fs)from hok a _ e);exact⟨mA,⟨ob,n,ne⟩,r,q,z,d⟩
end
structure Cls(K:LS)(C:Addr):Prop where
 pg:plainGet K C Str.empty=true
 hd:PySem.W.hasDictIn K C=true
 po:PySem.W.plainOver K C=true
 sa:PySem.W.findIn K (.ref C) "__setattr__"=some (some (.builtin "object.__setattr__"))
theorem Cls.get{K:LS}{C:Addr}(c:Cls K C)(f:Str):plainGet K C f=true:=c.pg
def gb(K:LS)(C:Addr)(f:Str):Prop:=PySem.W.findIn K (.ref C) f=some none
theorem gb.taker{K:LS}{C:Addr}{f:Str}(n:gb K C f):PySem.W.takerIn K C f=some none:=by unfold PySem.W.takerIn;rw[show PySem.W.findIn K (.ref C) f=some none from n];rfl
section
variable{X:Cx}{LX:List (Addr×Obj)}{σ:St}{H:Hp}{s:Shared}{a C dx:Addr}{fs:List (Str×V)}{f:Str}{v:V}{A:Around}{E:Value->Shared->Prop}
theorem xG(I:Inv X LX σ H s)(e:H a=some (.ins C dx fs))(c:Cls X.K C)(n:gb X.K C f)(l:fs.lookup f=some v)(h:∀u s',Inv X LX σ H s'->aR v u->Q u s'):wpAny (model X.prog X.w) A (getAttr (.ref a) f b) Q E s:=by obtain⟨mA,O,r,_,_,_⟩:=wq I.hok e;obtain⟨u,hu,ru⟩:=dN.some_of (v:=v) (o:=mA f) (by rw[<-l];exact r f);exact B1 I.kIn O (c.get f) c.hd n hu (y4 ru) (h u _ (I.tok _) ru)
theorem xp(I:Inv X LX σ H s)(e:H a=some (.ins C dx fs))(c:Cls X.K C)(n:gb X.K C f)(hl:fs.length<1000)(ry:aR y u)(h:∀s',Inv X LX σ (upd H a (.ins C dx (cI f y fs))) s'->Q () s'):wpAny (model X.prog X.w) A (setAttr (.ref a) f u) Q E s:=by
 obtain⟨mA,O,r,wi,_,ho⟩:=wq I.hok e;have hz:(fs.map (·.1)).length<=sizeLine:=by rw[G8,Kj];omega
 refine Bs I.kIn O c.sa c.po n.taker c.hd wi hz λh' O' sb=>h _ ?_;have hd:∃o,h'.get? dx=some o:=let⟨o,_,_,e',_⟩:=O'.ns;⟨o,e'⟩;refine I.write (x:=a) (e:=dx) (by rw[e];exact True.intro) (.inr ho) (λb q hb z=>(sb.2 b hb).trans z) hd ?_;refine⟨by rw[ai O.ne];exact ho,?_,O.ne,O'.obj,_,O'.ns,λg=>?_,λg hg=>?_⟩
 .have:=mV f y fs;omega
 .show dN ((cI f y fs).lookup g) (if g=f then some u else mA g);rw[mU];by_cases q:g=f
  .rw[Hc q,Hc q];exact ry
  .rw[G9 q,G9 q];exact r g
 .by_cases q:g=f
  .rw[q];exact(kX f y fs).1
  .refine(kX f y fs).2 g (wi g λz=>hg ?_);show(if g=f then some u else mA g)=none;rw[G9 q];exact z
theorem Inv.made(I:Inv X LX σ H s):Inv X LX σ (upd (upd H s.heap.objs.size (.own (s.heap.objs.size+1))) (s.heap.objs.size+1) (.ins C s.heap.objs.size [])) {s with heap:=(s.heap.push emptyDict).push (instObj C s.heap.objs.size)}:=by
 have e1:(s.heap.push emptyDict).get? s.heap.objs.size=some emptyDict:=Hj s.heap rfl;have e2:((s.heap.push emptyDict).push (instObj C s.heap.objs.size)).get? (s.heap.objs.size+1)=some (instObj C s.heap.objs.size):=by have:=Hj (s.heap.push emptyDict) (o:=instObj C s.heap.objs.size) rfl;rwa[Il]at this
 have e3:(s.heap.push emptyDict).Ns s.heap.objs.size (λ_=>none):=⟨emptyDict, #[],_,e1,rfl,(λe he=>absurd he (by simp)),λ_=>rfl⟩;have I1:=I.laid (a:=s.heap.objs.size) (o:=.own (s.heap.objs.size+1)) (h':=s.heap.push emptyDict) (t':=s.toks) (λb u q=>Ha _ q) (Hu _) ⟨_,e1⟩;refine I1.laid (a:=s.heap.objs.size+1) (o:=.ins C s.heap.objs.size []) (t':=s.toks) (λb u q=>Ha _ q) (KD (Il _ _)) ?_;have ne:s.heap.objs.size≠s.heap.objs.size+1:=HW (IY _);refine⟨by rw[ai ne,aa],HJ _,ne,e2,λ_=>none,(Heap.Ns1.of_empty e3).at λo q=>Ha _ q,λ_=>True.intro,λy hy=>absurd rfl hy⟩
theorem Cb(hb:attributeBase e f env (eval e env)=eval e env)(h:wpAny (model prog w) A (eval e env) (λo s₁=>wpAny (model prog w) A (getAttr o f true) Q E s₁) E s):wpAny (model prog w) A (eval (.Attribute e f pos) env) Q E s:=
 Attribute_any_ h (by rw[arm_eval_Attribute,hb])
end
inductive E4(K:LS)(f:Str)(x:V)(H1:Hp)(Q:VK):Prop|mk{a C dx:Addr}{fs:List (Str×V)}{v:V}(_:x=.ref a)(_:H1 a=some (.ins C dx fs))(_:Cls K C/\gb K C f)(_:fs.lookup f=some v)(_:Q v H1)
def f7(K:LS)(ta:TE)(f:Str):TE:=λσ H Q=>ta σ H λx H1=>E4 K f x H1 Q
inductive DS(K:LS)(f:Str)(σ:St)(H2:Hp)(x:V)(y:V)(D:jC):Prop|mk{a:_}{C:_}{dx:_}{fs:_}(_:x=.ref a)(_:H2 a=some (.ins C dx fs))(_:Cls K C/\gb K C f)(_:Nat.blt fs.length 1000=true)(_:D.nx σ (upd H2 a (.ins C dx (cI f y fs))))
def EF(K:LS)(ta tv:TE)(f:Str):TS:=λD σ H=>tv σ H λy H1=>ta σ H1 λx H2=>DS K f σ H2 x y D
section
variable{X:Cx}{o e Mh:Expr}{f:Str}{pos MZ Mx:Pos}{ta tv:TE}
theorem oo(he:PE X e ta)(hb:attributeBase e f X.env (eval e X.env)=eval e X.env):PE X (.Attribute e f pos) (f7 X.K ta f):=by intro LX s σ H Q I h;refine Cb hb (thn (he LX s σ H _ I h) λu s1 ⟨x,H1,I1,rx,ex,ea,c,l,q⟩=>?_);subst ex;obtain rfl:u=Value.ref _:=rx;exact xG I1 ea c.1 c.2 l λu' s2 I2 ru=>⟨_,H1,I2,ru,q⟩
theorem aU(ha:PE X o ta)(hv:PE X Mh tv)(hs:swapsWith Mh (some (.Attribute o f MZ)) pos.line X.env=pure false):PS X (.Assign [.Attribute o f MZ] Mh pos) (EF X.K ta tv f):=by intro LX s σ H D I h;refine plainObj_wpAny_Assign_Attribute (thn (hv LX s σ H _ I h) λu s1 ⟨y,H1,I1,ry,q⟩=>thn (ha LX s1 σ H1 _ I1 q) λov s2 ⟨x,H2,I2,rx,ex,ea,c,l,q2⟩=>?_) hs;subst ex;obtain rfl:ov=Value.ref _:=rx;exact xp I2 ea c.1 c.2 (by simpa using l) ry λs3 I3=>⟨σ,_,I3,q2⟩
end
structure bC(k:Nat)(A:Around):Prop where
 hd:A.handled=none
 dp:A.depth+3*k+5<recursionLimit
 un:A.units+16*k+200<cLine
theorem bC.mono(r:bC k A)(h:j<=k):bC j A:=⟨r.hd,by have:=r.dp;omega,by have:=r.un;omega⟩
theorem bC.deeper(r:bC (k+1) A)(env:Env):bC k (A.deeper env):=
 ⟨r.hd,by have:=r.dp;show A.depth+1+3*k+5<_;omega,by have:=r.un;show A.units+3+16*k+200<_;omega⟩
theorem bC.in1{k:Nat}{A:Around}(r:bC (k+1) A):bC k A.in1:=
 ⟨r.hd,by have:=r.dp;show A.depth+3*k+5<_;omega,by have:=r.un;show A.units+1+16*k+200<_;omega⟩
theorem xy{A:Around}{C:Addr}{us:List Value}{kw:List (Str×Value)}:(A.under (.builtin "type.__call__" ⟨.ref C::us,kw⟩)).depth=A.depth+1:=by
 first|rfl|simp[Around.under,Code.weight,Code.isCreation,Code.isGuard,Code.isCaller,Code.frames,Code.isFrame,guardIds]
theorem xx{A:Around}{C:Addr}{us:List Value}{kw:List (Str×Value)}:(A.under (.builtin "type.__call__" ⟨.ref C::us,kw⟩)).units=A.units+1:=by
 first|rfl|simp[Around.under,Code.cUnits,Code.frames,Code.isFrame]
theorem bC.make(r:bC (k+1) A)(C:Addr)(us:List Value)(kw:List (Str×Value)):bC k (A.under (.builtin "type.__call__" ⟨.ref C::us,kw⟩)):=
 ⟨r.hd,by have:=r.dp;rw[xy];omega,by have:=r.un;rw[xx];omega⟩
theorem bC.depth(r:bC k A):A.depth<recursionLimit:=by have:=r.dp;omega
theorem bC.units(r:bC k A):A.units+64<cLine:=by have:=r.un;omega
theorem bC.units0(r:bC k A):A.units<cLine:=by have:=r.un;omega
def c9:TA:=λ_ H Q=>Q [] H
def br(ta:TE)(tr:TA):TA:=λσ H Q=>ta σ H λx H1=>tr σ H1 λxs H2=>Q (x::xs) H2
section
variable{X:Cx}{e:Expr}{es:List Expr}{te:TE}{t:TA}{pos:Pos}
theorem aq:PA X [] c9:=λ_ _ _ _ H Q I h=>JO ⟨[],H,I,.nil,h⟩
theorem ag(ha:PE X e te)(hr:PA X es t)(hs:starEach (e::es) X.env=(false,eval e X.env)::starEach es X.env:=by rfl):PA X (e::es) (br te t):=by intro pos LX s σ H Q I h;rw[hs];show wpAny _ _ (spliced ((false,eval e X.env)::backTo pos (starEach es X.env))) _ _ s;refine II (thn (ha LX s σ H _ I h) λu s1 ⟨x,H1,I1,r1,q1⟩=>?_);exact thn (hr pos LX s1 σ H1 _ I1 q1) λus s2 ⟨xs,H2,I2,r2,q2⟩=>⟨x::xs,H2,I2,.cons r1 r2,q2⟩
def EC(t:TA):TE:=λσ H Q=>t σ H λxs H1=>xs.length<=sizeLine/\∀p,H1 p=none->Q (.ref p) (upd H1 p (.tup xs))
def wI(t:TA):TE:=λσ H Q=>t σ H λxs H1=>xs.length<=sizeLine/\∀p,H1 p=none->Q (.ref p) (upd H1 p (.lst xs))
theorem xU{x1}(h:PA X es t):PE X (.Tuple es x1 pos) (EC t):=by intro LX s σ H Q I hq;refine wpAny_Tuple_spliced (thn (h pos LX s σ H _ I hq) λus s1 ⟨xs,H1,I1,r,z,q⟩=>⟨by rw[<-r.length];exact z,?_⟩);have hf:H1 s1.heap.objs.size=none:=I1.hok.fresh (Hu _);refine⟨.ref s1.heap.objs.size,upd H1 s1.heap.objs.size (.tup xs),I1.laid (t':=s1.toks) (λb u e=>Ha _ e) (Hu _) ?_,rfl,q _ hf⟩;exact⟨z,us,r,⟨_,Hj _ rfl,rfl,_,rfl⟩⟩
theorem aW(h:PA X es t):PE X (.List es pos) (wI t):=by intro LX s σ H Q I hq;refine wpAny_List_spliced (thn (h pos LX s σ H _ I hq) λus s1 ⟨xs,H1,I1,r,z,q⟩=>⟨by rw[<-r.length];exact z,?_⟩);have hf:H1 s1.heap.objs.size=none:=I1.hok.fresh (Hu _);refine⟨.ref s1.heap.objs.size,upd H1 s1.heap.objs.size (.lst xs),I1.laid (t':=s1.toks) (λb u e=>Ha _ e) (Hu _) ?_,rfl,q _ hf⟩;exact⟨z,us,0,r,Hj _ rfl⟩
end
abbrev Sp:=List V->Hp->VK->XK->Prop
abbrev CXT:=List Env->Hp->Shared->XK->Value->Shared->Prop
structure ij(P:Program)(w:World)(K:LS)(mg:Str->Option Value)(base:Heap)(A:Around)(outer:List Env)(s:Shared)(H:Hp):Prop where
 frames:A.frames=some outer
 mod:Mod K mg base
 bs:∀b o,base.get? b=some o->s.heap.get? b=some o/\H b=none
 bsz:base.objs.size<=s.heap.objs.size
 funs:s.heap.FunFrames base outer
 frf:∀b∈frs outer,H b=none
 hok:HOk P w H s.heap
 bare:AllBare s.gens
def CE(outer:List Env)(P:Program)(w:World)(H:Hp)(s:Shared)(Q:VK)(u:Value)(s':Shared):Prop:=
 ∃v H',s'.os=s.os/\AllBare s'.gens/\Un (frs outer) [] H H' s.heap s'.heap/\HOk P w H' s'.heap/\aR v u/\Q v H'
def CR(CX:CXT)(outer:List Env)(P:Program)(w:World)(H:Hp)(s:Shared)(Q:VK)(E:XK)(r:Result)(s':Shared):Prop:=
 match r with
 | .ok (.ret u)=>CE outer P w H s Q u s'
 | .ok _=>False
 | .error e=>CX outer H s E e s'
structure dE(P:Program)(w:World)(K:LS)(mg:Str->Option Value)(base:Heap)(CX:CXT)(k:Nat)(f:Addr)(fd:FuncData)(ps:List Str)(sp:Sp):Prop where
 len:∀vs H Q E,sp vs H Q E->vs.length=ps.length
 run:∀(A:Around)(outer:List Env)(s:Shared)(H:Hp)(args:Args)(us:List Value)(vs:List V)(Q:VK)(E:XK),bC k A->ij P w K mg base A outer s H->BindsTo s fd args (ps.zip us)->aC vs us->sp vs H Q E->
  codeAny (model P w) A (.call (.ref f) args) (CR CX outer P w H s Q E) s
theorem dE.mono{P:Program}{w:World}{K:LS}{mg:Str->Option Value}{base:Heap}{CX:CXT}{j k:Nat}{f:Addr}{fd:FuncData}{ps:List Str}{sp:Sp}(F:dE P w K mg base CX j f fd ps sp)(h:j<=k):dE P w K mg base CX k f fd ps sp:=⟨F.len,λA outer s H args us vs Q E hr=>F.run A outer s H args us vs Q E (hr.mono h)⟩
theorem dE.imp{P:Program}{w:World}{K:LS}{mg:Str->Option Value}{base:Heap}{CX:CXT}{k:Nat}{f:Addr}{fd:FuncData}{ps:List Str}{sp sp':Sp}(F:dE P w K mg base CX k f fd ps sp)(h:∀vs H Q E,sp' vs H Q E->sp vs H Q E):dE P w K mg base CX k f fd ps sp':=
 ⟨λvs H Q E q=>F.len vs H Q E (h _ _ _ _ q),λA outer s H args us vs Q E hr he hb hv hs=>F.run A outer s H args us vs Q E hr he hb hv (h _ _ _ _ hs)⟩
theorem ij.make{P:Program}{w:World}{K:LS}{mg:Str->Option Value}{base:Heap}{A:Around}{outer:List Env}{s:Shared}{H:Hp}(e:ij P w K mg base A outer s H)(C:Addr)(us:List Value)(kw:List (Str×Value)):ij P w K mg base (A.under (.builtin "type.__call__" ⟨.ref C::us,kw⟩)) outer s H:=⟨by first|exact e.frames|(simpa[Around.under,Code.envs,Code.isFrame,pushEnvs]using e.frames),e.mod,e.bs,e.bsz,e.funs,e.frf,e.hok,e.bare⟩
theorem ij.in1{P:Program}{w:World}{K:LS}{mg:Str->Option Value}{base:Heap}{A:Around}{outer:List Env}{s:Shared}{H:Hp}(e:ij P w K mg base A outer s H):ij P w K mg base A.in1 outer s H:=⟨e.frames,e.mod,e.bs,e.bsz,e.funs,e.frf,e.hok,e.bare⟩
section
variable{X:Cx}{LX:List (Addr×Obj)}{σ:St}{H:Hp}{s s':Shared}
theorem Inv.env0(I:Inv X LX σ H s):ij X.prog X.w X.K X.mg X.base X.A X.stack s H:=
 ⟨I.ok.frames,I.ok.mod,I.bs,Hv I.ok.bsz I.sz,I.stack,I.stkFree,I.hok,I.bare⟩
theorem Inv.after(I:Inv X LX σ H s)(h:CE X.stack X.prog X.w H s Q u s'):EP X LX σ Q u s':=by obtain⟨v,H',os,bare,un,hok,r,q⟩:=h;obtain⟨hh,g,d,t,os'⟩:=s';obtain rfl:os'=s.os:=os;exact⟨v,H',I.call (h':=hh) (g':=g) (d':=d) (t':=t) (ch:=[]) un hok bare (λb z=>absurd z (by simp)),r,q⟩
end
def g4(sp:Sp)(ND:List V)(E:XK)(t:TA):TE:=λσ H Q=>t σ H λvs H1=>sp (vs++ND) H1 Q E
def r6(C:Addr)(sp:Sp)(ND:List V)(E:XK)(t:TA):TE:=λσ H Q=>t σ H λvs H1=>∀x dx,H1 x=none->H1 dx=none->dx≠x->
 sp (.ref x::(vs++ND)) (upd (upd H1 dx (.own x)) x (.ins C dx [])) (λv H2=>v=.non/\Q (.ref x) H2) E
def dJ(K:LS)(fd:FuncData)(ps:List Str)(ds:List Value):Prop:=
 ∀(s:Shared)(us:List Value),K.In s.heap->(us++ds).length=ps.length->BindsTo s fd ⟨us,[]⟩ (ps.zip (us++ds))
theorem dJ.all{K:LS}{fd:FuncData}{ps:List Str}(h:∀us:List Value,us.length=ps.length->bindArgs fd ⟨us,[]⟩=pure (ps.zip us)):dJ K fd ps []:=λs us _ hl=>by rw[IU]at hl⊢;exact .of_eq (h us hl)
def ji(CX:CXT)(X:Cx)(E:XK):Prop:=∀(LX:List (Addr×Obj))(σ:St)(H:Hp)(s:Shared)(e:Value)(s':Shared),Inv X LX σ H s->CX X.stack H s E e s'->X.xe e s'
section
variable{X:Cx}{CX:CXT}{k:Nat}{f C:Addr}{fd:FuncData}{ps:List Str}{sp:Sp}{ND:List V}{ds:List Value}{E:XK}{x m:Str}{p pos Mc:Pos}{e o:Expr}{es:List Expr}{ta:TE}{t:TA}
theorem xS(F:dE X.prog X.w X.K X.mg X.base CX k f fd ps sp)(hr:bC k X.A)(hb:dJ X.K fd ps ds)(hd:aC ND ds)(hx:ji CX X E)(I:Inv X LX σ H s) (r:aC vs us) (h:sp (vs++ND) H Q E):wpAny (model X.prog X.w) X.A (call (.ref f) us) (EP X LX σ Q) X.xe s:=by
 have r2:aC (vs++ND) (us++ds):=r.append hd;have hl:(us++ds).length=ps.length:=by rw[<-r2.length];exact F.len _ _ _ _ h
 refine wpAny_call (Jb (F.run X.A X.stack s H ⟨us,[]⟩ (us++ds) (vs++ND) Q E hr I.env0 (hb s us I.kIn hl) r2 h) λr s' hq=>?_);cases r with
 |error e=>exact hx LX σ H s e s' I hq
 |ok fl=>
  cases fl with
  |ret u=>exact I.after hq
  |next=>exact False.elim hq
  |brk=>exact False.elim hq
  |cont=>exact False.elim hq
theorem BG(F:dE X.prog X.w X.K X.mg X.base CX k f fd ps sp)(hr:bC k X.A)(hg:Gl X x)(hm:X.mg x=some (.ref f))(hk:keepIn X.K (.ref f)=true)(hb:dJ X.K fd ps ds)(hd:aC ND ds)(hx:ji CX X E)(ha:PA X (e::es) t) (NE:(x==("__debug__":Str))=false:=by decide) (he:starEach (e::es) X.env=(false,eval e X.env)::starEach es X.env:=by rfl) (Ms:(backTo pos (starEach es X.env)).any (·.1)=false:=by rfl):PE X (.Call (.Name x p) (e::es) [] pos) (g4 sp ND E t):=by intro LX s σ H Q I h;refine IW (ml I hg hm ?_ NE);refine callWith_K (h₀:=X.base) I.ok.mod.kin hk (thn (ha pos LX s σ H _ I h) λus s1 ⟨vs,H1,I1,r,q⟩=>⟨I1.kIn,?_⟩) he Ms;exact xS F hr hb hd hx I1 r q
structure Mk(K:LS)(C f:Addr):Prop where
 makes:makesIn K C=true
 init:PySem.W.findIn K (.ref C) "__init__"=some (some (.ref f))
 fn:isFn K (.ref f)=true
 kp:keepIn K (.ref C)=true
theorem sX(M:Mk X.K C f)(F:dE X.prog X.w X.K X.mg X.base CX k f fd ps sp)(hr:bC (k+1) X.A)(hb:dJ X.K fd ps ds)(hd:aC ND ds)(hx:ji CX X E) (I:Inv X LX σ H s) (r:aC vs us)(h:∀x dx,H x=none->H dx=none->dx≠x->sp (.ref x::(vs++ND)) (upd (upd H dx (.own x)) x (.ins C dx [])) (λv H2=>v=.non/\Q (.ref x) H2) E):wpAny (model X.prog X.w) X.A (call (.ref C) us) (EP X LX σ Q) X.xe s:=by
 have hq:=h (s.heap.objs.size+1) s.heap.objs.size (I.hok.fresh (Lv _)) (I.hok.fresh (Hu _)) (HW (IY _));have I2:=Inv.made (C:=C) I;have r2:aC (V.ref (s.heap.objs.size+1)::(vs++ND)) (Value.ref (s.heap.objs.size+1)::(us++ds)):=.cons rfl (r.append hd);have hl:(Value.ref (s.heap.objs.size+1)::us++ds).length=ps.length:=by have e:=r2.length;rw[F.len _ _ _ _ hq]at e;exact e.symm
 refine wpAny_call (Aj (f:=f) I.kIn M.makes M.init (IX.mp M.fn) (Jb (F.run _ X.stack _ _ ⟨Value.ref (s.heap.objs.size+1)::us,[]⟩ (Value.ref (s.heap.objs.size+1)::(us++ds)) _ _ E (hr.make C us [])
  (I2.env0.make C us []) (hb _ (Value.ref (s.heap.objs.size+1)::us) I2.kIn hl) r2 hq) λr s' OE=>?_))
 cases r with
 |error e=>exact hx LX σ _ _ e s' I2 OE
 |ok fl=>
  cases fl with
  |ret u=>obtain⟨v,H',I3,rv,ev,q3⟩:=I2.after OE;subst ev;exact⟨rv,⟨V.ref (s.heap.objs.size+1),H',I3,rfl,q3⟩⟩
  |next=>exact False.elim OE
  |brk=>exact False.elim OE
  |cont=>exact False.elim OE
theorem BF(M:Mk X.K C f)(F:dE X.prog X.w X.K X.mg X.base CX k f fd ps sp)(hr:bC (k+1) X.A)(hg:Gl X x)(hm:X.mg x=some (.ref C))(hb:dJ X.K fd ps ds)(hd:aC ND ds)(hx:ji CX X E)(ha:PA X (e::es) t) (NE:(x==("__debug__":Str))=false:=by decide) (he:starEach (e::es) X.env=(false,eval e X.env)::starEach es X.env:=by rfl) (Ms:(backTo pos (starEach es X.env)).any (·.1)=false:=by rfl):PE X (.Call (.Name x p) (e::es) [] pos) (r6 C sp ND E t):=by intro LX s σ H Q I h;refine IW (ml I hg hm ?_ NE);refine callWith_K (h₀:=X.base) I.ok.mod.kin M.kp (thn (ha pos LX s σ H _ I h) λus s1 ⟨vs,H1,I1,r,q⟩=>⟨I1.kIn,?_⟩) he Ms;exact sX M F hr hb hd hx I1 r q
theorem Ad(M:Mk X.K C f)(F:dE X.prog X.w X.K X.mg X.base CX k f fd ps sp)(hr:bC (k+1) X.A)(hg:Gl X x)(hm:X.mg x=some (.ref C))(hb:dJ X.K fd ps ds)(hd:aC ND ds)(hx:ji CX X E)(NE:(x==("__debug__":Str))=false:=by decide):PE X (.Call (.Name x p) [] [] pos) (r6 C sp ND E c9):=by intro LX s σ H Q I h;refine IW (ml I hg hm ?_ NE);exact PySem.W.callWith_K0 I.kIn M.kp (sX (us:=[]) M F hr hb hd hx I .nil h)
end
def PK(X:Cx)(kws:List Keyword)(t:TA):Prop:=
 ∀(pos:Pos)(LX:List (Addr×Obj))(s:Shared)(σ:St)(H:Hp)(Q:List V->Hp->Prop),Inv X LX σ H s->t σ H Q->wpAny (model X.prog X.w) X.A (evalAll ((backToKw pos (keywordEach kws X.env)).map (·.2))) (AP X LX σ Q) X.xe s
section
variable{X:Cx}{CX:CXT}{k:Nat}{f C:Addr}{fd:FuncData}{ps ks:List Str}{sp:Sp}{E:XK}{x m:Str}{p pos Mc kpos:Pos}{e o:Expr}{es:List Expr}{kws:List Keyword}{te ta:TE}{t tk:TA}{nm:Option Str}
theorem C8:PK X [] c9:=λ_ _ _ _ H Q I h=>wpAny_evalAll_nil ⟨[],H,I,.nil,h⟩
theorem BC(ha:PE X e te)(hr:PK X kws t):PK X (⟨nm,e,kpos⟩::kws) (br te t):=by intro pos LX s σ H Q I h;show wpAny _ _ (evalAll ((do let v<-eval e X.env;standAt pos;pure v)::(backToKw pos (keywordEach kws X.env)).map (·.2))) _ _ s;refine wpAny_evalAll_cons (G7 (thn (ha LX s σ H _ I h) λu s1 ⟨x,H1,I1,r1,q1⟩=>G7 (wpAny_standAt (G_ ?_))));exact thn (hr pos LX s1 σ H1 _ I1 q1) λus s2 ⟨xs,H2,I2,r2,q2⟩=>⟨x::xs,H2,I2,.cons r1 r2,q2⟩
variable{g:List Value->List Value->List Value}{gV:List V->List V->List V}
end
structure dk(N P:List Str)(sc:Scope):Prop where
 kind:sc.kind=.function
 co:sc.isCoroutine=false
 gen:sc.isGenerator=false
 nd:N.Nodup
 pre:N.take P.length=P
 par:∀x∈P,sc.names.lookup x=some .local\/sc.names.lookup x=some .cell
 nofree:∀y∈sc.names,y.2≠ .free
theorem re{kindOf:Str->Option NameKind}{x:Str}:∀{binds:List (Str×Value)}{m:Str->Option Value},(∀v,(x,v)∉binds)->bindL kindOf binds m x=m x
 |[],_,_=>rfl
 |(n,v)::r,m,h=>by
  unfold bindL;rw[re λw hw=>h w (Hh _ hw)];split
  .have:x≠n:=by rintro rfl;exact h v Hk
   simp[this]
  .rfl
theorem rg{kindOf:Str->Option NameKind}{x:Str}:∀{binds:List (Str×Value)}{m:Str->Option Value},(∀v,(x,v)∉binds)->bindC kindOf binds m x=m x
 |[],_,_=>rfl
 |(n,v)::r,m,h=>by
  unfold bindC;rw[rg λw hw=>h w (Hh _ hw)];split
  .rfl
  .have:x≠n:=by rintro rfl;exact h v Hk
   simp[this]
theorem rf{kindOf:Str->Option NameKind}{x:Str}{v:Value}:∀{P:List Str}{vs:List Value}{i:Nat}{m:Str->Option Value},P.Nodup->P[i]?=some x->vs[i]?=some v->kindOf x=some .local->bindL kindOf (P.zip vs) m x=some v
 |[],_,_,_,_,h,_,_=>by simp at h
 |_::_,[],_,_,_,_,h,_=>by simp at h
 |p::P,w::vs,0,m,nd,h1,h2,hk=>by simp at h1 h2;subst h1;subst h2;show bindL kindOf ((p,w)::P.zip vs) m p=_;unfold bindL;rw[re λv hv=>(Ik.mp nd).1 (of_mem_zip hv).1,Hc hk];simp
 |p::P,w::vs,i+1,m,nd,h1,h2,hk=>by show bindL kindOf ((p,w)::P.zip vs) m x=_;unfold bindL;exact rf (i:=i) (Ik.mp nd).2 (by simpa using h1) (by simpa using h2) hk
theorem rh{kindOf:Str->Option NameKind}{x:Str}{v:Value}:∀{P:List Str}{vs:List Value}{i:Nat}{m:Str->Option Value},P.Nodup->P[i]?=some x->vs[i]?=some v->kindOf x≠some .local->bindC kindOf (P.zip vs) m x=some v
 |[],_,_,_,_,h,_,_=>by simp at h
 |_::_,[],_,_,_,_,h,_=>by simp at h
 |p::P,w::vs,0,m,nd,h1,h2,hk=>by simp at h1 h2;subst h1;subst h2;show bindC kindOf ((p,w)::P.zip vs) m p=_;unfold bindC;rw[rg λv hv=>(Ik.mp nd).1 (of_mem_zip hv).1,G9 hk];simp
 |p::P,w::vs,i+1,m,nd,h1,h2,hk=>by show bindC kindOf ((p,w)::P.zip vs) m x=_;unfold bindC;exact rh (i:=i) (Ik.mp nd).2 (by simpa using h1) (by simpa using h2) hk
def start(N:List Str)(vs:List V):St:=vs.map some++List.replicate (N.length-vs.length) none
noncomputable def fc(CX:CXT)(P:Program)(w:World)(K:LS)(mg:Str->Option Value)(base:Heap)(N:List Str)(L0:Str)(scope:Scope)(f:Addr)(cd:Value)(A:Around)(outer:List Env)(s:Shared)(H:Hp)(E:XK):Cx where
 prog:=P
 w:=w
 K:=K
 mg:=mg
 base:=base
 A:=A.deeper (envOfC L0 scope s.heap.objs.size f cd)
 N:=N
 s_0:=s
 H_0:=H
 env:=envOfC L0 scope s.heap.objs.size f cd
 outer:=outer
 stack:=envOfC L0 scope s.heap.objs.size f cd::outer
 ex:=[]
 calm:=true
 fn:=λ_=>true
 pn:=[]
 xe:=λe s'=>wpAny (model P w) (A.deeper (envOfC L0 scope s.heap.objs.size f cd)) (leaving (envOfC L0 scope s.heap.objs.size f cd) e) (λ_ O4=>CX outer H s E e O4) (λe' O4=>CX outer H s E e' O4) s'
theorem uf{sc:Scope}{n:Nat}{x:Str}(h:sc.names.lookup x=some .cell):∃c,(cellsFrom n sc.names []).lookup x=some c:=by have q:=LJ sc.names n [] (.inl h);exact Lp.mp q
theorem yX{CX:CXT}{P:Program}{w:World}{K:LS}{mg:Str->Option Value}{base:Heap}{N ps:List Str}{L0:Str}{scope:Scope}{f:Addr}{cd:Value}{A:Around}{outer:List Env}{s s1:Shared}{H:Hp}{E:XK}{us:List Value}{vs:List V} (S:dk N ps scope) (hd:A.handled=none) (e0:ij P w K mg base A outer s H) (hl:vs.length=ps.length) (r:aC vs us)(x:InCallC s s.heap.objs.size (bindL (envOfC L0 scope s.heap.objs.size f cd).kindOf (ps.zip us) λ_=>none) (cellsFrom (s.heap.objs.size+1) scope.names []) (bindC (envOfC L0 scope s.heap.objs.size f cd).kindOf (ps.zip us) λ_=>none) s1):Inv (fc CX P w K mg base N L0 scope f cd A outer s H E) [] (start N vs) H s1:=by
 have Ms:ps.length<=N.length:=by have:=HU length S.pre;rw[Iv]at this;omega
 obtain⟨h1,tk,rfl,hk⟩:=x.done;have noA:∀b:Addr,b∉(fc CX P w K mg base N L0 scope f cd A outer s H E).ex:=λb z=>absurd (show b∈([]:List Addr)from z) (by simp)
 refine⟨⟨e0.mod,S.kind,rfl,rfl,Hu _,λy z c h1 h2=>?_,λy hy=>?_,λy c _ h=>?_,λ_=>hd,Around.frames_deeper e0.frames,.inr ⟨rfl,rfl⟩,λb z=>absurd z (noA b),e0.bs,e0.bsz,λb _ _=>noA b,λb z=>absurd z (noA b),e0.funs,e0.frf⟩,
  rfl,e0.bare,Un.kept hk,⟨_,x.toInCall.ns,λi y v h1 h2 h3=>?_⟩,λy c h=>⟨_,x.cell y c h⟩,e0.hok.fresh (Hu _),λy c h=>?_,λp hp=>absurd (show p∈([]:List (Addr×Obj))from hp) (by simp),e0.hok.kept hk,?_⟩
 .exact name_of_addr x.apart (HN h1) (HN h2)
 .have hy:scope.names.lookup y=some .cell\/scope.names.lookup y=some .free:=hy;rcases hy with hy|hy
  .exact uf hy
  .exact absurd rfl (S.nofree _ (HN hy))
 .exact Js (x.above y c (HN h))
 .have hi:i<vs.length:=by
   unfold start at h2;by_cases hi:i<vs.length
   .exact hi
   .rw[JW (by simpa using hi)]at h2;rw[List.getElem?_replicate]at h2;split at h2<;>cases h2
  have ha:vs[i]?=some v:=by
   unfold start at h2;rw[J1 (by simpa using hi),Hd]at h2;cases e:vs[i]? with
   |none=>rw[e]at h2;cases h2
   |some a=>rw[e]at h2;cases h2;rfl
  obtain⟨u,hu,rv⟩:=r.get ha;have hp:ps[i]?=some y:=by rw[<-S.pre,Lo (by omega)];exact h1
  have ndP:ps.Nodup:=by rw[<-S.pre];exact S.nd.sublist (take_sublist _ _)
  refine⟨u,rv,?_⟩;rcases S.par y (Hl hp)with k|k
  .exact .inl ⟨k,rf ndP hp hu k⟩
  .obtain⟨c,e⟩:=uf (n:=s.heap.objs.size+1) k;refine .inr ⟨.inl k,c,e,?_⟩;have q:=x.cell y c e;rw[rh ndP hp hu (by show scope.names.lookup y≠_;rw[k];decide)]at q;exact q
 .exact e0.hok.fresh (Js (x.above y c (HN h)))
 .unfold start;show _=N.length;rw[Hx,G8,List.length_replicate];omega
theorem Ew{CX:CXT}{P:Program}{w:World}{K:LS}{mg:Str->Option Value}{base:Heap}{k:Nat}{f:Addr}{name L0:Str}{params:Arguments}{body:List Stmt}{scope:Scope}{dV kV L8 pm L1 ct oc:Value}{an od:Option Addr} {NY:Array (Option Value)} {N ps:List Str} {sp:Sp} (lk:K.lookup f=some ⟨oc,od,.func (fnOf name L0 params body scope dV kV L8 pm an L1 ct),NY⟩) (hcd:codeIn K L1 L0=true) (S:dk N ps scope)(len:∀vs H Q E,sp vs H Q E->vs.length=ps.length)(My:∀(A:Around)(outer:List Env)(s:Shared)(H:Hp)(vs:List V)(Q:VK)(E:XK),bC k (A.deeper (envOfC L0 scope s.heap.objs.size f L1))->sp vs H Q E->∃t,PSs (fc CX P w K mg base N L0 scope f L1 A outer s H E) body t/\t {nx:=λ_ H'=>Q .non H',rt:=Q} (start N vs) H):dE P w K mg base CX (k+1) f (fnOf name L0 params body scope dV kV L8 pm an L1 ct) ps sp:=by
 refine⟨len,λA outer s H args us vs Q E hr e0 hb r Ox=>?_⟩;have hl:=len _ _ _ _ Ox;have KX:K.In s.heap:=e0.mod.kin.keeps λb o e=>(e0.bs b o e).1;have lim:s.heap.NoLimit:=e0.mod.nolimit.keeps λb o e=>(e0.bs b o e).1;have hkind:∀y∈ps.zip us,scope.names.lookup y.1=some .local\/(scope.names.lookup y.1=some .cell/\((cellsFrom (s.heap.objs.size+1) scope.names []).lookup y.1).isSome=true):=λ⟨n,v⟩ hy=>by
  rcases S.par n (of_mem_zip hy).1 with q|q
  .exact .inl q
  .exact .inr ⟨q,LJ _ _ _ (.inl q)⟩
 refine codeAny_call_function hr.depth (KX _ _ lk) rfl S.co S.gen rfl (PySem.W.codeRec_of KX hcd) (hb _ _ _ _ ?_);refine wpAny_newFunctionEnv_cells S.kind hkind λenv he s1 x=>?_;subst he;refine⟨lim.keeps x.toInCall.keep,codeAny_func ?_⟩;obtain⟨t,ht,hq⟩:=My A outer s H vs Q E (hr.deeper _) Ox;have I:Inv (fc CX P w K mg base N L0 scope f L1 A outer s H E) [] (start N vs) H s1:=yX S hr.hd e0 hl r x;refine Iq (ht [] s1 (start N vs) H _ I hq) (λfl s' hs=>?_) λe s' hs=>hs;have fin:∀{σ':St}{H':Hp}{v:V}{u:Value},Inv (fc CX P w K mg base N L0 scope f L1 A outer s H E) [] σ' H' s'->aR v u->Q v H'->CE outer P w H s Q u s':=
  λ{σ' H' v u} J rv q=>⟨v,H',J.os,J.bare,J.base,J.hok,rv,q⟩
 cases fl with
 |ret u=>obtain⟨v,σ',H',J,rv,q⟩:=hs;exact fin J rv q
 |next=>obtain⟨σ',H',J,q⟩:=hs;exact fin (v:=V.non) (u:=Value.none) J rfl q
 |brk=>obtain⟨_,_,_,q⟩:=hs;exact False.elim q
 |cont=>obtain⟨_,_,_,q⟩:=hs;exact False.elim q
section
variable{X:Cx}{x:Str}{p pos:Pos}{e:Expr}{es:List Expr}{t:TA}{id T:String}{r:List V->Hp->VK->Prop}
def tCB(r:List V->Hp->VK->Prop)(t:TA):TE:=λσ H Q=>t σ H λvs H1=>r vs H1 Q
theorem aK(hc:eK X (.builtin id) r)(hg:Gl X x)(hm:X.mg x=none)(hv:bootBuiltins x=some (.builtin id))(ha:PA X (e::es) t)(hn:x≠"__name__":=by decide)(NE:(x==("__debug__":Str))=false:=by decide)(he:starEach (e::es) X.env=(false,eval e X.env)::starEach es X.env:=by rfl) (Ms:(backTo pos (starEach es X.env)).any (·.1)=false:=by rfl):PE X (.Call (.Name x p) (e::es) [] pos) (tCB r t):=by intro LX s σ H Q I h;refine IW (gM I hg hm hv ?_ hn NE);exact PyProof.Rows.callWith_builtin1 (thn (ha pos LX s σ H _ I h) λus s1 ⟨vs,H1,I1,r1,q1⟩=>hc LX s1 σ H1 vs us Q I1 r1 q1) he Ms
theorem fX(hc:eK X (.type T) r)(hg:Gl X x)(hm:X.mg x=none)(hv:bootBuiltins x=some (.type T))(ha:PA X (e::es) t)(hn:x≠"__name__":=by decide)(NE:(x==("__debug__":Str))=false:=by decide)(he:starEach (e::es) X.env=(false,eval e X.env)::starEach es X.env:=by rfl) (Ms:(backTo pos (starEach es X.env)).any (·.1)=false:=by rfl):PE X (.Call (.Name x p) (e::es) [] pos) (tCB r t):=by intro LX s σ H Q I h;refine IW (gM I hg hm hv ?_ hn NE);exact Iy (thn (ha pos LX s σ H _ I h) λus s1 ⟨vs,H1,I1,r1,q1⟩=>hc LX s1 σ H1 vs us Q I1 r1 q1) he Ms
end
end L2
namespace HT
open PySem PyProof.Rows
def lexLt:List Int->List Int->Bool
 |[],[]=>false
 |[],_::_=>true
 |_::_,[]=>false
 |x::xs,y::ys=>if x=y then lexLt xs ys else decide (x<y)
theorem lexLt_cons(x y:Int)(xs ys:List Int):lexLt (x::xs) (y::ys)=if x=y then lexLt xs ys else decide (x<y):=rfl
theorem lexLt_nil_nil:lexLt [] []=false:=rfl
theorem lexLt_nil_cons(y:Int)(ys:List Int):lexLt [] (y::ys)=true:=rfl
theorem lexLt_cons_nil(x:Int)(xs:List Int):lexLt (x::xs) []=false:=rfl
theorem eqAt_int(A:Around)(s:Shared)(a:Int)(t:Tok)(c:Int)(u:Tok):∃e,SeqAt.EqAt A s (.int a t) (.int c u) e/\(e=true↔a=c):=
 ⟨(a==c),SeqAt.EqAt.int_int a t c u,by simp⟩
theorem zZ(A:Around)(s:Shared)(a:Int)(t:Tok)(c:Int)(u:Tok)(prog:Program)(w:World)(E:Value->Shared->Prop)(Q:Value->Shared->Prop)(h:Q (.bool (decide (a<c))) s):wpAny (model prog w) A (richCompare .Lt (.int a t) (.int c u)) Q E s:=
 (PyProof.Rows.lt_int h:wpAny (model prog w) A (compareOp .Lt (.int a t) (.int c u)) Q E s)
section
open PySem.SeqAt
open PySem.AutoSeq1 (wpAny_loadPart')
open PySem.MeetsSeq PySem.MeetsSeq2 PySem.MeetsSeq3
theorem rn(l b:Addr)(items Mt:Array Value)(n n2:Nat)(dd dd2:Option Addr)(sl sl2:Array (Option Value))(ns ms:List Int)(hi:IntsAre items.toList ns)(hj:IntsAre Mt.toList ms):Meets (Builtin.«tuple.__lt__» ⟨[.ref l,.ref b],[]⟩) (λ_ R s=>s.heap.get? l=some {cls:=.type "tuple",dict:=dd,data:=.seq items n,slots:=sl}/\s.heap.get? b=some {cls:=.type "tuple",dict:=dd2,data:=.seq Mt n2,slots:=sl2}/\ R (.ok (.ret (.bool (lexLt ns ms)))) s):=
 .of_wp λprog w A R s h=>by
  obtain⟨hp,g,d,tk,os⟩:=s;obtain⟨hl,hb,h⟩:=h;have f2:=AutoSeq1.sub_tuple_tuple;have z1:items.size=ns.length:=by rw[<-hi.length];simp
  have z2:Mt.size=ms.length:=by rw[<-hj.length];simp
  wp_walk using wpAny_loadPart' hl,wpAny_loadPart' hb,wpAny_forIn_list _ (λrest b s'=>b.1=none/\s'=⟨hp,g,d,tk,os⟩/\∃(vs ws:List Value)(ns' O5:List Int),rest=vs.zip ws/\
   IntsAre vs ns'/\IntsAre ws O5/\ns'.length+Mt.size=O5.length+items.size/\R (.ok (.ret (.bool (lexLt ns' O5)))) ⟨hp,g,d,tk,os⟩) _
  case turn=>
   rintro⟨y,x⟩ rest b s' ⟨MW,rfl,vs,ws,ns',O5,hz,hvi,Pg,L3,hR⟩;cases hvi with
   |nil=>rw[List.zip_nil_left]at hz;cases hz
   |cons a t hvi'=>
    cases Pg with
    |nil=>rw[List.zip_nil_right]at hz;cases hz
    |cons c u hwi'=>
     rw[IJ]at hz;injection hz with hyx hrest;injection hyx with hy hx;subst hy hx;rw[lexLt_cons]at hR;simp only[length_cons]at L3;obtain⟨e,he,hiff⟩:=eqAt_int A.in1 ⟨hp,g,d,tk,os⟩ a t c u;refine G7 (he prog w _ _ ?_);cases e with
     |true=>
      rw[Hc (hiff.mp rfl)]at hR
      wp_walk
      exact⟨rfl,rfl,_,_,_,_,hrest,hvi',hwi',by omega,hR⟩
     |false=>
      rw[G9 (λq=>absurd (hiff.mpr q) Hm)]at hR;have hri:=zZ A.in1 ⟨hp,g,d,tk,os⟩ a t c u prog w
      wp_walk using hri
      exact⟨_,rfl,by simpa using hR⟩
  case fin=>
   rintro⟨b1,b2⟩ s' ⟨MW,rfl,vs,ws,ns',O5,hz,hvi,Pg,L3,hR⟩;simp only at MW;subst MW;have hv:lexLt ns' O5=decide (items.size<Mt.size):=by
    cases hvi with
    |nil=>
     cases Pg with
     |nil=>simp only[length_nil]at L3;rw[lexLt_nil_nil];exact(Hw (by omega)).symm
     |cons c u hw=>simp only[length_nil,length_cons]at L3;rw[lexLt_nil_cons];exact(He (by omega)).symm
    |cons a t hv=>
     cases Pg with
     |nil=>simp only[length_nil,length_cons]at L3;rw[lexLt_cons_nil];exact(Hw (by omega)).symm
     |cons c u hw=>rw[IJ]at hz;cases hz
   rw[hv]at hR
   wp_walk
   exact⟨_,rfl,by simpa[Builtin.Tuple.tupleCompareSizes]using hR⟩
  case h=>
   exact⟨rfl,rfl,items.toList,Mt.toList,ns,ms,rfl,hi,hj,by omega,h⟩
end
section
variable{prog:Program}{w:World}{A:Around}{E:Value->Shared->Prop}{s:Shared}
theorem lt_tupInts(hl:IsTup s.heap l items)(hb:IsTup s.heap b Mt)(hi:IntsAre items.toList ns)(hj:IntsAre Mt.toList ms)(hu:A.units<cLine) (h:Q (.bool (lexLt ns ms)) s):wpAny (model prog w) A (compareOp .Lt (.ref l) (.ref b)) Q E s:=by
 obtain⟨⟨cls,dd,data,sl⟩,ho,hc,n,hd⟩:=id hl;obtain⟨⟨cls2,dd2,data2,sl2⟩,ho2,Ph,n2,hd2⟩:=id hb;simp only at hc hd Ph hd2;subst hc hd Ph hd2;exact richCompare_meets_room (op:=.Lt) ⟨_,ho,rfl⟩ ⟨_,ho2,rfl⟩ PySem.F.slot_tuple_lt PySem.F.entry_tuple_lt (PySem.F.args_tuple_lt_2 _ _) (rn l b items Mt n n2 dd dd2 sl sl2 ns ms hi hj)
  ⟨ho,ho2,show Value.bool (lexLt ns ms)≠Value.notImplemented/\Q (.bool (lexLt ns ms)) s from⟨(λx=>nomatch x),h⟩⟩ hu
def sIx(n d:Nat):Option Int->Nat
 |none=>d
 |some v=>if v<0 then(v+(n:Int)).toNat else min v.toNat n
theorem sIx_nat(n d k:Nat):sIx n d (some (k:Int))=min k n:=by show(if(k:Int)<0 then((k:Int)+(n:Int)).toNat else min (k:Int).toNat n)=min k n;rw[G9 (by omega),JB]
end
end HT
namespace L2
open PySem PySem.Spec PyProof.Rows
abbrev TO:=St->Hp->(Option Int->Hp->Prop)->Prop
def PO(X:Cx)(e:Option Expr)(t:TO):Prop:=
 ∀(LX:List (Addr×Obj))(s:Shared)(σ:St)(H:Hp)(Q:Option Int->Hp->Prop),Inv X LX σ H s->t σ H Q->
  wpAny (model X.prog X.w) X.A (evalPart e X.env) (λu s'=>∃o H',Inv X LX σ H' s'/\IsPart u o/\Q o H') X.xe s
inductive Cj(H1:Hp)(x:V)(Q:Option Int->Hp->Prop):Prop|mk(i:_)(_:x=.int i)(_:Q (some i) H1)
def Ec(t:TE):TO:=λσ H Q=>t σ H λx H1=>Cj H1 x Q
theorem hU:∀{us:List Value},aC (ns.map V.int) us->IntsAre us ns:=by
 induction ns with
 |nil=>intro us r;rw[Kc]at r;cases r;exact .nil
 |cons n ns ih=>
  intro us r;rw[Hf]at r;cases r with
  |cons r1 r2=>obtain⟨t,e⟩:=r1;subst e;exact .cons n t (ih r2)
section
variable{X:Cx}{e:Expr}{te:TE}{lo hi:Option Expr}{tl th:TO}{pos p2:Pos}
theorem ib(h:PE X e te):PO X (some e) (Ec te):=by intro LX s σ H Q I hw;rw[evalPart_some];refine thn (h LX s σ H _ I hw) λu s1 ⟨x,H1,I1,r1,q1⟩=>?_;obtain⟨i,rfl,q⟩:=q1;obtain⟨t,rfl⟩:=r1;exact⟨some i,H1,I1,.int i t,q⟩
def SlR(X:Cx)(r:V->Option Int->Option Int->Hp->VK->Prop):Prop:=
 ∀(LX:List (Addr×Obj))(s:Shared)(σ:St)(H:Hp)(x:V)(v vl vu:Value)(lo hi:Option Int)(sl:Addr)(Q:VK),Inv X LX σ H s->aR x v->s.heap.IsSliceOf sl vl vu .none->IsPart vl lo->IsPart vu hi->r x lo hi H Q->
  ∃T id,typeLookup (.type T) "__getitem__"=pure (some (.builtin id))/\s.TypeIs v T/\wpAny (model X.prog X.w) X.A (getItem v (.ref sl)) (EP X LX σ Q) X.xe s
def tSl(r:V->Option Int->Option Int->Hp->VK->Prop)(te:TE)(tl th:TO):TE:=λσ H Q=>te σ H λx H1=>tl σ H1 λl H2=>th σ H2 λu H3=>r x l u H3 Q
theorem nB(hr:SlR X r)(he:PE X e te)(hl:PO X lo tl)(hu:PO X hi th):PE X (.Subscript e (.Slice lo hi none p2) pos) (tSl r te tl th):=by intro LX s σ H Q I h;refine Subscript_ (thn (he LX s σ H _ I h) λv s1 ⟨x,H1,I1,r1,q1⟩=>?_);refine wpAny_Slice (thn (hl LX s1 σ H1 _ I1 q1) λvl s2 ⟨l,H2,I2,pl,q2⟩=>thn (hu LX s2 σ H2 _ I2 q2) λvu s3 ⟨u,H3,I3,pu,q3⟩=>?_);rw[evalPart_none];refine G_ ?_;have I4:Inv X LX σ H3 {s3 with heap:=s3.heap.push {cls:=.type "slice",data:=.fields #[vl,vu,.none]}}:=I3.kept (t':=s3.toks) λb ob q=>Ha _ q;obtain⟨T,id,hT,ht,hg⟩:=hr LX {s3 with heap:=s3.heap.push {cls:=.type "slice",data:=.fields #[vl,vu,.none]}} σ H3 x v vl vu l u s3.heap.objs.size Q I4 r1 (Heap.IsSliceOf.new ..) pl pu q3;show wpAny (model X.prog X.w) X.A (subscriptTail e (.Slice lo hi none p2) v (.ref s3.heap.objs.size)) (EP X LX σ Q) X.xe {s3 with heap:=s3.heap.push {cls:=.type "slice",data:=.fields #[vl,vu,.none]}};exact tail_any (ops:=[.ref s3.heap.objs.size,v]) ht hT hg (by with_unfolding_all rfl)
def jB(xs:List V)(lo hi:Option Int):List V:=(xs.drop (HT.sIx xs.length 0 lo)).take (HT.sIx xs.length xs.length hi-HT.sIx xs.length 0 lo)
theorem vI(xs:List V)(lo hi:Option Int):(jB xs lo hi).length<=xs.length:=by unfold jB;rw[Iv,IC];omega
inductive DV(K:LS)(H:Hp)(x:V)(y:V)(Q:VK):Prop|mk(a:_)(b:_)(ns:_)(ms:_)(_:x=.ref a)(_:y=.ref b)(_:SqT K H a (ns.map V.int))(_:SqT K H b (ms.map V.int))(_:Q (.bl (HT.lexLt ns ms)) H)
def CD(K:LS):R2:=λx y H Q=>DV K H x y Q
theorem Dd(hu:X.A.units<cLine):OpR X (compareOp .Lt) (CD X.K):=by intro LX s σ H x y v u Q I rx ry h;obtain⟨a,b,ns,ms,rfl,rfl,ha,hb,q⟩:=h;cases rx;cases ry;obtain⟨its,r1,p1,_⟩:=I.tuple ha;obtain⟨L9,r2,p2,_⟩:=I.tuple hb;have i1:IntsAre its.toArray.toList ns:=hU r1;have i2:IntsAre L9.toArray.toList ms:=hU r2;exact HT.lt_tupInts p1 p2 i1 i2 hu ⟨.bl (HT.lexLt ns ms),H,I,rfl,q⟩
end
def ixN(n:Nat)(i:Int):Option Nat:=if 0<=i then(if i<n then some i.toNat else none)else if -(n:Int)<=i then some (i+n).toNat else none
def atI{α:Type}(xs:List α)(i:Int):Option α:=(ixN xs.length i).bind λj=>xs[j]?
theorem BU(h:ixN n i=some j):seqIndex? i n=some j/\j<n/\ -(n:Int)<=i/\i<n:=by
 unfold ixN at h;by_cases h0:0<=i
 .rw[Hc h0]at h;by_cases h1:i<n
  .rw[Hc h1]at h;have e:i.toNat=j:=Hg h;exact⟨by rw[seqIndex_of h0 h1,e],by omega,by omega,h1⟩
  .rw[G9 h1]at h;cases h
 .rw[G9 h0]at h;by_cases h1: -(n:Int)<=i
  .rw[Hc h1]at h;have e:(i+n).toNat=j:=Hg h;exact⟨by rw[seqIndex_neg (by omega) h1,e],by omega,h1,by omega⟩
  .rw[G9 h1]at h;cases h
theorem wF{α:Type}{xs:List α}{i:Int}{v:α}(h:atI xs i=some v):∃j,seqIndex? i xs.length=some j/\xs[j]?=some v/\j<xs.length/\ -(xs.length:Int)<=i/\i<xs.length:=by
 unfold atI at h;cases e:ixN xs.length i with
 |none=>rw[e]at h;cases h
 |some j=>rw[e]at h;obtain⟨h1,h2,h3,h4⟩:=BU e;exact⟨j,h1,h,h2,h3,h4⟩
theorem Cc{α:Type}{xs:List α}{j:Nat}{v:α}(h:xs[j]?=some v):atI xs (j:Int)=some v:=by
 have hj:j<xs.length:=(HQ.mp h).1;have e:ixN xs.length (j:Int)=some j:=by unfold ixN;rw[Hc (by omega),Hc (by omega)];simp
 unfold atI;rw[e];exact h
def Cw(b:Expr):Prop:=∀o i,subscripted b false o i=operate [o,i] (getItem o i)
def IxR(X:Cx)(r:R2):Prop:=
 ∀(Mh MM:Expr)(LX:List (Addr×Obj))(s:Shared)(σ:St)(H:Hp)(x y:V)(v u:Value)(Q:VK),Inv X LX σ H s->aR x v->aR y u->r x y H Q->
  subscripted MM false v u=operate [v,u] (getItem v u)->wpAny (model X.prog X.w) X.A (subscriptTail Mh MM v u) (EP X LX σ Q) X.xe s
def MtR(X:Cx)(id:String)(r:V->List V->Hp->VK->Prop):Prop:=
 ∀(LX:List (Addr×Obj))(s:Shared)(σ:St)(H:Hp)(x:V)(xs:List V)(v:Value)(us:List Value)(Q:VK),Inv X LX σ H s->aR x v->aC xs us->r x xs H Q->
  wpAny (model X.prog X.w) X.A (call (.builtin id) (v::us)) (EP X LX σ Q) X.xe s
section
variable{X:Cx}{a b:Expr}{ta tb:TE}{pos:Pos}
theorem cr{r:R2}(hr:IxR X r)(ha:PE X a ta)(hb:PE X b tb)(hs:Cw b):PE X (.Subscript a b pos) (tOp r ta tb):=by intro LX s σ H Q I h;exact Subscript_ (zx ha hb I h λv u s2 x y H2 I2 rx ry q=>hr a b LX s2 σ H2 x y v u Q I2 rx ry q (hs _ _))
inductive E3(K:LS)(x y:V)(H:Hp)(Q:VK):Prop|mk(p:Addr)(xs:List V)(i:Int)(v:V)(_:x=.ref p)(_:y=.int i)(_:SqL K H p xs)(_:atI xs i=some v)(_:Q v H)
def zu(K:LS):R2:=λx y H Q=>E3 K x y H Q
inductive EZ(K:LS)(x y:V)(H:Hp)(Q:VK):Prop|mk(p:Addr)(xs:List V)(i:Int)(v:V)(_:x=.ref p)(_:y=.int i)(_:SqT K H p xs)(_:atI xs i=some v)(_:Q v H)
def EH(K:LS):R2:=λx y H Q=>EZ K x y H Q
theorem cD:IxR X (zu X.K):=by
 intro Mh MM LX s σ H x y v u Q I rx ry h hs;obtain⟨p,xs,i,z,rfl,rfl,hq,he,q⟩:=h;cases rx;obtain⟨t,rfl⟩:=ry;obtain⟨its,r,pl,hz⟩:=I.list hq;obtain⟨j,h1,h2,h3,h4,h5⟩:=wF he;obtain⟨w,ew,Ny⟩:=r.get h2;have hl:=r.length;have hn:=sJ;have fin:EP X LX σ Q w s:=⟨z,H,I,Ny,q⟩;by_cases h0:0<=i
 .have hj:i.toNat=j:=by rw[seqIndex_of h0 h5]at h1;exact Hg h1
  exact item_listR pl.isList h0 (by omega) (by rw[hj];simpa using ew) fin hs
 .have hj:(i+(its.toArray.size:Int)).toNat=j:=by rw[seqIndex_neg (by omega) h4]at h1;rw[HP,<-hl];exact Hg h1
  exact subscriptTail_builtinR (x:=w) pl.isList.typeIs slot_list_getitem.lookup
   (wpAny_getItem_list_neg (Q:=λr s'=>r=w/\EP X LX σ Q r s') pl.isList (by omega) (by rw[HP]<;>omega) (by omega) (by rw[hj];simpa using ew) ⟨rfl,fin⟩) hs
theorem gO:IxR X (EH X.K):=by
 intro Mh MM LX s σ H x y v u Q I rx ry h hs;obtain⟨p,xs,i,z,rfl,rfl,hq,he,q⟩:=h;cases rx;obtain⟨t,rfl⟩:=ry;obtain⟨its,r,pl,hz⟩:=I.tuple hq;obtain⟨j,h1,h2,h3,h4,h5⟩:=wF he;obtain⟨w,ew,Ny⟩:=r.get h2;have hl:=r.length;have hn:=sJ;have fin:EP X LX σ Q w s:=⟨z,H,I,Ny,q⟩;exact subscriptTail_builtinR (x:=w) pl.typeIs slot_tuple_getitem.lookup
  (getItem_tuple (j:=j) (Q:=λr s'=>r=w/\EP X LX σ Q r s') pl (by omega) (by omega) (by rw[HP,<-hl];exact h1) (by simpa using ew) ⟨rfl,fin⟩) hs
theorem Inv.lst(I:Inv X LX σ H s)(h:H p=some (.lst xs)):∃(its:List Value)(n:Nat),aC xs its/\s.heap.get? p=some {cls:=.type "list",data:=.seq its.toArray n}/\xs.length<=sizeLine:=by obtain⟨z,its,n,r,e⟩:=I.hok p _ h;exact⟨its,n,r,e,z⟩
theorem ux(lo hi:Option Int)(n:Nat):(sliceBounds lo hi none n).1=((HT.sIx n 0 lo:Nat):Int)/\(sliceBounds lo hi none n).2.1=((HT.sIx n n hi:Nat):Int)/\(sliceBounds lo hi none n).2.2=1:=by
 refine⟨?_,?_,rfl⟩
 .cases lo with
  |none=>simp[sliceBounds,HT.sIx]
  |some i=>
   simp only[sliceBounds,HT.sIx,getD_none,show(1:Int)>0 by decide,if_true];by_cases h:i<0
   .simp only[h,if_true]<;>omega
   .simp only[h,if_false]<;>omega
 .cases hi with
  |none=>simp[sliceBounds,HT.sIx]
  |some i=>
   simp only[sliceBounds,HT.sIx,getD_none,show(1:Int)>0 by decide,if_true];by_cases h:i<0
   .simp only[h,if_true]<;>omega
   .simp only[h,if_false]<;>omega
theorem rG(its:List Value)(lo hi:Option Int):slicePick its.toArray lo hi none=((its.drop (HT.sIx its.length 0 lo)).take (HT.sIx its.length its.length hi-HT.sIx its.length 0 lo)).toArray:=by obtain⟨h1,h2,h3⟩:=ux lo hi its.toArray.size;unfold slicePick;rw[h1,h2,h3];simp only[sliceRange_one,pick_run,size_toArray]<;>rfl
inductive DU(K:LS)(H:Hp)(x:V)(lo:Option Int)(hi:Option Int)(Q:VK):Prop|mk(a:_)(xs:_)(_:x=.ref a)(_:SqL K H a xs)(_:∀p,H p=none->Q (.ref p) (upd H p (.lst (jB xs lo hi))))
def CC(K:LS):V->Option Int->Option Int->Hp->VK->Prop:=λx lo hi H Q=>DU K H x lo hi Q
theorem pK:SlR X (CC X.K):=by intro LX s σ H x v vl vu lo hi sl Q I rx hs pl pu h;obtain⟨a,xs,rfl,hx,q⟩:=h;cases rx;obtain⟨its,r,ht,hz⟩:=I.list hx;have L3:=r.length;refine⟨"list",_,slot_list_getitem.lookup,ht.isList.typeIs,?_⟩;refine wpAny_getItem_list_slice ht.isList hs pl pu .none (by simp) ?_ (by rw[HP]<;>omega);rw[rG,<-L3];refine⟨.ref s.heap.objs.size,_,I.laid (t':=s.toks) (o:=.lst (jB xs lo hi)) (λb ob q=>Ha _ q) (Hu _) ?_,rfl,q _ (I.hok.fresh (Hu _))⟩;exact⟨Hv (vI xs lo hi) hz,_,0,(r.drop (HT.sIx xs.length 0 lo)).take (HT.sIx xs.length xs.length hi-HT.sIx xs.length 0 lo),Hj _ rfl⟩
def eJ:V->Bool
 | .non=>true
 | .bl _=>true
 | .int _=>true
 | .str _=>true
 |_=>false
def eqV:V->V->Bool
 | .non,.non=>true
 | .bl a,.bl b=>a==b
 | .bl a,.int b=>(if a then 1 else 0)==b
 | .int a,.bl b=>a==(if b then 1 else 0)
 | .int a,.int b=>a==b
 | .str a,.str b=>a==b
 |_,_=>false
theorem yh(ry:aR y u)(rx:aR x v)(fy:eJ y=true)(fx:eJ x=true):SeqAt.EqAt A s u v (eqV y x):=by
 cases y with
 |non=>
  cases ry;cases x with
  |non=>cases rx;exact SeqAt.EqAt.same _
  |bl b=>cases rx;exact SeqAt.EqAt.none_bool b
  |int b=>obtain⟨t,rfl⟩:=rx;exact SeqAt.EqAt.none_int b t
  |str b=>obtain⟨t,rfl⟩:=rx;exact SeqAt.EqAt.none_str b t
  |_=>exact absurd (show false=true from fx) Hm
 |bl a=>
  cases ry;cases x with
  |non=>cases rx;exact SeqAt.EqAt.bool_none a
  |bl b=>cases rx;exact SeqAt.EqAt.bool_bool a b
  |int b=>obtain⟨t,rfl⟩:=rx;exact SeqAt.EqAt.bool_int a b t
  |str b=>obtain⟨t,rfl⟩:=rx;exact SeqAt.EqAt.bool_str a b t
  |_=>exact absurd (show false=true from fx) Hm
 |int a=>
  obtain⟨t',rfl⟩:=ry;cases x with
  |non=>cases rx;exact SeqAt.EqAt.int_none a t'
  |bl b=>cases rx;exact SeqAt.EqAt.int_bool a t' b
  |int b=>obtain⟨t,rfl⟩:=rx;exact SeqAt.EqAt.int_int a t' b t
  |str b=>obtain⟨t,rfl⟩:=rx;exact SeqAt.EqAt.int_str a t' b t
  |_=>exact absurd (show false=true from fx) Hm
 |str a=>
  obtain⟨t',rfl⟩:=ry;cases x with
  |non=>cases rx;exact SeqAt.EqAt.str_none a t'
  |bl b=>cases rx;exact SeqAt.EqAt.str_bool a t' b
  |int b=>obtain⟨t,rfl⟩:=rx;exact SeqAt.EqAt.str_int a t' b t
  |str b=>obtain⟨t,rfl⟩:=rx;exact SeqAt.EqAt.str_str a t' b t
  |_=>exact absurd (show false=true from fx) Hm
 |_=>exact absurd (show false=true from fy) Hm
def eqU(x:V)(u:Value):Bool:=match u with
 | .none=>eqV .non x
 | .bool b=>eqV (.bl b) x
 | .int i _=>eqV (.int i) x
 | .str z _=>eqV (.str z) x
 |_=>false
theorem sM(r:aR y u)(f:eJ y=true):eqU x u=eqV y x:=by
 cases y with
 |non=>cases r;rfl
 |bl b=>cases r;rfl
 |int i=>obtain⟨t,rfl⟩:=r;rfl
 |str z=>obtain⟨t,rfl⟩:=r;rfl
 |_=>exact absurd (show false=true from f) Hm
theorem pT:∀{xs:List V}{us:List Value},aC xs us->xs.all eJ=true->us.any (eqU x)=xs.any λy=>eqV y x
 |_,_,.nil,_=>rfl
 |y::xs,u::us,.cons r t,f=>by rw[Ji,Hq]at f;rw[J7,J7,sM r f.1,pT t f.2]
theorem jP(rx:aR x v)(fx:eJ x=true):∀{xs:List V}{us:List Value},aC xs us->xs.all eJ=true->∀u∈us,SeqAt.EqAt A s u v (eqU x u)
 |_,_,.nil,_=>λu hu=>by cases hu
 |y::xs,u::us,.cons r t,f=>λu' hu=>by
  rw[Ji,Hq]at f;rcases Hi.mp hu with rfl|hu
  .rw[sM r f.1];exact yh r rx f.1 fx
  .exact jP rx fx t f.2 u' hu
def inV(x:V)(xs:List V):Bool:=xs.any λy=>eqV y x
inductive Ez(K:LS)(neg:Bool)(H:Hp)(x:V)(y:V)(Q:VK):Prop|mk(p:_)(xs:_)(_:y=.ref p)(_:(SqL K H p xs\/SqT K H p xs))(_:eJ x=true)(_:xs.all eJ=true)(_:Q (.bl (if neg then !inV x xs else inV x xs)) H)
def rIn(K:LS)(neg:Bool):R2:=λx y H Q=>Ez K neg H x y Q
theorem iO:OpR X (compareOp .In) (rIn X.K false):=by
 intro LX s σ H x y v u Q I rx ry h;obtain⟨p,xs,rfl,hq,fx,fs,q⟩:=h;cases ry;rcases hq with hq|hq
 .obtain⟨its,r,pl,hz⟩:=I.list hq;refine SeqAt.in_listAt (eqU x) pl.isList (λw hw=>jP rx fx r fs w (by simpa using hw)) ⟨.bl _,H,I,rfl,?_⟩;rw[show its.toArray.any (eqU x)=its.any (eqU x) by simp,pT r fs];exact q
 .obtain⟨its,r,pl,hz⟩:=I.tuple hq;refine SeqAt.in_tupleAt (eqU x) pl (λw hw=>jP rx fx r fs w (by simpa using hw)) ⟨.bl _,H,I,rfl,?_⟩;rw[show its.toArray.any (eqU x)=its.any (eqU x) by simp,pT r fs];exact q
theorem aV:eK X (.builtin "len") (λxs H Q=>∃p ys,xs=[.ref p]/\(SqL X.K H p ys\/SqT X.K H p ys)/\Q (.int ys.length) H):=by
 intro LX s σ H xs us Q I r h;obtain⟨p,ys,rfl,hq,q⟩:=h;obtain⟨u,rfl,rx⟩:=gz r;cases rx;have hn:=sJ;rcases hq with hq|hq
 .obtain⟨its,r',pl,hz⟩:=I.list hq;have L3:=r'.length;exact Calls.call_len_list pl.isList (by simp only[size_toArray]<;>omega) ⟨.int ys.length,H,I.tok _,⟨s.toks+1,by rw[HP,L3]⟩,q⟩
 .obtain⟨its,r',pl,hz⟩:=I.tuple hq;have L3:=r'.length;exact len_tuple pl (by simp only[size_toArray]<;>omega) ⟨.int ys.length,H,I.tok _,⟨s.toks+1,by rw[HP,L3]⟩,q⟩
theorem uP:eK X (.type "list") (λxs H Q=>∃p ys,xs=[.ref p]/\(SqL X.K H p ys\/SqT X.K H p ys)/\∀l,H l=none->Q (.ref l) (upd H l (.lst ys))):=by
 intro LX s σ H xs us Q I r h;obtain⟨p,ys,rfl,hq,q⟩:=h;obtain⟨u,rfl,rx⟩:=gz r;cases rx;have fin:∀(its:List Value),aC ys its->ys.length<=sizeLine->∀(h':Heap)(c':Nat),(∀b o',s.heap.get? b=some o'->h'.get? b=some o')->
   h'.get? s.heap.objs.size=some {cls:=.type "list",dict:=none,data:=.seq its.toArray c',slots:= #[]}->EP X LX σ Q (.ref s.heap.objs.size) {s with heap:=h'}:=λits r' hz h' c' kp e=>
  ⟨.ref s.heap.objs.size,_,I.laid (t':=s.toks) kp (Hu _) (show bZ X.prog X.w _ h' _ (.lst ys)from⟨hz,its,c',r',e⟩),rfl,q _ (I.hok.fresh (Hu _))⟩
 rcases hq with hq|hq
 .obtain⟨its,r',pl,hz⟩:=I.list hq;have L3:=r'.length;obtain⟨o,ho,hc,n,hd⟩:=pl.isList;exact call_list_seq p (.inl rfl) ho hc hd (λh' c' kp e=>fin its r' hz h' c' kp e) (by simp only[size_toArray]<;>omega)
 .obtain⟨its,r',pl,hz⟩:=I.tuple hq;have L3:=r'.length;obtain⟨o,ho,hc,n,hd⟩:=pl;exact call_list_seq p (.inr rfl) ho hc hd (λh' c' kp e=>fin its r' hz h' c' kp e) (by simp only[size_toArray]<;>omega)
def tyV(K:LS)(T:String)(x:V)(H:Hp):Prop:=match x with
 | .str _=>T="str"
 | .int _=>T="int"
 | .ref p=>(T="list"/\∃xs,SqL K H p xs)\/(T="tuple"/\∃o,K.lookup p=some o/\o.cls=.type "tuple"/\o.dict=none)\/
   (T="dict"/\((∃kvs,H p=some (.dK kvs))\/∃kvs,H p=some (.dT kvs)))\/(T="set"/\∃S n,H p=some (.set S n))
 |_=>False
theorem CO(I:Inv X LX σ H s)(r:aR x v)(ty:tyV X.K T x H):s.TypeIs v T/\∀a,v=.ref a->∃ob,s.heap.get? a=some ob/\ob.dict=none:=by
 cases x with
 |str z=>obtain⟨t,rfl⟩:=r;cases(show T="str"from ty);exact⟨typeIs_str s z t,λ_ e=>nomatch e⟩
 |int i=>obtain⟨t,rfl⟩:=r;cases(show T="int"from ty);exact⟨typeIs_int s i t,λ_ e=>nomatch e⟩
 |ref p=>
  cases r;rcases ty with⟨rfl,xs,hq⟩|⟨rfl,o,hk,hc,hd⟩|⟨rfl,hk⟩|⟨rfl,S,n,hk⟩
  .obtain⟨its,_,pl,_⟩:=I.list hq;refine⟨pl.isList.typeIs,λa e=>?_⟩;cases e;obtain⟨o,n,e,c,hd,_⟩:=pl;exact⟨o,e,hd⟩
  .refine⟨⟨o,I.kIn p o hk,hc⟩,λa e=>?_⟩;cases e;exact⟨o,I.kIn _ o hk,hd⟩
  .have z:∃o,s.heap.get? p=some o/\o.ExactDict:=by
    rcases hk with⟨kvs,hk⟩|⟨kvs,hk⟩
    .obtain⟨_,_,_,_,o,_,_,e,ex,_⟩:=I.hok p _ hk;exact⟨o,e,ex⟩
    .obtain⟨_,_,_,_,o,_,_,e,ex,_⟩:=I.hok p _ hk;exact⟨o,e,ex⟩
   obtain⟨o,e,ex⟩:=z;refine⟨⟨o,e,ex.1⟩,λa e2=>?_⟩;cases e2;exact⟨o,e,ex.2.1⟩
  .obtain⟨o,_,_,_,e,ex,_⟩:=I.hok p _ hk;refine⟨⟨o,e,ex.1⟩,λa e2=>?_⟩;cases e2;exact⟨o,e,ex.2.1⟩
 |_=>exact False.elim ty
def tBM(K:LS)(T:String)(r:V->List V->Hp->VK->Prop)(to:TE)(t:TA):TE:=λσ H Q=>to σ H λx H1=>tyV K T x H1/\t σ H1 λxs H2=>r x xs H2 Q
variable{o e:Expr}{es:List Expr}{to:TE}{t:TA}{name:Str}{Mc L6:Pos}{T id:String}{r:V->List V->Hp->VK->Prop}
theorem dG(pa:PlainAttrs T)(slot:Slot T name id)(hty:typeOf (.builtin id)=pure (.type "method_descriptor"))(hm:MtR X id r)(ho:PE X o to)(ha:PA X (e::es) t)(M7:attributeBase o name X.env (eval o X.env)=eval o X.env:=by rfl)(hfew:((backTo L6 (starEach (e::es) X.env)).all (λx=> !x.1)&&(backToKw L6 (keywordEach [] X.env)).all (λx=>x.1.isSome)
   &&decide ((e::es).length+([]:List Keyword).length+(if([]:List Keyword).isEmpty then 0 else 1)<30))=true:=by rfl)
  (M8:(Mc.endLine==L6.line)=true:=by rfl) (hs:starEach (e::es) X.env=(false,eval e X.env)::starEach es X.env:=by rfl) (hplain:(backTo L6 (starEach es X.env)).any (·.1)=false:=by rfl):
  PE X (.Call (.Attribute o name Mc) (e::es) [] L6) (tBM X.K T r to t):=by
 intro LX s σ H Q I h;refine wpAny_Call_method_late M7 hfew M8 rfl (thn (ho LX s σ H _ I h) λv s1 ⟨x,H1,I1,r1,ty,q1⟩=>?_);obtain⟨h1,h2⟩:=CO I1 r1 ty;refine⟨T,id,pa,slot,hty,h1,h2,?_⟩;have hA:=ha L6 LX s1 σ H1 _ I1 q1;rw[hs]at hA⊢;refine Jp (by show(false||(backTo L6 (starEach es X.env)).any (·.1))=false;rw[hplain]<;>rfl) (Jx ?_);exact thn hA λus s2 ⟨vs,H2,I2,r2,q2⟩=>hm LX s2 σ H2 x vs v us Q I2 r1 r2 q2
end
def MtM(X:Cx)(id:String)(r:V->List V->Hp->VK->Prop):Prop:=
 ∀(LX:List (Addr×Obj))(s:Shared)(σ:St)(H:Hp)(x:V)(xs:List V)(v:Value)(us:List Value)(Q:VK),Inv X LX σ H s->aR x v->aC xs us->r x xs H Q->
  wpAny (model X.prog X.w) X.A (call (.builtin id) (v::us)) (EP X LX σ Q) X.xe s
theorem aC.one:∀{x:V}{us:List Value},aC [x] us->∃u,us=[u]/\aR x u
 |_,_,.cons r .nil=>⟨_,rfl,r⟩
theorem aC.two:∀{x y:V}{us:List Value},aC [x,y] us->∃u v,us=[u,v]/\aR x u/\aR y v
 |_,_,_,.cons r (.cons q .nil)=>⟨_,_,rfl,r,q⟩
theorem aC.zero:∀{us:List Value},aC [] us->us=[]
 |_,.nil=>rfl
theorem aC.eraseIdx:∀{xs:List V}{us:List Value}(i:Nat),aC xs us->aC (xs.eraseIdx i) (us.eraseIdx i)
 |_,_,_,.nil=>.nil
 |_,_,0,.cons _ t=>t
 |_,_,i+1,.cons r t=>.cons r (aC.eraseIdx i t)
theorem aC.reverse(h:aC xs us):aC xs.reverse us.reverse:=by
 induction h with
 |nil=>exact .nil
 |cons r t ih=>rw[List.reverse_cons,List.reverse_cons];exact aC.append ih (.cons r .nil)
section
variable{X:Cx}{LX:List (Addr×Obj)}{σ:St}{H:Hp}{s:Shared}{l b:Addr}{xs ys zs:List V}
theorem Inv.lset{its its':List Value}{n:Nat}{f:Array Value->Array Value}{t':Nat}(I:Inv X LX σ H s)(hH:H l=some (.lst xs))(e:s.heap.get? l=some {cls:=.type "list",data:=.seq its.toArray n}) (hf:f its.toArray=its'.toArray) (hv:aC ys its') (hz:ys.length<=sizeLine):Inv X LX σ (upd H l (.lst ys)) {s with heap:=s.heap.update l (Obj.mapSeq f),toks:=t'}:=by have q:=IsL.update e f;rw[hf]at q;refine I.write (x:=l) (e:=l) (by rw[hH];exact Jy) (.inl rfl) (λb' u hb hu=>(Jk s.heap (Obj.mapSeq f) (Ho hb)).trans hu) ⟨_,q⟩ ?_;exact⟨hz,its',_,hv,q⟩
theorem Inv.lnew{its:List Value}{t':Nat}(I:Inv X LX σ H s)(hv:aC ys its)(hz:ys.length<=sizeLine):Inv X LX σ (upd H s.heap.objs.size (.lst ys)) {s with heap:=s.heap.push {cls:=.type "list",data:=.seq its.toArray},toks:=t'}:=
 I.laid (λ_ _ q=>Ha _ q) (Hu _) ⟨hz,its,0,hv,Hj _ rfl⟩
theorem Inv.fresh(I:Inv X LX σ H s):H s.heap.objs.size=none:=I.hok.fresh (Hu _)
theorem Inv.lstM(I:Inv X LX σ H s)(hH:H l=some (.lst xs)):xs.length<=sizeLine/\∃(its:List Value)(n:Nat),aC xs its/\xs.length=its.length/\s.heap.get? l=some {cls:=.type "list",data:=.seq its.toArray n}:=by obtain⟨z,its,n,r,e⟩:=I.hok l _ hH;exact⟨z,its,n,r,r.length,e⟩
theorem Ah{n:Nat}(h:n<=sizeLine):Builtin.List.listTooLong n=false:=by unfold Builtin.List.listTooLong;exact Hw (by omega)
end
section
variable{X:Cx}
inductive E9(x:V)(vs:List V)(H:Hp)(Q:VK):Prop|mk(l:Addr)(xs:List V)(y:V)(_:x=.ref l)(_:vs=[y])(_:H l=some (.lst xs))(_:xs.length<sizeLine)(_:Q .non (upd H l (.lst (xs++[y]))))
def BA:V->List V->Hp->VK->Prop:=λx vs H Q=>E9 x vs H Q
theorem fZ:MtM X "list.append" BA:=by intro LX s σ H x vs v us Q I rx rv h;obtain⟨l,xs,y,rfl,rfl,hH,hz,q⟩:=h;cases rx;obtain⟨u,rfl,ru⟩:=rv.one;obtain⟨z,its,n,r,hl,e⟩:=I.lstM hH;refine call_meets Ix ⟨_,e,rfl⟩ F.entry_list_append (F.args_list_append_2 _ _) (PySem.list_append l its.toArray n u (by rw[HP];omega)) ⟨e,?_⟩;refine⟨.non,_,I.lset (its':=its++[u]) hH e (by simp) (r.append (.cons ru .nil)) ?_,rfl,q⟩;rw[Hx,IE];omega
inductive E5(x:V)(vs:List V)(H:Hp)(Q:VK):Prop|mk(l b:Addr)(xs zs:List V)(_:x=.ref l)(_:vs=[.ref b])(_:H l=some (.lst xs))(_:H b=some (.lst zs))(_:xs.length+zs.length<=sizeLine)(_:Q .non (upd H l (.lst (xs++zs))))
def Bz:V->List V->Hp->VK->Prop:=λx vs H Q=>E5 x vs H Q
theorem fY:MtM X "list.extend" Bz:=by
 intro LX s σ H x vs v us Q I rx rv h;obtain⟨l,b,xs,zs,rfl,rfl,hH,hB,hz,q⟩:=h;cases rx;obtain⟨u,rfl,ru⟩:=rv.one;cases ru;obtain⟨z,its,n,r,hl,e⟩:=I.lstM hH;obtain⟨z2,L9,n2,r2,hl2,e2⟩:=I.lstM hB;have hsz:its.toArray.size+L9.toArray.size<=sizeLine:=by rw[HP,HP];omega
 have hlong:¬(!its.toArray.isEmpty&&Builtin.List.listTooLong (its.toArray.size+L9.toArray.size))=true:=by rw[Ah hsz,JY];exact Hm
 refine call_meets Jl ⟨_,e,rfl⟩ F.entry_list_extend (F.args_list_extend_2 _ _)
  (AutoSeq1.list_extend_list_list_0 l its.toArray n b L9.toArray n2 hlong (by rw[HP];omega) (by omega)) ⟨e,e2,?_⟩
 refine⟨.non,_,I.lset (its':=its++L9) hH e (by simp) (r.append r2) ?_,rfl,q⟩;rw[Hx];omega
inductive E6(x y:V)(H:Hp)(Q:VK):Prop|mk(l b:Addr)(xs zs:List V)(_:x=.ref l)(_:y=.ref b)(_:H l=some (.lst xs))(_:H b=some (.lst zs))(_:xs.length+zs.length<=sizeLine)(_:∀p,H p=none->Q (.ref p) (upd H p (.lst (xs++zs))))
def EK:R2:=λx y H Q=>E6 x y H Q
theorem fk:OpR X (binaryOp .Add) EK:=by
 intro LX s σ H x y v u Q I rx ry h;obtain⟨l,b,xs,zs,rfl,rfl,hH,hB,hz,q⟩:=h;cases rx;cases ry;obtain⟨z,its,n,r,hl,e⟩:=I.lstM hH;obtain⟨z2,L9,n2,r2,hl2,e2⟩:=I.lstM hB;refine PySem.P.add_list e e2 ?_ (by rw[HP,HP];omega);have ea:its.toArray++L9.toArray=(its++L9).toArray:=by simp
 rw[ea];exact⟨.ref _,_,I.lnew (t':=s.toks) (r.append r2) (by rw[Hx];omega),rfl,q _ I.fresh⟩
end
theorem aC.ints:∀{ns:List Int}{us:List Value},aC (ns.map V.int) us->IntsAre us ns
 |[],us,h=>by rw[Kc]at h;cases h;exact IntsAre.nil
 |n::ns,us,h=>by
  rw[Hf]at h;cases h with
  |cons r t=>obtain⟨k,rfl⟩:=r;exact IntsAre.cons n k (aC.ints t)
theorem iC:∀{us:List Value}{ns:List Int},IntsAre us ns->aC (ns.map V.int) us
 |_,_,.nil=>by rw[Kc];exact Paired.nil
 |_,_,.cons n t h=>by rw[Hf];exact Paired.cons (show aR (V.int n) (Value.int n t)from⟨t,rfl⟩) (iC h)
theorem aC.strs:∀{xs:List Str}{us:List Value},aC (xs.map V.str) us->StrsAre us xs
 |[],us,h=>by rw[Kc]at h;cases h;exact StrsAre.nil
 |x::xs,us,h=>by
  rw[Hf]at h;cases h with
  |cons r t=>obtain⟨k,rfl⟩:=r;exact StrsAre.cons x k (aC.strs t)
theorem aC.bls:∀{bs:List Bool}{us:List Value},aC (bs.map V.bl) us->us=bs.map Value.bool
 |[],us,h=>by rw[Kc]at h;cases h;rfl
 |b::bs,us,h=>by
  rw[Hf]at h;cases h with
  |cons r t=>cases r;rw[aC.bls t,Hf]
theorem aC.ref1{a:Addr}{us:List Value}(r:aC [V.ref a] us):us=[Value.ref a]:=by
 cases r with
 |cons r t=>cases t;cases r;rfl
section
variable{prog:Program}{w:World}{A:Around}{E:Value->Shared->Prop}{s:Shared}{l:Addr}{its:List Value}{ns:List Int}{Q:Value->Shared->Prop}
theorem Bd(hh:A.handled=none)(hl:s.heap.IsList l its.toArray)(hi:IntsAre its ns)(h:∀h' tk t',(∀b o,s.heap.get? b=some o->h'.get? b=some o)->Q (.int ns.sum t') {s with heap:=h',toks:=tk}):wpAny (model prog w) A (call (.builtin "sum") [.ref l]) Q E s:=by
 obtain⟨xs,e⟩:=hi.allInts.items;have hn:numsOf (intItems xs).toList=ns:=by rw[<-e];exact hi.numsOf
 rw[nums_intItems]at hn;rw[e]at hl;refine PySem.sum_intListG hh hl λh' tk t' hk=>?_;have:=h h' tk t' hk;rw[preSum_eq,JN (by simp),hn];exact this
end
section
variable{X:Cx}
inductive DT(K:LS)(H:Hp)(vs:List V)(Q:VK):Prop|mk(a:Addr)(ns:List Int)(_:vs=[V.ref a])(_:SqL K H a (ns.map V.int))(_:Q (.int ns.sum) H)
def CB(K:LS):List V->Hp->VK->Prop:=λvs H Q=>DT K H vs Q
theorem yj(hc:X.calm=true):eK X (.builtin "sum") (CB X.K):=by intro LX s σ H vs us Q I r h;obtain⟨a,ns,rfl,hs,q⟩:=h;obtain⟨its,rv,hl,_⟩:=I.list hs;rw[aC.ref1 r];exact Bd (I.ok.hd hc) hl.isList rv.ints λh' tk t' hk=>⟨.int _,H,I.kept hk,⟨_,rfl⟩,q⟩
theorem tO{prog:Program}{w:World}{A:Around}{E:Value->Shared->Prop}{s:Shared}{l:Addr}{items:Array Value}{Q:Value->Shared->Prop}(hl:s.heap.IsList l items)(h:∀s₂:Shared,s₂={s with heap:=s.heap.push {cls:=.type "list_iterator",data:=.fields #[.ref l,.int 0 0]}}->(s₂.heap.IsListIter s.heap.objs.size l 0/\s₂.heap.IsList l items)->l≠s.heap.objs.size->Q (.ref s.heap.objs.size) s₂):wpAny (model prog w) A (pyIter (.ref l)) Q E s:=by
 have Mq:l<s.heap.objs.size:=by obtain⟨_,e,_⟩:=hl;exact HB e
 exact Kk hl (h _ rfl ⟨⟨_,Hj _ rfl,rfl,rfl⟩,hl.push _⟩ (HW Mq))
theorem mM{prog:Program}{w:World}{A:Around}{bs:List Bool}{its:List Value}(e:its=bs.map Value.bool):TruthOf prog w A (λi v=>its.toArray[i]?=some v) (λi=>bs.getD i false):=λi v s Q E hv hq=>by
 have NX:its[i]?=some v:=by simpa using hv
 rw[e,Hd]at NX;obtain⟨b,hb,rfl⟩:=IQ.mp NX;have hg:bs.getD i false=b:=by rw[Iw,hb]<;>rfl
 have OE:Q (bs.getD i false) s:=hq;rw[hg]at OE;exact IB OE
theorem rk:∀bs:List Bool,(List.range bs.length).any (λi=>bs.getD i false)=bs.any id
 |[]=>rfl
 |b::bs=>by
  rw[Hr,Kf,J7,Kv,J7,<-rk bs]
  all_goals rfl
theorem rm:∀bs:List Bool,(List.range bs.length).all (λi=>bs.getD i false)=bs.all id
 |[]=>rfl
 |b::bs=>by
  rw[Hr,Kf,Ji,KP,Ji,<-rm bs]
  all_goals rfl
inductive DY(K:LS)(H:Hp)(vs:List V)(Q:VK):Prop|mk(a:Addr)(bs:List Bool)(_:vs=[V.ref a])(_:SqL K H a (bs.map V.bl))(_:Q (.bl (bs.any id)) H)
def EL(K:LS):List V->Hp->VK->Prop:=λvs H Q=>DY K H vs Q
inductive DZ(K:LS)(H:Hp)(vs:List V)(Q:VK):Prop|mk(a:Addr)(bs:List Bool)(_:vs=[V.ref a])(_:SqL K H a (bs.map V.bl))(_:Q (.bl (bs.all id)) H)
def EM(K:LS):List V->Hp->VK->Prop:=λvs H Q=>DZ K H vs Q
theorem yl(hc:X.calm=true):eK X (.builtin "any") (EL X.K):=by
 intro LX s σ H vs us Q I r h;obtain⟨a,bs,rfl,hs,q⟩:=h;obtain⟨its,rv,hl,_⟩:=I.list hs;rw[aC.ref1 r];have hb:=rv.bls;refine call_any_walk (tO hl.isList λs₂ e2 st MA=>?_);subst e2;refine⟨_,_,_,_,_,_,_,rfl,Walks.list (A:=X.A.in1) (I.ok.hd hc) _ a MA its.toArray,st,mM hb,λh' tk hk=>?_⟩;refine⟨.bl _,H,I.kept λb o eo=>hk b o (λMf=>?_) (Ha _ eo),?_,q⟩
 .rcases Hi.mp Mf with e1|Mf
  .exact absurd (e1▸HB eo) (Jh _)
  .cases Mf
 .show Value.bool _=Value.bool _;rw[<-rk,hb,HP,G8]
theorem ip(hc:X.calm=true):eK X (.builtin "all") (EM X.K):=by
 intro LX s σ H vs us Q I r h;obtain⟨a,bs,rfl,hs,q⟩:=h;obtain⟨its,rv,hl,_⟩:=I.list hs;rw[aC.ref1 r];have hb:=rv.bls;refine call_all_walk (tO hl.isList λs₂ e2 st MA=>?_);subst e2;refine⟨_,_,_,_,_,_,_,rfl,Walks.list (A:=X.A.in1) (I.ok.hd hc) _ a MA its.toArray,st,mM hb,λh' tk hk=>?_⟩;refine⟨.bl _,H,I.kept λb o eo=>hk b o (λMf=>?_) (Ha _ eo),?_,q⟩
 .rcases Hi.mp Mf with e1|Mf
  .exact absurd (e1▸HB eo) (Jh _)
  .cases Mf
 .show Value.bool _=Value.bool _;rw[<-rm,hb,HP,G8]
end
mutual
inductive Dp(K:LS)(H:Hp):V->PyData->Prop
 |non:Dp K H .non .none
 |bl (b:Bool):Dp K H (.bl b) (.bool b)
 |int (i:Int):Dp K H (.int i) (.int i)
 |str (x:Str):Dp K H (.str x) (.str x)
 |lst {a:Addr} {xs:List V} {ds:List PyData}:SqL K H a xs->DpAll K H xs ds->Dp K H (.ref a) (.list ds)
 |tup {a:Addr} {xs:List V} {ds:List PyData}:SqT K H a xs->DpAll K H xs ds->Dp K H (.ref a) (.tuple ds)
inductive DpAll(K:LS)(H:Hp):List V->List PyData->Prop
 |nil:DpAll K H [] []
 |cons {v:V} {vs:List V} {d:PyData} {ds:List PyData}:Dp K H v d->DpAll K H vs ds->DpAll K H (v::vs) (d::ds)
end
section
variable{X:Cx}{LX:List (Addr×Obj)}{σ:St}{H:Hp}{s:Shared}
mutual
theorem Dp.reads(I:Inv X LX σ H s):∀(d:PyData)(v:V)(u:Value),Dp X.K H v d->aR v u->∃as,Reads s.heap u d as
 | .none,_,_,h,r=>by cases h;cases r;exact⟨_,Reads.none⟩
 | .bool b,_,_,h,r=>by cases h;cases r;exact⟨_,Reads.bool b⟩
 | .int i,_,_,h,r=>by cases h;obtain⟨t,rfl⟩:=r;exact⟨_,Reads.int i t⟩
 | .str x,_,_,h,r=>by cases h;obtain⟨t,rfl⟩:=r;exact⟨_,Reads.str x t⟩
 | .list ds,_,_,h,r=>by
  cases h with
  |lst hs ha=>cases r;obtain⟨its,rv,⟨o,n,ho,hc,_,hd⟩,_⟩:=I.list hs;obtain⟨as,hr⟩:=Dp.readsAll I ds _ its ha rv;exact⟨_,Reads.list ho hc hd hr⟩
 | .tuple ds,_,_,h,r=>by
  cases h with
  |tup hs ha=>cases r;obtain⟨its,rv,⟨o,ho,hc,n,hd⟩,_⟩:=I.tuple hs;obtain⟨as,hr⟩:=Dp.readsAll I ds _ its ha rv;exact⟨_,Reads.tuple ho hc hd hr⟩
 | .dict _,_,_,h,_=>by cases h
theorem Dp.readsAll(I:Inv X LX σ H s):∀(ds:List PyData)(vs:List V)(us:List Value),DpAll X.K H vs ds->aC vs us->∃as,ReadsAll s.heap us ds as
 |[],_,_,h,r=>by cases h;cases r;exact⟨_,ReadsAll.nil⟩
 |d::ds,_,_,h,r=>by
  cases h with
  |cons h1 h2=>
   cases r with
   |cons r1 r2=>obtain⟨as,q1⟩:=Dp.reads I d _ _ h1 r1;obtain⟨bs,q2⟩:=Dp.readsAll I ds _ _ h2 r2;exact⟨_,ReadsAll.cons q1 q2⟩
end
end
section
variable{X:Cx}
def EJ(K:LS):R2:=λx y H Q=>∃d e,Dp K H x d/\Dp K H y e/\SeqAt.shaped d=true/\SeqAt.shaped e=true/\Q (.bl (PyData.eqv d e)) H
theorem x_(hu:X.A.units+64<cLine):OpR X (compareOp .Eq) (EJ X.K):=by intro LX s σ H x y v u Q I rx ry h;obtain⟨d,e,hd,he,sd,se,q⟩:=h;obtain⟨as,r1⟩:=Dp.reads I d x v hd rx;obtain⟨bs,r2⟩:=Dp.reads I e y u he ry;exact SeqAt.compareEq_shaped r1 r2 sd se hu ⟨.bl _,H,I,rfl,q⟩
end
abbrev CellAt(h:Heap)(c:Addr)(v:Option Value):Prop:=h.IsCell c v
def EG(scope sc:Scope):Scope:=
 {scope with names:=scope.names.map λ(n,k)=>if(k==.free&&sc.kind==.function&&sc.names.lookup n==some .cell)then(n,.cell)else(n,k)}
def bV(cells:List (Str×Addr)):List (Str×NameKind)->List (Str×Addr)->List (Str×Addr)
 |[],acc=>acc
 |(n,k)::r,acc=>if k==.free then bV cells r ((n,(cells.lookup n).getD 0)::acc)else bV cells r acc
theorem lW(env:Env)(f:Str×NameKind->List (Str×Addr)->Sem (ForInStep (List (Str×Addr))))
  (hf:∀n k c,f (n,k) c=if k==.free then(do let a<-cellOf env n;pure (.yield ((n,a)::c)))else pure (.yield c)):
  ∀(names:List (Str×NameKind))(acc:List (Str×Addr)),(∀y∈names,y.2=.free->∃c,env.cells.lookup y.1=some c)->forIn names acc f=pure (bV env.cells names acc)
 |[],acc,_=>by rw[forIn_nil];rfl
 |(n,k)::r,acc,h=>by
  rw[forIn_cons,hf];have ih:=λacc=>lW env f hf r acc λy hy=>h y (Hh _ hy);unfold bV;by_cases hk:(k==NameKind.free)=true
  .rw[Hc hk,Hc hk];obtain⟨c,hc⟩:=h (n,k) Hk (by simpa using hk);have e:cellOf env n=pure c:=by unfold cellOf;rw[hc]
   rw[e];have e2:(env.cells.lookup n).getD 0=c:=by rw[hc];rfl
   rw[e2];exact ih _
  .rw[G9 hk,G9 hk];exact ih _
theorem xJ{scope:Scope}{env:Env}(h:∀y∈scope.names,y.2=.free->∃c,env.cells.lookup y.1=some c):closureFor scope env=pure (bV env.cells scope.names []):=by simp only[closureFor];rw[lW env _ (λn k c=>rfl) scope.names [] h];rfl
theorem j1{α:Type}:∀{l:List (Str×α)}{n:Str}{c:α},(n,c)∈l->∃c',l.lookup n=some c'
 |(k,v)::r,n,c,h=>by
  rw[JF];cases hb:n==k with
  |true=>exact⟨_,rfl⟩
  |false=>
   rcases Hi.mp h with e|h
   .cases e;simp at hb
   .exact j1 h
theorem gI:∀{names:List (Str×NameKind)}{acc:List (Str×Addr)}{n:Str}{c:Addr},(n,c)∈bV cells names acc->(n,c)∈acc\/((n,.free)∈names/\c=(cells.lookup n).getD 0)
 |[],_,_,_,h=>.inl h
 |(m,k)::r,acc,n,c,h=>by
  unfold bV at h;split at h
  .rename_i hk;have hk:k=.free:=by simpa using hk
   rcases gI h with h|⟨h1,h2⟩
   .rcases Hi.mp h with e|h
    .cases e;exact .inr ⟨hk▸Hk,rfl⟩
    .exact .inl h
   .exact .inr ⟨Hh _ h1,h2⟩
  .rcases gI h with h|⟨h1,h2⟩
   .exact .inl h
   .exact .inr ⟨Hh _ h1,h2⟩
theorem jb:∀{names:List (Str×NameKind)}{acc:List (Str×Addr)}{p:Str×Addr},p∈acc->p∈bV cells names acc
 |[],_,_,h=>h
 |(m,k)::r,acc,p,h=>by
  unfold bV;split
  .exact jb (Hh _ h)
  .exact jb h
theorem ja:∀{names:List (Str×NameKind)}{acc:List (Str×Addr)}{n:Str},(n,.free)∈names->(n,(cells.lookup n).getD 0)∈bV cells names acc
 |(m,k)::r,acc,n,h=>by
  unfold bV;rcases Hi.mp h with e|h
  .cases e;exact jb Hk
  .split
   .exact ja h
   .exact ja h
theorem gT:∀{names:List (Str×NameKind)}{h:Heap}{acc:List (Str×Addr)}{x:Str}{c:Addr},(x,c)∈cellsFrom h.objs.size names acc->(x,c)∈acc\/((x,.cell)∈names/\h.objs.size<=c/\CellAt (pushCells h names) c none)
 |[],_,_,_,_,h=>.inl h
 |(n,k)::r,h,acc,x,c,hm=>by
  unfold cellsFrom at hm;unfold pushCells;split at hm
  .rename_i hk;rw[Hc hk];have hk:k=.cell:=by simpa using hk
   rw[<-Il h {cls:=.type "cell",data:=.cell none}]at hm;rcases gT hm with hm|⟨h1,h2,h3⟩
   .rcases Hi.mp hm with e|hm
    .cases e;exact .inr ⟨hk▸Hk,Hu _,_,KA r _ _ _ (Hj _ rfl),rfl⟩
    .exact .inl hm
   .rw[Il]at h2;exact .inr ⟨Hh _ h1,KW h2,h3⟩
  .rename_i hk;rw[G9 hk];rcases gT hm with hm|⟨h1,h2,h3⟩
   .exact .inl hm
   .exact .inr ⟨Hh _ h1,h2,h3⟩
theorem iS:∀{names:List (Str×NameKind)}{n:Nat}{acc:List (Str×Addr)}{p:Str×Addr},p∈acc->p∈cellsFrom n names acc
 |[],_,_,_,h=>h
 |(m,k)::r,n,acc,p,h=>by
  unfold cellsFrom;split
  .exact iS (Hh _ h)
  .exact iS h
theorem lm:∀{names:List (Str×NameKind)}{n:Nat}{acc:List (Str×Addr)}{x:Str},(x,.cell)∈names->∃c,(x,c)∈cellsFrom n names acc
 |(m,k)::r,n,acc,x,h=>by
  unfold cellsFrom;rcases Hi.mp h with e|h
  .cases e;exact⟨n,iS Hk⟩
  .split
   .exact lm h
   .exact lm h
theorem lg:∀{names:List (Str×NameKind)}{h:Heap}{acc:List (Str×Addr)}{x y:Str}{c:Addr},(∀p∈acc,p.2<h.objs.size)->(∀x y c,(x,c)∈acc->(y,c)∈acc->x=y)->(x,c)∈cellsFrom h.objs.size names acc->(y,c)∈cellsFrom h.objs.size names acc->x=y
 |[],_,_,_,_,_,_,hi,h1,h2=>hi _ _ _ h1 h2
 |(n,k)::r,h,acc,x,y,c,hl,hi,h1,h2=>by
  unfold cellsFrom at h1 h2;split at h1
  .rename_i hk;rw[Hc hk]at h2;rw[<-Il h {cls:=.type "cell",data:=.cell none}]at h1 h2;refine lg (h:=h.push _) (λp hp=>?_) (λx y c a b=>?_) h1 h2
   .rw[Il];rcases Hi.mp hp with rfl|hp
    .exact IY _
    .exact JR (hl p hp)
   .rcases Hi.mp a with e|a<;>rcases Hi.mp b with e'|b
    .cases e;cases e';rfl
    .cases e;exact absurd (hl _ b) (Jh _)
    .cases e';exact absurd (hl _ a) (Jh _)
    .exact hi _ _ _ a b
  .rename_i hk;rw[G9 hk]at h2;exact lg hl hi h1 h2
theorem vm{M:Model}{A:Around}{E:Value->Shared->Prop}{s:Shared}{scope:Scope}{globals:Addr}{closure:List (Str×Addr)}{L0:Str}{func:Option Addr}{code:Value}{OF:Env}{builtins:Addr}{Q:Env->Shared->Prop} (h:Q (newEnv scope s.heap.objs.size globals (cellsFrom (s.heap.objs.size+1) scope.names closure) L0 func code (some OF) builtins) {s with heap:=pushCells (s.heap.push {cls:=.type "dict",data:=.dict #[]}) scope.names}):wpAny M A (newFunctionEnv scope globals closure [] L0 func code (some OF) builtins) Q E s:=by simp only[newFunctionEnv,isSome_some,if_true];refine G7 (wpAny_alloc ?_);refine G7 (wpAny_layCells _ (λn k c=>rfl) scope.names closure _ _ ?_);rw[show({s with heap:=s.heap.push {cls:=.type "dict",data:=.dict #[]}}:Shared).heap.objs.size=s.heap.objs.size+1 from Il ..];rw[forIn_nil];exact G7 (G_ (G_ h))
theorem i6{sc:Scope}:∀{names:List (Str×NameKind)}{x:Str}{k:NameKind},
  (names.map λ(n,k)=>if(k==NameKind.free&&sc.kind==.function&&sc.names.lookup n==some .cell)then(n,NameKind.cell)else(n,k)).lookup x=some k->
  ∃k',names.lookup x=some k'/\(k=k'\/(k'=.free/\k=.cell))
 |[],_,_,h=>by simp at h
 |(n,k₀)::r,x,k,h=>by
  have ih:=@i6 sc r x k;have h':List.lookup x ((if(k₀==NameKind.free&&sc.kind==.function&&sc.names.lookup n==some .cell)=true then(n,NameKind.cell)else(n,k₀))::(r.map _))=some k:=h;cases hx:x==n with
  |true=>
   simp only[lookup_cons,hx];by_cases hc:(k₀==NameKind.free&&sc.kind==.function&&sc.names.lookup n==some .cell)=true
   .rw[Hc hc]at h';simp only[lookup_cons,hx]at h';cases h';simp only[and_eq_true,beq_iff_eq]at hc;exact⟨k₀,rfl,.inr ⟨hc.1.1,rfl⟩⟩
   .rw[G9 hc]at h';simp only[lookup_cons,hx]at h';cases h';exact⟨_,rfl,.inl rfl⟩
  |false=>
   simp only[lookup_cons,hx];by_cases hc:(k₀==NameKind.free&&sc.kind==.function&&sc.names.lookup n==some .cell)=true
   .rw[Hc hc]at h';simp only[lookup_cons,hx]at h';exact ih h'
   .rw[G9 hc]at h';simp only[lookup_cons,hx]at h';exact ih h'
structure og(N:List Str)(sc scope:Scope)(own:List (Str×Nat)):Prop where
 kind:scope.kind=.function
 uniq:∀y∈scope.names,scope.names.lookup y.1=some y.2
 ix:∀p∈own,N[p.2]?=some p.1
 free:∀y∈scope.names,y.2=.free->sc.names.lookup y.1=some .cell\/sc.names.lookup y.1=some .free
 own:∀y∈scope.names,y.2=.local\/y.2=.cell->y.1∈own.map (·.1)\/y.1∉N
def cb(σ:St):List Nat->St
 |[]=>σ
 |v::vs=>(cb σ vs).set v none
theorem i3(σ:St):∀vs:List Nat,(cb σ vs).length=σ.length
 |[]=>rfl
 |v::vs=>by unfold cb;rw[List.length_set,i3 σ vs]
theorem kJ{σ:St}{i:Nat}{x:V}:∀{vs:List Nat},(cb σ vs)[i]?=some (some x)->σ[i]?=some (some x)/\i∉vs
 |[],h=>⟨h,by simp⟩
 |v::vs,h=>by
  unfold cb at h;by_cases hi:v=i
  .subst hi;by_cases hv:v<(cb σ vs).length
   .rw[Ke hv]at h;cases h
   .rw[IH (by simpa using hv)]at h;cases h
  .rw[Kq hi]at h;obtain⟨h1,h2⟩:=kJ h;exact⟨h1,by simp only[mem_cons,not_or];exact⟨λe=>hi e.symm,h2⟩⟩
abbrev Cx.blk(X:Cx)(s:Shared)(H:Hp)(scope:Scope)(L_:Env)(fp:List Addr):Cx:={X with s_0:=s,H_0:=H,env:=L_,outer:=X.stack,ex:=fp,fn:=λx=>scope.names.lookup x==some .cell,pn:=[],xe:=λ_ _=>False}
section
variable{X:Cx}{LX:List (Addr×Obj)}{σ:St}{H:Hp}{s:Shared}
theorem vL{scope:Scope}{own:List (Str×Nat)}{fp:List Addr}(I:Inv X LX σ H s)(ok:og X.N X.env.scope scope own)(hN:X.N.Nodup)(hfp:∀b∈fp,gZ X LX H b/\b<s.heap.objs.size):Inv (X.blk s H scope (compEnvC scope (cellsFrom (s.heap.objs.size+1) scope.names (bV X.env.cells scope.names [])) s.heap.objs.size X.env) fp) [] (cb σ (own.map (·.2))) H {s with heap:=pushCells (s.heap.push {cls:=.type "dict",data:=.dict #[]}) scope.names}:=by
 have No:∀y∈scope.names,y.2=.free->∃c,X.env.cells.lookup y.1=some c:=λy hy e=>by
  rcases ok.free y hy e with k|k
  .exact I.ok.has _ (.inl k)
  .exact I.ok.has _ (.inr k)
 generalize NF:compEnvC scope (cellsFrom (s.heap.objs.size+1) scope.names (bV X.env.cells scope.names [])) s.heap.objs.size X.env=L_;have kp:∀b o,s.heap.get? b=some o->(pushCells (s.heap.push {cls:=.type "dict",data:=.dict #[]}) scope.names).get? b=some o:=λb o e=>KA _ _ _ _ (Ha _ e);have hL:L_.locals=s.heap.objs.size:=by rw[<-NF];rfl
 have Of:L_.cells=cellsFrom (s.heap.objs.size+1) scope.names (bV X.env.cells scope.names []):=by rw[<-NF];rfl
 have hsc:L_.scope=EG scope X.env.scope:=by rw[<-NF];rfl
 rw[<-Il s.heap {cls:=.type "dict",data:=.dict #[]}]at Of;have cm:∀{y c},(y,c)∈bV X.env.cells scope.names []->X.env.cells.lookup y=some c/\c<s.heap.objs.size:=λ{y c} hm=>by
  rcases gI hm with hm|⟨h1,rfl⟩
  .cases hm
  .obtain⟨c,hc⟩:=No _ h1 rfl;rw[hc];obtain⟨w,z⟩:=I.cell _ _ hc;exact⟨rfl,z.lt⟩
 have mem:∀{y c},L_.cells.lookup y=some c->(X.env.cells.lookup y=some c/\c<s.heap.objs.size)\/(s.heap.objs.size+1<=c/\CellAt (pushCells (s.heap.push {cls:=.type "dict",data:=.dict #[]}) scope.names) c none):=λ{y c} e=>by
  rw[Of]at e;rcases gT (HN e)with hm|⟨_,h2,h3⟩
  .exact .inl (cm hm)
  .rw[Il]at h2;exact .inr ⟨h2,h3⟩
 have look:∀{y},scope.names.lookup y=some .free->∃c,L_.cells.lookup y=some c/\X.env.cells.lookup y=some c:=λ{y} hl=>by
  have hy:(y,NameKind.free)∈scope.names:=HN hl;obtain⟨c',e'⟩:=j1 (iS (names:=scope.names) (n:=(s.heap.push {cls:=.type "dict",data:=.dict #[]}).objs.size) (ja (cells:=X.env.cells) (acc:=[]) hy));rw[<-Of]at e';refine⟨c',e',?_⟩;rw[Of]at e';rcases gT (HN e')with hm|⟨h1,_,_⟩
  .exact(cm hm).1
  .have:=ok.uniq _ h1;rw[hl]at this;cases this
 have okB:(X.blk s H scope L_ fp).Ok:=by
  refine⟨I.ok.mod,by show L_.scope.kind=_;rw[hsc];exact ok.kind,by show L_.globals=_;rw[<-NF];exact I.ok.glob,by show L_.builtins=_;rw[<-NF];exact I.ok.blt,by show s.heap.objs.size<=L_.locals;rw[hL];exact Hu _,
   λy z c e1 e2=>?_,λy hy=>?_,λy c z e=>?_,I.ok.hd,I.ok.frames,.inl rfl,λb hb=>⟨?_,λy c e z=>?_⟩,I.bs,Hv I.ok.bsz I.sz,λb o e hb=>?_,λb hb z=>?_,I.stack,I.stkFree⟩
  .have e1:L_.cells.lookup y=some c:=e1;have e2:L_.cells.lookup z=some c:=e2;rw[Of]at e1 e2;refine lg (λp hp=>?_) (λy z c a b=>I.ok.inj y z c (cm a).1 (cm b).1) (HN e1) (HN e2);rw[Il];exact JR (cm (y:=p.1) (c:=p.2) hp).2
  .show∃c,L_.cells.lookup y=some c;have key:∀k,L_.kindOf y=some k->(k=.cell\/k=.free)->∃c,L_.cells.lookup y=some c:=λk hk ML=>by
    unfold Env.kindOf at hk;rw[hsc]at hk;obtain⟨k',e,r⟩:=i6 hk;have:k'=.cell\/k'=.free:=by
     rcases r with rfl|⟨rfl,_⟩
     .exact ML
     .exact .inr rfl
    rcases this with rfl|rfl
    .obtain⟨c,hm⟩:=lm (n:=(s.heap.push {cls:=.type "dict",data:=.dict #[]}).objs.size) (acc:=bV X.env.cells scope.names []) (HN e);obtain⟨c',e'⟩:=j1 hm;exact⟨c',by rw[Of];exact e'⟩
    .obtain⟨c,h1,_⟩:=look e;exact⟨c,h1⟩
   rcases hy with hy|hy
   .exact key _ hy (.inl rfl)
   .exact key _ hy (.inr rfl)
  .have z:(scope.names.lookup y==some NameKind.cell)=true:=z;have z:scope.names.lookup y=some .cell:=by simpa using z
   have e:L_.cells.lookup y=some c:=e;rw[Of]at e;rcases gT (HN e)with hm|⟨_,h2,_⟩
   .rcases gI hm with hm|⟨h1,_⟩
    .cases hm
    .have q:=ok.uniq _ h1;rw[z]at q;cases q
   .rw[Il]at h2;exact KW h2
  .show b≠L_.locals;rw[hL];exact HW (hfp b hb).2
  .have e:L_.cells.lookup y=some c:=e;rcases mem e with⟨h1,_⟩|⟨h1,_⟩
   .exact(hfp b hb).1.2.2.2.2.1 y c h1 z
   .have h2:s.heap.objs.size+1<=b:=by rw[<-z];exact h1
    exact absurd (HY (hfp b hb).2 (KW h2)) (Jh _)
  .rcases(hfp b hb).1.2.2.2.1 with z|z
   .exact I.ok.noex b o e z
   .exact absurd (HY (HB e) (Hv I.ok.bsz z)) (Jh _)
  .rcases Hi.mp (I.stkSub b z)with z|z
   .exact(hfp b hb).1.2.1 z
   .exact(hfp b hb).1.2.2.1 z
 refine⟨okB,rfl,I.bare,Un.kept kp,⟨λ_=>none,?_,λi y av e1 e2 e3=>?_⟩,λy c e=>?_,?_,λy c e=>?_,λp hp=>?_,I.hok.kept kp,by rw[i3];exact I.len⟩
 .show Ns _ L_.locals _;rw[hL];exact Ns.keeps (Ns.new ..) λb o e=>KA _ _ _ _ e
 .obtain⟨e2,MA⟩:=kJ e2;have hfr:scope.names.lookup y=some .free/\(L_.kindOf y=some .cell\/L_.kindOf y=some .free):=by
   have key:∀k,L_.scope.names.lookup y=some k->k=.local\/k=.cell\/k=.free->scope.names.lookup y=some .free/\(L_.kindOf y=some .cell\/L_.kindOf y=some .free):=λk hk ML=>by
    have hk0:=hk;rw[hsc]at hk;obtain⟨k',e,r⟩:=i6 hk;have no:¬(k'=.local\/k'=.cell):=λhh=>by
     rcases ok.own _ (HN e) hh with e'|e'
     .obtain⟨p,hp,hpy⟩:=HA.mp e';have e3:=ok.ix p hp;have:p.1=y:=hpy;rw[this]at e3;exact MA (HA.mpr ⟨p,hp,nF hN e3 e1⟩)
     .exact e' (Hl e1)
    rcases r with rfl|⟨rfl,rfl⟩
    .rcases ML with rfl|rfl|rfl
     .exact absurd (.inl rfl) no
     .exact absurd (.inr rfl) no
     .exact⟨e,.inr hk0⟩
    .exact⟨e,.inl hk0⟩
   have e3:Vis L_.scope y:=e3;rcases e3 with e3|e3|e3
   .exact key _ e3 (.inl rfl)
   .exact key _ e3 (.inr (.inl rfl))
   .exact key _ e3 (.inr (.inr rfl))
  obtain⟨m,hn,hl⟩:=I.loc;have hvis:Vis X.env.scope y:=(ok.free _ (HN hfr.1) rfl).elim (λk=>.inr (.inl k)) (λk=>.inr (.inr k));obtain⟨w,r,q⟩:=hl i y av e1 e2 hvis;refine⟨w,r,.inr ⟨hfr.2,?_⟩⟩;obtain⟨c,h1,h2⟩:=look hfr.1;rcases q with⟨k,_⟩|⟨_,c',e',z⟩
  .have k:X.env.scope.names.lookup y=some .local:=k;rcases ok.free _ (HN hfr.1) rfl with k'|k'<;>rw[show X.env.scope.names.lookup y=_ from k']at k<;>cases k
  .rw[h2]at e';cases e';exact⟨c,h1,z.keeps kp⟩
 .have e:L_.cells.lookup y=some c:=e;rcases mem e with⟨h1,_⟩|⟨_,z⟩
  .obtain⟨w,z⟩:=I.cell y c h1;exact⟨w,z.keeps kp⟩
  .exact⟨_,z⟩
 .show H L_.locals=none;rw[hL];exact I.hok.fresh (Hu _)
 .have e:L_.cells.lookup y=some c:=e;rcases mem e with⟨h1,_⟩|⟨h1,_⟩
  .exact I.freeC y c h1
  .exact I.hok.fresh (KW h1)
 .exact absurd (show p∈([]:List (Addr×Obj))++[]from hp) (by simp)
theorem DN{E:Value->Shared->Prop}{D:Addr}{xs:List V}{y:V}{v:Value}{Q:Value->Shared->Prop}(I:Inv X LX σ H s)(hD:H D=some (.lst xs))(hz:xs.length<sizeLine)(r:aR y v)(h:∀s',Inv X LX σ (upd H D (.lst (xs++[y]))) s'->Q .none s'):wpAny (model X.prog X.w) X.A (call (.builtin "list.append") [.ref D,v]) Q E s:=by obtain⟨Oy,its,n,ri,e⟩:=I.hok D _ hD;have hl:=ri.length;refine append_at (hsz:=by rw[HP];omega) e λh' sb NR=>?_;refine h {s with heap:=h'} (I.write (t':=s.toks) (by rw[hD];trivial) (.inl rfl) (λb u hb q=>(sb.2 b hb).trans q) ⟨_,NR⟩ ⟨by rw[Hx];exact hz,its++[v],n+1,ri.append (.cons r .nil),?_⟩);rw[NR];simp
def PTs(X:Cx)(NG:List Expr)(t:TT):Prop:=
 ∀(LX:List (Addr×Obj))(s:Shared)(σ:St)(H:Hp)(Q:Bool->Hp->Prop),Inv X LX σ H s->t σ H Q->
  wpAny (model X.prog X.w) X.A (forIn NG true λc r=>if r=true then do let ok<-isTrue c X.env (eval c X.env);pure (ForInStep.yield ok)else pure (ForInStep.yield r)) (TP X LX σ Q) X.xe s
def zo:TT:=λ_ H Q=>Q true H
theorem b7:PTs X [] zo:=λ_ _ _ H _ I h=>wpAny_tests_nil ⟨H,I,h⟩
theorem cC(h:PT X c t):PTs X [c] t:=λLX s σ H Q I hw=>wpAny_tests_one (h LX s σ H Q I hw)
end
theorem px{α:Type}{t:Sem α}{Q Q':α->Shared->Prop}{M:Model}{A:Around}{E:Value->Shared->Prop}{s:Shared}(h:wpAny M A t Q (λ_ _=>False) s)(hQ:∀a s,Q a s->Q' a s):wpAny M A t Q' E s:=Iq h hQ λ_ _ z=>False.elim z
theorem uO{prog:Program}{w:World}{A:Around}{R:Result->Shared->Prop}{s:Shared}{NZ target Me:Expr}{NG:List Expr}{scope:Scope}{pos:Pos}{it acc:Value}{env:Env}(I:Nat->Shared->Prop)
  (turn:∀n s,I n s->wpAny (model prog w) A (pyNext it) (λr s₁=>match r with
   |none=>R (.ok .next) s₁
   |some v=>wpAny (model prog w) A (letOwnedTupleGo target it v) (λ_ s₁'=>wpAny (model prog w) A (assign target env v) (λ_ s₂=>
     wpAny (model prog w) A (forIn NG true λc r=>if r=true then do let ok<-isTrue c env (eval c env);pure (ForInStep.yield ok)else pure (ForInStep.yield r)) (λok s₃=>
      if ok=true then wpAny (model prog w) A (eval NZ env) (λx s₄=>
       wpAny (model prog w) A (call (.builtin "list.append") [acc,x]) (λ_ s₅=>∃m,m<n/\I m s₅) (notedBy (model prog w) A env λe s'=>R (.error e) s') s₄) (notedBy (model prog w) A env λe s'=>R (.error e) s') s₃
      else∃m,m<n/\I m s₃) (notedBy (model prog w) A env λe s'=>R (.error e) s') s₂) (notedBy (model prog w) A env λe s'=>R (.error e) s') s₁') (notedBy (model prog w) A env λe s'=>R (.error e) s') s₁) (notedBy (model prog w) A env λe s'=>R (.error e) s') s)
  (n:Nat) (h:I n s):
  codeAny (model prog w) A (.compLoop (.ListComp NZ [⟨target,Me,NG,0⟩] scope pos) 0 it acc env) R s:=by
 refine codeAny_loop rfl I (λn s hI=>?_) n h;show wpAny _ A ((compTurn (.ListComp NZ [⟨target,Me,NG,0⟩] scope pos) 0 it acc env).onRaise (λx=>do noteFrame x env;theTreesLotGoes x)) _ _ s;refine wpAny_noted ?_;rw[compTurn_list];refine G7 (wpAny_standAt (G7 (Iq (turn n s hI) (λr s₁ h₁=>?_) λ_ _ h'=>h')));cases r with
 |none=>exact G_ h₁
 |some v=>
  refine G7 (Iq h₁ (λ_ s₁' h₁'=>?_) λ_ _ h'=>h');refine G7 (Iq h₁' (λ_ s₂ h₂=>G7 (Iq h₂ (λok s₃ h₃=>?_) λ_ _ h'=>h')) λ_ _ h'=>h');cases ok with
  |false=>exact G_ ⟨rfl,h₃⟩
  |true=>exact G7 (G7 (Iq h₃ (λx s₄ h₄=>G7 (Iq h₄ (λ_ s₅ h₅=>G_ (G_ ⟨rfl,h₅⟩)) λ_ _ h'=>h')) λ_ _ h'=>h'))
section
variable{X:Cx}
def tLc(wi:TI)(g:TG)(tt:TT)(te:TE)(vs:List Nat):TE:=λσ H Q=>wi σ H λJ H1=>∀D,H1 D=none->∃W:Nat->Nat->Hp->Prop,(∃m,W 0 m (upd H1 D (.lst [])))/\∀i m H,W i m H->
 (J.stop i H/\Q (.ref D) H)\/(J.go i H/\∃Nx:Hp->Prop,(∀H',Nx H'->∃m',m'<m/\W (i+1) m' H')/\∀x H',J.yld i H x H'->g x (cb σ vs) H' λσ2 H2=>cb σ2 vs=cb σ vs/\tt σ2 H2 λb H3=>
  if b=true then te σ2 H3 λy H4=>∃acc,H4 D=some (.lst acc)/\acc.length<sizeLine/\Nx (upd H4 D (.lst (acc++[y])))else Nx H3)
theorem wl{LX:List (Addr×Obj)}{s:Shared}{σ:St}{H:Hp}{Q:VK}{NZ tg Me:Expr}{NG:List Expr}{scope:Scope}{own:List (Str×Nat)}{pos MZ:Pos}{wi:TI}{g:TG}{tt:TT}{te:TE}{use:Option (Value->Sem Unit)}{Qf:Value->Shared->Prop} (hc:X.calm=true) (hN:X.N.Nodup) (I:Inv X LX σ H s) (hi:PI X tg Me wi) (ok:og X.N X.env.scope scope own)(hg:∀(s:Shared)(H:Hp)(C:Addr)(cl:List (Str×Addr))(fp:List Addr),PG (X.blk s H scope (compEnvC scope cl C X.env) fp) tg g) (ht:∀(s:Shared)(H:Hp)(C:Addr)(cl:List (Str×Addr))(fp:List Addr),PTs (X.blk s H scope (compEnvC scope cl C X.env) fp) NG tt)(he:∀(s:Shared)(H:Hp)(C:Addr)(cl:List (Str×Addr))(fp:List Addr),PE (X.blk s H scope (compEnvC scope cl C X.env) fp) NZ te) (hs:∀x,foldedSetIterable Me X.env x=pure x)(h:tLc wi g tt te (own.map (·.2)) σ H Q)(hRR:∀D C s' m H',Inv X LX σ H' s'->Q (.ref D) H'->s'.heap.Ns C m->gZ X LX H' C->compPost (model X.prog X.w) X.A X.xe use Qf (.ref D) C (.ok .next) s'):wpAny (model X.prog X.w) X.A (comprehension (.ListComp NZ [⟨tg,Me,NG,0⟩] scope pos) scope X.env MZ (newList []) false (eval Me X.env) use) Qf X.xe s:=by
 have No:∀y∈scope.names,y.2=.free->∃c,X.env.cells.lookup y.1=some c:=λy hy e=>by
  rcases ok.free y hy e with k|k
  .exact I.ok.has _ (.inl k)
  .exact I.ok.has _ (.inr k)
 refine wpAny_comprehension_free (use:=use) rfl hs (xJ No) ok.kind (λy hy e=>by rw[ok.uniq y hy,e])
  (thn (hi LX s σ H _ I h) λxv s1 hx=>thn hx λitv s2 h2=>?_)
 obtain⟨it,fp,tn,J,H2,e,I2,T,M5,f2,q⟩:=h2;subst e;refine HX (vm ?_) (by show 0<=sizeLine;decide);generalize hD:s2.heap.objs.size=D;have hDn:H2 D=none:=I2.hok.fresh (KD hD);obtain⟨W,⟨m0,w0⟩,turn⟩:=q D hDn;generalize hs3:({s2 with heap:=s2.heap.push {cls:=.type "list",data:=.seq ([]:List Value).toArray}}:Shared)=s3;have I3:Inv X LX σ (upd H2 D (.lst [])) s3:=by rw[<-hs3];refine I2.laid (t':=s2.toks) (λb o e=>Ha _ e) (KD hD) ⟨HJ _,[],0,.nil,?_⟩;rw[<-hD];exact Hj _ rfl
 have h3:s3.heap=s2.heap.push {cls:=.type "list",data:=.seq ([]:List Value).toArray}:=by rw[<-hs3]
 have sz:∀b∈fp,b<s2.heap.objs.size:=λb hb=>by obtain⟨o,e,_⟩:=T.obj _ _ M5 b hb;exact HB e
 have f3:∀b∈fp,gZ X LX (upd H2 D (.lst [])) b/\b<s3.heap.objs.size:=λb hb=>by have Mq:=sz b hb;refine⟨⟨?_,(f2 b hb).2⟩,by rw[h3,Il];exact JR Mq⟩;rw[ai (by rw[<-hD];exact HW Mq)];exact(f2 b hb).1
 have st3:tn 0 s3.heap:=T.keep _ _ _ M5 λb _ o e=>by rw[h3];exact Ha _ e
 have I4:=vL I3 ok hN f3;have pg:=hg s3 (upd H2 D (.lst [])) s3.heap.objs.size (cellsFrom (s3.heap.objs.size+1) scope.names (bV X.env.cells scope.names [])) fp;have pt:=ht s3 (upd H2 D (.lst [])) s3.heap.objs.size (cellsFrom (s3.heap.objs.size+1) scope.names (bV X.env.cells scope.names [])) fp;have pe:=he s3 (upd H2 D (.lst [])) s3.heap.objs.size (cellsFrom (s3.heap.objs.size+1) scope.names (bV X.env.cells scope.names [])) fp;show codeAny _ _ (.compStart (.ListComp NZ [⟨tg,Me,NG,0⟩] scope pos) 0 (.ref it) (.ref D) (compEnvC scope (cellsFrom (s3.heap.objs.size+1) scope.names (bV X.env.cells scope.names [])) s3.heap.objs.size X.env)) (compPost (model X.prog X.w) X.A X.xe use Qf (.ref D) s3.heap.objs.size) {s3 with heap:=pushCells (s3.heap.push {cls:=.type "dict",data:=.dict #[]}) scope.names};have nfp:∀b∈fp,(upd H2 D (.lst [])) b=none:=λb hb=>(f3 b hb).1.1;generalize hce:compEnvC scope (cellsFrom (s3.heap.objs.size+1) scope.names (bV X.env.cells scope.names [])) s3.heap.objs.size X.env=ce at I4 pg pt pe⊢;have cL:ce.locals=s3.heap.objs.size:=by subst hce;rfl
 generalize hH3:upd H2 D (.lst [])=H3 at I3 I4 pg pt pe w0 nfp f3;generalize hs4:({s3 with heap:=pushCells (s3.heap.push {cls:=.type "dict",data:=.dict #[]}) scope.names}:Shared)=s4 at I4⊢;have st4:tn 0 s4.heap:=T.keep _ _ _ st3 λb _ o e=>by rw[<-hs4];exact KA _ _ _ _ (Ha _ e)
 have NV:∀{σ':St}{H':Hp}{s':Shared},Inv (X.blk s3 H3 scope ce fp) [] σ' H' s'->(∀b∈fp,H' b=none)->∀b∈fp,gZ (X.blk s3 H3 scope ce fp) [] H' b:=λ{σ' H' s'} I' hn b hb=>
  ⟨hn b hb,(I'.ok.exf b hb).1,I'.ok.exfs b hb,.inl hb,λx c e=>(I'.ok.exf b hb).2 x c e,λp hp=>absurd (show p∈([]:List (Addr×Obj))++[]from hp) (by simp)⟩
 have loop:codeAny (model X.prog X.w) X.A (.compLoop (.ListComp NZ [⟨tg,Me,NG,0⟩] scope pos) 0 (.ref it) (.ref D) ce) (compPost (model X.prog X.w) X.A X.xe use Qf (.ref D) s3.heap.objs.size) s4:=by
  refine uO (λn s'=>∃i H',Inv (X.blk s3 H3 scope ce fp) [] (cb σ (own.map (·.2))) H' s'/\tn i s'.heap/\(∀b∈fp,H' b=none)/\W i n H') ?_ m0 ⟨0,H3,I4,st4,nfp,w0⟩;rintro n s5 ⟨i,H5,I5,st5,n5,w5⟩;rcases turn i n H5 w5 with⟨stop,qq⟩|⟨go,Nx,hNx,step⟩
  .have td:=T.done (X.blk s3 H3 scope ce fp) rfl rfl rfl hc i [] s5 _ H5 (λ_ _=>False) I5 (NV I5 n5) st5 stop;refine px td λr s6 ⟨hr,I6⟩=>?_;subst hr;have I7:Inv X LX σ H5 s6:=I3.call' (ch:=fp) I6.os I6.base I6.hok I6.bare λb hb=>⟨(f3 b hb).1.2.2.2.1,(f3 b hb).1.2.1,(f3 b hb).1.2.2.2.2.1,(f3 b hb).1.2.2.2.2.2⟩;have nC:H5 s3.heap.objs.size=none:=by have z:H5 ce.locals=none:=I6.free;rw[cL]at z;exact z
   obtain⟨m,hn,_⟩:=I6.loc;have hn:s6.heap.Ns ce.locals m:=hn;rw[cL]at hn;exact hRR D s3.heap.objs.size s6 m H5 I7 qq hn (I3.fpOk (Hu _) nC)
  .have ti:=T.item (X.blk s3 H3 scope ce fp) rfl rfl rfl hc i [] s5 _ H5 (λ_ _=>False) I5 (NV I5 n5) st5 go;refine px ti λr s6 ⟨u,hr,h6⟩=>?_;subst hr;refine px h6 λ_ s7 ⟨x,H7,I7,r7,y7,st7,n7⟩=>?_;have I7':=I7.pinned (NV I7 n7) (T.obj _ _ st7);refine px (pg _ s7 _ H7 x u _ I7' r7 (step x H7 y7)) λ_ s8 ⟨σ8,H8,I8,hw8,q8⟩=>?_;refine px (pt _ s8 σ8 H8 _ I8 q8) λb s9 ⟨H9,I9,q9⟩=>?_;have fin:∀{s':Shared}{H':Hp},Inv (X.blk s3 H3 scope ce fp) ([]++kD fp s7.heap) σ8 H' s'->Nx H'->∃m,m<n/\∃i H',Inv (X.blk s3 H3 scope ce fp) [] (cb σ (own.map (·.2))) H' s'/\tn i s'.heap/\(∀b∈fp,H' b=none)/\W i m H':=λ{s' H'} I' nx=>by
    obtain⟨m',hm,w'⟩:=hNx H' nx;have pin':∀b∈fp,∀o,s7.heap.get? b=some o->s'.heap.get? b=some o/\H' b=none:=λb hb o e=>
     let z:=I'.pin (b,o) (IS _ (IS _ (j0 hb e)))
     ⟨z.1,z.2.1⟩
    have hl:(cb σ (own.map (·.2))).length=σ8.length:=by rw[<-hw8,i3]
    refine⟨m',hm,i+1,H',(I'.unpinned (LX:=[])).weak hl (λj v e=>?_),T.keep _ _ _ st7 λb hb o e=>(pin' b hb o e).1,λb hb=>?_,w'⟩
    .rw[<-hw8]at e;exact(kJ e).1
    .obtain⟨o,e,_⟩:=T.obj _ _ st7 b hb;exact(pin' b hb o e).2
   cases b with
   |false=>simp only[false_eq_true,if_false]at q9⊢;exact fin I9 q9
   |true=>simp only[if_true]at q9⊢;refine px (pe _ s9 σ8 H9 _ I9 q9) λz Pj ⟨yv,H10,I10,r10,acc,hD10,hz10,nx⟩=>?_;exact DN (X:=X.blk s3 H3 scope ce fp) I10 hD10 hz10 r10 λs11 I11=>fin I11 nx
 exact codeAny_compStart_list loop (T.self X.A 0 _ _ _ st4 loop)
theorem bQ(hc:X.calm=true)(hN:X.N.Nodup)(hi:PI X tg Me wi)(ok:og X.N X.env.scope scope own)(hg:∀(s:Shared)(H:Hp)(C:Addr)(cl:List (Str×Addr))(fp:List Addr),PG (X.blk s H scope (compEnvC scope cl C X.env) fp) tg g) (ht:∀(s:Shared)(H:Hp)(C:Addr)(cl:List (Str×Addr))(fp:List Addr),PTs (X.blk s H scope (compEnvC scope cl C X.env) fp) NG tt)(he:∀(s:Shared)(H:Hp)(C:Addr)(cl:List (Str×Addr))(fp:List Addr),PE (X.blk s H scope (compEnvC scope cl C X.env) fp) NZ te) (hs:∀x,foldedSetIterable Me X.env x=pure x:=by intro _;rfl):PE X (.ListComp NZ [⟨tg,Me,NG,0⟩] scope pos) (tLc wi g tt te (own.map (·.2))):=by intro LX s σ H Q I h;rw[eval_ListComp];refine wl hc hN I hi ok hg ht he hs h λD C s' m H' I' q hn f=>⟨m,hn,λN8 sb=>?_⟩;obtain⟨f0,f1,f2,f3,f4,f5⟩:=f;exact⟨.ref D,H',I'.turned (t':=s'.toks) (λb o hb e=>(sb.2 b hb).trans e) f0 f1 f3 f4 f5,rfl,q⟩
theorem iw(hc:X.calm=true)(hN:X.N.Nodup)(hy:X.N[i]?=some y)(hyl:X.env.scope.names.lookup y=some .local)(hsw:swapsWith (.ListComp NZ [⟨tg,Me,NG,0⟩] scope pos) (some (.Name y py)) spos.line X.env=pure true) (hi:PI X tg Me wi) (ok:og X.N X.env.scope scope own)(hg:∀(s:Shared)(H:Hp)(C:Addr)(cl:List (Str×Addr))(fp:List Addr),PG (X.blk s H scope (compEnvC scope cl C X.env) fp) tg g) (ht:∀(s:Shared)(H:Hp)(C:Addr)(cl:List (Str×Addr))(fp:List Addr),PTs (X.blk s H scope (compEnvC scope cl C X.env) fp) NG tt)(he:∀(s:Shared)(H:Hp)(C:Addr)(cl:List (Str×Addr))(fp:List Addr),PE (X.blk s H scope (compEnvC scope cl C X.env) fp) NZ te) (hs:∀x,foldedSetIterable Me X.env x=pure x:=by intro _;rfl):PS X (.Assign [.Name y py] (.ListComp NZ [⟨tg,Me,NG,0⟩] scope pos) spos) (cu (tLc wi g tt te (own.map (·.2))) (bu i)):=by
 intro LX s σ H D I h;rw[exec_Assign_Name_used _ _ _ _ hsw];refine G7 (wpAny_standAt (G7 ?_));show wpAny _ X.A (do let _<-comprehension (.ListComp NZ [⟨tg,Me,NG,0⟩] scope pos) scope X.env (firstIterPos [⟨tg,Me,NG,0⟩] pos) (newList []) false (eval Me X.env) (some (assign (.Name y py) X.env))) _ _ s;have h:tLc wi g tt te (own.map (·.2)) σ H (λx H1=>bu i x σ H1 D.nx):=h;refine G7 (thn (wl (Qf:=λ_ s'=>SP X LX D .next s') hc hN I hi ok hg ht he hs h λL C s' m H' I' q hn f=>?_) λ_ s' hq=>G_ (G_ hq));show wpAny _ _ (assign (.Name y py) X.env (.ref L)) _ _ _;refine wpAny_assign_Name (qo (v:=V.ref L) I' hN hy (.inl hyl) rfl (λs2 I2 ⟨a,sb,ha⟩=>?_) (.inr hyl));obtain⟨f0,f1,f2,f3,f4,f5⟩:=f;have haC:C≠a:=by
  rcases ha with z|z
  .rw[z];exact f1
  .exact λe=>f4 y a z e.symm
 refine⟨m,hn.sameBut sb haC,λh3 sb3=>?_⟩;exact⟨_,H',I2.turned (t':=s2.toks) (λb o hb e=>(sb3.2 b hb).trans e) f0 f1 f3 f4 f5,q⟩
theorem jm(hk:env.scope.kind=.function)(hy:env.scope.names.lookup y=some .local)(hl:(py.line==pos.line)=true)(ha:(scope.names.any λ(n,k)=>n==y&&(k==.local||k==.cell))=false):swapsWith (.ListComp NZ gs scope pos) (some (.Name y py)) l env=pure true:=by
 have ky:env.kindOf y=some .local:=hy;have hb:env.blockKind=.function:=by unfold Env.blockKind;rw[hk];rfl
 unfold swapsWith;simp only[hb,ky,ha,Expr.pos,hl];rfl
end
def CI(N:List Str)(sc scope:Scope)(own:List (Str×Nat)):Bool:=
 (match scope.kind with| .function=>true|_=>false)&&(scope.names.all λy=>decide (scope.names.lookup y.1=some y.2))&&(own.all λp=>decide (N[p.2]?=some p.1))&&
  (scope.names.all λy=>match y.2 with
   | .free=>(match sc.names.lookup y.1 with|some .cell=>true|some .free=>true|_=>false)
   | .local=>decide (y.1∈own.map (·.1))||decide (y.1∉N)
   | .cell=>decide (y.1∈own.map (·.1))||decide (y.1∉N)
   |_=>true)
theorem aX(h:CI N sc scope own=true):og N sc scope own:=by
 unfold CI at h;simp only[and_eq_true,all_eq_true,decide_eq_true_eq]at h;obtain⟨⟨⟨h1,h2⟩,h3⟩,h4⟩:=h;refine⟨?_,h2,h3,λy hy e=>?_,λy hy e=>?_⟩
 .split at h1
  .assumption
  .cases h1
 .have q:=h4 y hy;simp only[e]at q;split at q<;>first|exact .inl (by assumption)|exact .inr (by assumption)|cases q
 .have q:=h4 y hy;rcases e with e|e<;>(simp only[e,or_eq_true,decide_eq_true_eq]at q;exact q)
section
variable{κ:Type} [DecidableEq κ]
def aQ(kvs:List (κ×V))(k:κ):Option V:=(kvs.find? λkv=>decide (kv.1=k)).map (·.2)
def bG(kvs:List (κ×V))(k:κ)(v:V):List (κ×V):=
 if(kvs.any λkv=>decide (kv.1=k))=true then kvs.map (λkv=>if kv.1=k then(kv.1,v)else kv)else kvs++[(k,v)]
def dY(kvs:List (κ×V))(k:κ):List (κ×V):=kvs.filter λkv=>decide (kv.1≠k)
theorem b8{p:κ×V}{r:List (κ×V)}{k:κ}(e:p.1=k):aQ (p::r) k=some p.2:=by simp[aQ,find?_cons,e]
theorem bR{p:κ×V}{r:List (κ×V)}{k:κ}(e:¬p.1=k):aQ (p::r) k=aQ r k:=by simp[aQ,find?_cons,e]
theorem gu(k:κ):∀kvs:List (κ×V),(kvs.any λkv=>decide (kv.1=k))=(aQ kvs k).isSome
 |[]=>rfl
 |p::r=>by
  rw[J7];by_cases e:p.1=k
  .simp only[b8 e,decide_eq_true e,Bool.true_or,isSome_some]
  .rw[bR e,Hw e,J6];exact gu k r
theorem sR(k j:κ)(y:V):∀kvs:List (κ×V),aQ (kvs.map λkv=>if kv.1=k then(kv.1,y)else kv) j=(aQ kvs j).map λx=>if j=k then y else x
 |[]=>rfl
 |p::r=>by
  have ih:=sR k j y r;rw[Hf];by_cases h:p.1=k
  .rw[Hc h];by_cases e:p.1=j
   .rw[b8 (p:=(p.1,y)) e,b8 e,map_some,Hc (e.symm.trans h)]
   .rw[bR (p:=(p.1,y)) e,bR e,ih]
  .rw[G9 h];by_cases e:p.1=j
   .rw[b8 (p:=p) e,b8 e,map_some,G9 (λz=>h (e.trans z))]
   .rw[bR (p:=p) e,bR e,ih]
theorem qk(k j:κ)(y:V):∀kvs:List (κ×V),aQ kvs k=none->aQ (kvs++[(k,y)]) j=if j=k then some y else aQ kvs j
 |[],_=>by
  by_cases e:k=j
  .rw[Hc e.symm];exact b8 (p:=(k,y)) e
  .rw[G9 (λz=>e z.symm)];exact bR (p:=(k,y)) e
 |p::r,hn=>by
  rw[cons_append];have hk:¬p.1=k:=λz=>by rw[b8 z]at hn;cases hn
  rw[bR hk]at hn;have ih:=qk k j y r hn;by_cases e:p.1=j
  .rw[b8 e,b8 e,G9 (λz=>hk (e.trans z))]
  .rw[bR e,bR e,ih]
theorem iq(kvs:List (κ×V))(k j:κ)(y:V):aQ (bG kvs k y) j=if j=k then some y else aQ kvs j:=by
 unfold bG;by_cases a:(kvs.any λkv=>decide (kv.1=k))=true
 .rw[Hc a,sR];rw[gu]at a;by_cases e:j=k
  .obtain⟨x,hx⟩:=Lp.mp a;rw[Hc e,e,hx,map_some,Hc rfl]
  .rw[G9 e];cases aQ kvs j with
   |none=>rfl
   |some x=>rw[map_some,G9 e]
 .rw[G9 a];refine qk k j y kvs ?_;rw[gu]at a;cases q:aQ kvs k with
  |none=>rfl
  |some x=>rw[q]at a;exact(a rfl).elim
theorem fu(kvs:List (κ×V))(k:κ)(v:V):(bG kvs k v).length<=kvs.length+1:=by
 unfold bG;split
 .rw[G8];omega
 .rw[Hx,Hr,length_nil];omega
theorem jM{kvs:List (κ×V)}{k:κ}(v:V)(h:aQ kvs k=none):bG kvs k v=kvs++[(k,v)]:=by unfold bG;rw[gu,h];exact G9 (by decide)
theorem dN.isSome_eq(r:dN o u):o.isSome=u.isSome:=by
 cases o with
 |none=>cases u with
  |none=>rfl
  |some _=>exact(show False from r).elim
 |some _=>cases u with
  |none=>exact(show False from r).elim
  |some _=>rfl
theorem dN.getD(r:dN o u)(rd:aR d d'):aR (o.getD d) (u.getD d'):=by
 cases o with
 |none=>cases u with
  |none=>exact rd
  |some _=>exact(show False from r).elim
 |some _=>cases u with
  |none=>exact(show False from r).elim
  |some _=>exact r
theorem KV.val{kvs:List (κ×V)}{vs:List (κ×Value)}(r:KV kvs vs)(k:κ):dN (aQ kvs k) (valueAt vs k):=by
 unfold KV at r;induction r with
 |nil=>exact True.intro
 |@cons p q ps qs h t ih=>
  obtain⟨h1,h2⟩:=h;by_cases e:p.1=k
  .have e':q.1=k:=h1.symm.trans e;have b:valueAt (q::qs) k=some q.2:=by simp[valueAt,find?_cons,e']
   rw[b8 e,b];exact h2
  .have e':¬q.1=k:=λz=>e (h1.trans z);have b:valueAt (q::qs) k=valueAt qs k:=by simp[valueAt,find?_cons,e']
   rw[bR e,b];exact ih
theorem KV.any{kvs:List (κ×V)}{vs:List (κ×Value)}(r:KV kvs vs)(k:κ):(kvs.any λkv=>decide (kv.1=k))=vs.any λkv=>decide (kv.1=k):=by
 unfold KV at r;induction r with
 |nil=>rfl
 |cons h t ih=>rw[J7,J7,ih,h.1]
theorem KV.repl(r:KV kvs vs)(k:κ)(ry:aR y u):
  KV (kvs.map λkv=>if kv.1=k then(kv.1,y)else kv) (vs.map λkv=>if kv.1=k then(kv.1,u)else kv):=by
 unfold KV at r⊢;induction r with
 |nil=>exact .nil
 |@cons p q ps qs h t ih=>
  rw[Hf,Hf];refine .cons ?_ ih;obtain⟨h1,h2⟩:=h;by_cases e:p.1=k
  .rw[Hc e,Hc (h1.symm.trans e)];exact⟨h1,ry⟩
  .rw[G9 e,G9 (λz=>e (h1.trans z))];exact⟨h1,h2⟩
theorem KV.put(r:KV kvs vs)(k:κ)(ry:aR y u):KV (bG kvs k y) (stored vs k u):=by
 unfold bG stored;rw[r.any k];by_cases e:(vs.any λkv=>decide (kv.1=k))=true
 .rw[Hc e,Hc e];exact r.repl k ry
 .rw[G9 e,G9 e];exact Paired.snoc r ⟨rfl,ry⟩
theorem KV.drop(r:KV kvs vs)(k:κ):KV (dY kvs k) (without vs k):=by
 unfold KV at r⊢;unfold dY without;induction r with
 |nil=>exact .nil
 |@cons p q ps qs h t ih=>
  obtain⟨h1,h2⟩:=h;rw[Hy,Hy];by_cases e:p.1=k
  .have a:¬decide (p.1≠k)=true:=by simp[e]
   have b:¬decide (q.1≠k)=true:=by simp[h1.symm.trans e]
   rw[G9 a,G9 b];exact ih
  .have e':¬q.1=k:=λz=>e (h1.trans z);have a:decide (p.1≠k)=true:=by simp[e]
   have b:decide (q.1≠k)=true:=by simp[e']
   rw[Hc a,Hc b];exact .cons ⟨h1,h2⟩ ih
theorem KV.keys{kvs:List (κ×V)}{vs:List (κ×Value)}(r:KV kvs vs):kvs.map (·.1)=vs.map (·.1):=by
 unfold KV at r;induction r with
 |nil=>rfl
 |cons h t ih=>rw[Hf,Hf,ih,h.1]
theorem KV.length{kvs:List (κ×V)}{vs:List (κ×Value)}(r:KV kvs vs):kvs.length=vs.length:=HC r
theorem AI(kvs:List (κ×V))(k:κ):(dY kvs k).length<=kvs.length:=Hz _ _
end
theorem fH(r:aR (kV k) u):(ba P w).is k u=true:=by
 cases k with
 |inl i=>obtain⟨t,e⟩:=(show∃t,u=Value.int i t from r);subst e;exact vo P w i t
 |inr x=>obtain⟨t,e⟩:=(show∃t,u=Value.str x t from r);subst e;exact vn P w x t
theorem qN:∀{ks:List Key}{us:List Value},aC (ks.map kV) us->ItemsAre (ba P w) ks us
 |[],_,r=>by rw[Kc]at r;cases r;exact .nil
 |k::ks,_,r=>by
  rw[Hf]at r;cases r with
  |cons h t=>exact .cons (fH h) (qN t)
abbrev KT(H:Hp):List (List Key×V)->List (List Key×Addr×Value)->Prop:=Paired λp q=>p.1=q.1/\H q.2.1=some (.tup (p.1.map kV))/\aR p.2 q.2.2
theorem KT.val{H:Hp}{kvs:List (List Key×V)}{xs:List (List Key×Addr×Value)}(r:KT H kvs xs)(k:List Key):dN (aQ kvs k) ((atKey xs k).map (·.2)):=by
 induction r with
 |nil=>exact True.intro
 |@cons p q ps qs h t ih=>
  obtain⟨h1,_,h2⟩:=h;by_cases e:p.1=k
  .have e':q.1=k:=h1.symm.trans e;have b:atKey (q::qs) k=some q.2:=by simp[atKey,find?_cons,e']
   rw[b8 e,b];exact h2
  .have e':¬q.1=k:=λz=>e (h1.trans z);have b:atKey (q::qs) k=atKey qs k:=by simp[atKey,find?_cons,e']
   rw[bR e,b];exact ih
theorem KT.repl(r:KT H kvs xs)(k:List Key)(ry:aR y u):
  KT H (kvs.map λkv=>if kv.1=k then(kv.1,y)else kv) (xs.map (putAt k u)):=by
 induction r with
 |nil=>exact .nil
 |@cons p q ps qs h t ih=>
  rw[Hf,Hf];refine .cons ?_ ih;obtain⟨h1,h2,h3⟩:=h;unfold putAt;by_cases e:p.1=k
  .rw[Hc e,Hc (h1.symm.trans e)];exact⟨h1,h2,ry⟩
  .rw[G9 e,G9 (λz=>e (h1.trans z))];exact⟨h1,h2,h3⟩
theorem KT.put(r:KT H kvs xs)(k:List Key)(hb:H b=some (.tup (k.map kV)))(ry:aR y u):KT H (bG kvs k y) (storedH xs k b u):=by
 have e:(kvs.any λkv=>decide (kv.1=k))=(atKey xs k).isSome:=by rw[gu,(r.val k).isSome_eq,isSome_map]
 unfold bG storedH;rw[e];by_cases q:(atKey xs k).isSome=true
 .rw[Hc q,Hc q];exact r.repl k ry
 .rw[G9 q,G9 q];exact Paired.snoc r ⟨rfl,hb,ry⟩
theorem KT.keeps(r:KT H kvs xs)(ht:∀b ys,H b=some (.tup ys)->H' b=some (.tup ys)):KT H' kvs xs:=
 Paired.mapP r λ_ _ z=>⟨z.1,ht _ _ z.2.1,z.2.2⟩
section
variable{P:Program}{w:World}{H:Hp}{h:Heap}{a:Addr}
theorem A0(ok:HOk P w H h)(e:Rd H a u):bZ P w H h a u:=e.ok ok
theorem g6(ok:HOk P w H h)(e:Rd H a (.dK kvs)):kvs.length<=sizeLine/\(a==sysModules)=false/\∃vs,KV kvs vs/\h.DictOf (ba P w) a vs:=
 show bZ P w H h a (.dK kvs)from A0 ok e
theorem gC(ok:HOk P w H h)(e:H a=some (.dK kvs)):kvs.length<=sizeLine/\(a==sysModules)=false/\∃vs,KV kvs vs/\h.DictOf (ba P w) a vs:=g6 ok (.inl e)
theorem jg(ok:HOk P w H h)(e:H a=some (.tup (ks.map kV))):(tupleKind (ba P w)).is h ks a:=by obtain⟨_,its,r,o,h1,h2,n,h3⟩:=(show bZ P w H h a (.tup (ks.map kV))from ok a _ e);exact⟨o,its.toArray,n,h1,h2,h3,by simpa using qN r⟩
theorem jH(ok:HOk P w H h)(e:Rd H a (.dT kvs)):kvs.length<=sizeLine/\(a==sysModules)=false/\ ∃xs,KT H kvs xs/\h.DictOfH (tupleKind (ba P w)) a xs:=by
 obtain⟨z,y,xs,r,o,es,ep,h1,h2,h3,h4,h5⟩:=(show bZ P w H h a (.dT kvs)from A0 ok e);refine⟨z,y,xs,r,o,es,ep,h1,h2,h3,h4,λx hx=>?_,h5⟩;have all:∀{l:List (List Key×V)}{m:List (List Key×Addr×Value)},KT H l m->∀x∈m,(tupleKind (ba P w)).is h x.1 x.2.1:=by
  intro l m q;induction q with
  |nil=>intro x hx;exact nomatch hx
  |@cons p q ps qs hq t ih=>
   intro x hx;rcases Hi.mp hx with e|hx
   .subst e;exact jg ok (by rw[<-hq.1];exact hq.2.1)
   .exact ih x hx
 exact all r x hx
theorem Ex(ok:HOk P w H h)(e:H a=some (.dT kvs)):kvs.length<=sizeLine/\(a==sysModules)=false/\ ∃xs,KT H kvs xs/\h.DictOfH (tupleKind (ba P w)) a xs:=jH ok (.inl e)
end
def bP(H:Hp)(a:Addr)(y:V)(r:Option V):Prop:=
 (∃kvs k,Rd H a (.dK kvs)/\y=kV k/\r=aQ kvs k)\/∃kvs k b,Rd H a (.dT kvs)/\y=.ref b/\H b=some (.tup (k.map kV))/\r=aQ kvs k
def dX(H:Hp)(a:Addr)(y v:V)(H':Hp):Prop:=
 (∃kvs k,H a=some (.dK kvs)/\y=kV k/\kvs.length<sizeLine/\H'=upd H a (.dK (bG kvs k v)))\/
 ∃kvs k b,H a=some (.dT kvs)/\y=.ref b/\H b=some (.tup (k.map kV))/\kvs.length<sizeLine/\H'=upd H a (.dT (bG kvs k v))
theorem bP.k{H:Hp}{a:Addr}{kvs:List (Key×V)}{k:Key}(e:H a=some (.dK kvs)):bP H a (kV k) (aQ kvs k):=.inl ⟨kvs,k,.inl e,rfl,rfl⟩
theorem bP.t{H:Hp}{a b:Addr}{kvs:List (List Key×V)}{k:List Key}(e:H a=some (.dT kvs))(eb:H b=some (.tup (k.map kV))):bP H a (.ref b) (aQ kvs k):=.inr ⟨kvs,k,b,.inl e,rfl,eb,rfl⟩
theorem dX.k{H:Hp}{a:Addr}{kvs:List (Key×V)}{k:Key}{v:V}(e:H a=some (.dK kvs))(hl:kvs.length<sizeLine):dX H a (kV k) v (upd H a (.dK (bG kvs k v))):=.inl ⟨kvs,k,e,rfl,hl,rfl⟩
theorem dX.t{H:Hp}{a b:Addr}{kvs:List (List Key×V)}{k:List Key}{v:V}(e:H a=some (.dT kvs))(eb:H b=some (.tup (k.map kV)))(hl:kvs.length<sizeLine):dX H a (.ref b) v (upd H a (.dT (bG kvs k v))):=.inr ⟨kvs,k,b,e,rfl,eb,hl,rfl⟩
section
variable{X:Cx}{LX:List (Addr×Obj)}{σ:St}{H:Hp}{s:Shared}{a:Addr}{y v:V}{u r:Value}{o:Option V}{A:Around}{E:Value->Shared->Prop}
theorem Inv.big(I:Inv X LX σ H s):sysModules<s.heap.objs.size:=by have h:mainGlobals<s.heap.objs.size:=(I.mod.glob.keeps I.bk).lt;exact K3 (by decide) h
theorem zf(hu:A.units+1<cLine)(I:Inv X LX σ H s)(g:bP H a y (some v))(ry:aR y u)(h:∀w' s',Inv X LX σ H s'->aR v w'->Q w' s'):wpAny (model X.prog X.w) A (getItem (.ref a) u) Q E s:=by
 rcases g with⟨kvs,k,e,ey,l⟩|⟨kvs,k,b,e,ey,eb,l⟩
 .subst ey;obtain⟨z,hd,vs,Mb,dd⟩:=g6 I.hok e;obtain⟨w',hw,Ny⟩:=dN.some_of (v:=v) (o:=valueAt vs k) (by rw[l];exact Mb.val k);exact wpAny_getItem_of (fH ry) dd.mapOf hw (h w' _ (I.tok _) Ny)
 .subst ey;cases(show u=Value.ref b from ry);obtain⟨z,hd,xs,Mb,dd⟩:=jH I.hok e;obtain⟨w',hw,Ny⟩:=dN.some_of (v:=v) (o:=(atKey xs k).map (·.2)) (by rw[l];exact Mb.val k);obtain⟨p,hp,hp2⟩:=IQ.mp hw;refine wpAny_getItem_heap (JG hu) (jg I.hok eb) dd hp ?_;rw[hp2];exact h w' _ (I.tok _) Ny
theorem ES(hu:A.units+1<cLine)(I:Inv X LX σ H s)(g:bP H a y o)(ry:aR y u)(h:∀s',Inv X LX σ H s'->Q (.bool o.isSome) s'):wpAny (model X.prog X.w) A (compareOp .In u (.ref a)) Q E s:=by
 rcases g with⟨kvs,k,e,ey,l⟩|⟨kvs,k,b,e,ey,eb,l⟩
 .subst ey;obtain⟨z,hd,vs,Mb,dd⟩:=g6 I.hok e;refine wpAny_in_of (fH ry) hd dd.mapOf ?_;rw[<-(Mb.val k).isSome_eq,<-l];exact h _ (I.tok _)
 .subst ey;cases(show u=Value.ref b from ry);obtain⟨z,hd,xs,Mb,dd⟩:=jH I.hok e;refine wpAny_in_heap (JG hu) (jg I.hok eb) hd dd ?_;have q:=(Mb.val k).isSome_eq;rw[isSome_map]at q;rw[<-q,<-l];exact h _ (I.tok _)
theorem B5(hu:A.units+1<cLine)(I:Inv X LX σ H s)(g:bP H a y o)(ry:aR y u)(h:∀s',Inv X LX σ H s'->Q (.bool (!o.isSome)) s'):wpAny (model X.prog X.w) A (compareOp .NotIn u (.ref a)) Q E s:=by
 rcases g with⟨kvs,k,e,ey,l⟩|⟨kvs,k,b,e,ey,eb,l⟩
 .subst ey;obtain⟨z,hd,vs,Mb,dd⟩:=g6 I.hok e;refine wpAny_notIn_of (fH ry) hd dd.mapOf ?_;rw[<-(Mb.val k).isSome_eq,<-l];exact h _ (I.tok _)
 .subst ey;cases(show u=Value.ref b from ry);obtain⟨z,hd,xs,Mb,dd⟩:=jH I.hok e;refine wpAny_notIn_heap (JG hu) (jg I.hok eb) hd dd ?_;have q:=(Mb.val k).isSome_eq;rw[isSome_map]at q;rw[<-q,<-l];exact h _ (I.tok _)
theorem mo{h':Heap}{t':Nat}{ob:HO}(I:Inv X LX σ H s)(mu:Mut (H a))(hs:Heap.SameBut a s.heap h')(he:∃q,h'.get? a=some q)(new:bZ X.prog X.w (upd H a ob) h' a ob):Inv X LX σ (upd H a ob) {s with heap:=h',toks:=t'}:=
 I.write (x:=a) (e:=a) mu (.inl rfl) (λb q hb z=>(hs.2 b hb).trans z) he new
theorem oB(z:kvs.length<=sizeLine)(hd:(a==sysModules)=false)(Mb:KV kvs vs)(dd:h'.DictOf (ba P w) a vs):bZ P w H' h' a (.dK kvs):=⟨z,hd,vs,Mb,dd⟩
theorem zd(hu:A.units+1<cLine)(I:Inv X LX σ H s)(g:dX H a y v H')(ry:aR y u)(rv:aR v r)(h:∀s',Inv X LX σ H' s'->Q () s'):wpAny (model X.prog X.w) A (setItem (.ref a) u r) Q E s:=by
 rcases g with⟨kvs,k,e,ey,l,eH⟩|⟨kvs,k,b,e,ey,eb,l,eH⟩
 .subst ey eH;obtain⟨z,hd,vs,Mb,dd⟩:=gC I.hok e;have hz:vs.length<=sizeLine:=by rw[<-Mb.length];exact z
  have hl:(bG kvs k v).length<=sizeLine:=by have:=fu kvs k v;omega
  refine wpAny_setItem_pairs (hsz:=hz) (fH ry) dd λh' Oz hs=>h _ ?_;have he:∃q,h'.get? a=some q:=let⟨q,_,_,hq,_⟩:=Oz;⟨q,hq⟩;exact mo I (by rw[e];exact True.intro) hs he (oB hl hd (Mb.put k rv) Oz)
 .subst ey eH;cases(show u=Value.ref b from ry);obtain⟨z,hd,xs,Mb,dd⟩:=Ex I.hok e;have hz:xs.length<=sizeLine:=by rw[<-HC Mb];exact z
  have hl:(bG kvs k v).length<=sizeLine:=by have:=fu kvs k v;omega
  refine wpAny_setItem_heap (hsz:=hz) (JG hu) (jg I.hok eb) dd λh' Oz hs=>h _ ?_;obtain⟨q,es,ep,hq,h2,h3,h4,_,h5⟩:=Oz;refine mo I (by rw[e];exact True.intro) hs ⟨q,hq⟩ ⟨hl,hd,_,(Mb.put k eb rv).keeps λc ys ec=>?_,q,es,ep,hq,h2,h3,h4,h5⟩;rw[ai (aF ec e (λz=>nomatch z))];exact ec
end
section
variable{X:Cx}{LX:List (Addr×Obj)}{σ:St}{H:Hp}{s:Shared}{a:Addr}{kvs:List (Key×V)}{k:Key}{u:Value}{A:Around}{E:Value->Shared->Prop}
theorem A6(I:Inv X LX σ H s)(e:H a=some (.dK kvs))(ry:aR (kV k) u)(l:aQ kvs k=some v)(hm:more=[]\/∃x,more=[x])(h:∀w' s',Inv X LX σ (upd H a (.dK (dY kvs k))) s'->aR v w'->Q w' s'):wpAny (model X.prog X.w) A (call (.builtin "dict.pop") (.ref a::u::more)) Q E s:=by
 obtain⟨z,hd,vs,Mb,dd⟩:=gC I.hok e;obtain⟨w',hw,Ny⟩:=dN.some_of (v:=v) (o:=valueAt vs k) (by rw[<-l];exact Mb.val k);have hp:(keyPart u).isSome=true:=by
  cases k with
  |inl i=>obtain⟨t,q⟩:=(show∃t,u=Value.int i t from ry);subst q;rfl
  |inr x=>obtain⟨t,q⟩:=(show∃t,u=Value.str x t from ry);subst q;rfl
 have ha:argsOk "dict.pop" ⟨.ref a::u::more,[]⟩:=by
  rcases hm with q|⟨x,q⟩
  .subst q;exact PySem.F.args_dict_pop_2 _ _
  .subst q;exact Ly _ _ _
 refine Ky K_ dd.typeIs LL ha (meets_dict_pop_there (ba X.prog X.w) a (fH ry) more hm hp)
  ⟨vs,w',dd,by rw[<-Mb.length];exact z,hw,λh' Oz hs=>h w' _ ?_ Ny⟩
 have he:∃q,h'.get? a=some q:=let⟨q,_,_,hq,_⟩:=Oz;⟨q,hq⟩;exact mo I (by rw[e];exact True.intro) hs he (oB (Hv (AI kvs k) z) hd (Mb.drop k) Oz)
theorem DE(I:Inv X LX σ H s)(e:H a=some (.dK kvs))(ry:aR (kV k) u)(l:aQ kvs k=none)(h:∀s',Inv X LX σ H s'->Q r s'):wpAny (model X.prog X.w) A (call (.builtin "dict.pop") [.ref a,u,r]) Q E s:=by
 obtain⟨z,hd,vs,Mb,dd⟩:=gC I.hok e;have hn:valueAt vs k=none:=dN.none_of (by rw[<-l];exact Mb.val k);have hp:(keyPart u).isSome=true:=by
  cases k with
  |inl i=>obtain⟨t,q⟩:=(show∃t,u=Value.int i t from ry);subst q;rfl
  |inr x=>obtain⟨t,q⟩:=(show∃t,u=Value.str x t from ry);subst q;rfl
 exact Ky K_ dd.typeIs LL (Ly _ _ _) (meets_dict_pop_default (ba X.prog X.w) a (fH ry) hd hp r) ⟨vs,dd,hn,h _ (I.tok _)⟩
theorem Ey(I:Inv X LX σ H s)(e:Rd H a (.dK kvs))(h:∀t s',Inv X LX σ H s'->Q (.int kvs.length t) s'):wpAny (model X.prog X.w) A (call (.builtin "len") [.ref a]) Q E s:=by obtain⟨z,hd,vs,Mb,dd⟩:=g6 I.hok e;refine call_len_dict hd dd (by rw[<-Mb.length];rw[Kj]at z;omega) ?_;rw[<-Mb.length];exact h _ _ (I.tok _)
end
def zA(i:Expr):Prop:=∀ov iv,subscripted i false ov iv=operate [ov,iv] (getItem ov iv)
theorem vT{prog:Program}{w:World}{A:Around}{E:Value->Shared->Prop}{s:Shared}{env:Env}{Mh MM:Expr}{pos:Pos}{T id:String}{Q:Value->Shared->Prop} (hl:typeLookup (.type T) "__getitem__"=pure (some (.builtin id))) (hs:zA MM)(h:wpAny (model prog w) A (eval Mh env) (λo s₁=>wpAny (model prog w) A (eval MM env) (λi s₂=>s₂.TypeIs o T/\wpAny (model prog w) A (getItem o i) Q E s₂) E s₁) E s):wpAny (model prog w) A (eval (.Subscript Mh MM pos) env) Q E s:=by
 refine Subscript_ (Iq h (λo s₁ h₁=>Iq h₁ (λi s₂ h₂=>?_) λ_ _ x=>x) λ_ _ x=>x);obtain⟨hT,h₂⟩:=h₂;unfold subscriptTail;refine G7 ?_;rw[getitemInPython_of_ne hT.not_modules];refine G7 (wpAny_specialOf hT hl ?_);have fin:wpAny (model prog w) A (subscripted MM false o i) (λr s₃=>wpAny (model prog w) A (letTemporaryGo Mh o r>>=λ_=>pure r) Q E s₃) E s₂:=by rw[hs o i];exact wpAny_operating (Iq h₂ (λr s₃ h₃=>G7 (wpAny_letTemporaryGo (G_ h₃))) λ_ _ x=>x)
 first
  |exact G_ (G7 fin)
  |exact wpAny_bind (wpAny_pure (wpAny_bind fin))
  |exact wpAny_bind fin
theorem vH(I:Inv X LX σ H s)(g:bP H a y o):s.TypeIs (.ref a) "dict":=by
 rcases g with⟨kvs,k,e,_,_⟩|⟨kvs,k,b,e,_,_,_⟩
 .obtain⟨_,_,vs,_,dd⟩:=g6 I.hok e;exact dd.typeIs
 .obtain⟨_,_,xs,_,dd⟩:=jH I.hok e;exact dd.typeIs
inductive EA(x y:V)(H2:Hp)(Q:VK):Prop|mk(a:Addr)(v:V)(_:x=.ref a)(_:bP H2 a y (some v))(_:Q v H2)
def Ef(td ty:TE):TE:=λσ H Q=>td σ H λx H1=>ty σ H1 λy H2=>EA x y H2 Q
inductive DR(H2:Hp)(x:V)(y:V)(Q:VK):Prop|mk(a:_)(o:_)(_:x=.ref a)(_:bP H2 a y o)(_:Q (.bl o.isSome) H2)
def ED(ty td:TE):TE:=λσ H Q=>ty σ H λy H1=>td σ H1 λx H2=>DR H2 x y Q
inductive zm(H2:Hp)(x:V)(y:V)(Q:VK):Prop|mk(a:_)(o:_)(_:x=.ref a)(_:bP H2 a y o)(_:Q (.bl (!o.isSome)) H2)
def Bc(ty td:TE):TE:=λσ H Q=>ty σ H λy H1=>td σ H1 λx H2=>zm H2 x y Q
inductive Cm(σ:St)(H3:Hp)(x:V)(y:V)(v:V)(D:jC):Prop|mk(a:_)(H4:_)(_:x=.ref a)(_:dX H3 a y v H4)(_:D.nx σ H4)
def AZ(td ty tv:TE):TS:=λD σ H=>tv σ H λv H1=>td σ H1 λx H2=>ty σ H2 λy H3=>Cm σ H3 x y v D
section
variable{X:Cx}{o i e Mh:Expr}{pos MZ Mx:Pos}{td ty tv:TE}
theorem dg(hu:X.A.units+1<cLine)(ho:PE X o td)(hi:PE X i ty)(hs:zA i):PE X (.Subscript o i pos) (Ef td ty):=by intro LX s σ H Q I h;refine vT Ll.lookup hs (thn (ho LX s σ H _ I h) λu s1 ⟨x,H1,I1,rx,q1⟩=>thn (hi LX s1 σ H1 _ I1 q1) λiv s2 ⟨y,H2,I2,ry,a,v,ex,g,q2⟩=>?_);subst ex;obtain rfl:u=Value.ref a:=rx;exact⟨vH I2 g,zf hu I2 g ry λw' s3 I3 Ny=>⟨v,H2,I3,Ny,q2⟩⟩
theorem il(hu:X.A.units+1<cLine)(hi:PE X i ty)(ho:PE X o td):PC X .In i o (ED ty td):=by intro LX s σ H Q I h;refine thn (hi LX s σ H _ I h) λiv s1 ⟨y,H1,I1,ry,q1⟩=>thn (ho LX s1 σ H1 _ I1 q1) λu s2 ⟨x,H2,I2,rx,a,ov,ex,g,q2⟩=>?_;subst ex;obtain rfl:u=Value.ref a:=rx;exact ES hu I2 g ry λs3 I3=>⟨.bl ov.isSome,H2,I3,rfl,q2⟩
theorem kR(hu:X.A.units+1<cLine)(hi:PE X i ty)(ho:PE X o td):PC X .NotIn i o (Bc ty td):=by intro LX s σ H Q I h;refine thn (hi LX s σ H _ I h) λiv s1 ⟨y,H1,I1,ry,q1⟩=>thn (ho LX s1 σ H1 _ I1 q1) λu s2 ⟨x,H2,I2,rx,a,ov,ex,g,q2⟩=>?_;subst ex;obtain rfl:u=Value.ref a:=rx;exact B5 hu I2 g ry λs3 I3=>⟨.bl (!ov.isSome),H2,I3,rfl,q2⟩
theorem fS(hu:X.A.units+1<cLine)(ho:PE X o td)(hi:PE X i ty)(hv:PE X Mh tv)(hs:swapsWith Mh (some (.Subscript o i MZ)) pos.line X.env=pure false):PS X (.Assign [.Subscript o i MZ] Mh pos) (AZ td ty tv):=by intro LX s σ H D I h;refine wpAny_Assign_Subscript (thn (hv LX s σ H _ I h) λr s1 ⟨v,H1,I1,rv,q1⟩=>thn (ho LX s1 σ H1 _ I1 q1) λu s2 ⟨x,H2,I2,rx,q2⟩=>thn (hi LX s2 σ H2 _ I2 q2) λiv s3 ⟨y,H3,I3,ry,a,H4,ex,g,q3⟩=>?_) hs;subst ex;obtain rfl:u=Value.ref a:=rx;exact zd hu I3 g ry rv λs4 I4=>⟨σ,H4,I4,q3⟩
end
theorem AK(h:Heap)(hb:sysModules<h.objs.size):bZ P w H (h.push {cls:=.type "dict",data:=.dict #[]}) h.objs.size (.dK []):=
 ⟨HJ _,Ia.mpr (Ho (HW hb)),[],.nil,Heap.DictOf.new h⟩
def CW:TE:=λ_ H Q=>∀p,H p=none->Q (.ref p) (upd H p (.dK []))
section
variable{X:Cx}{pos:Pos}
theorem cZ:PE X (.Dict [] [] pos) CW:=λLX s σ H Q I h=>
 wpAny_Dict_empty ⟨.ref s.heap.objs.size,_,I.laid (a:=s.heap.objs.size) (o:=.dK []) (t':=s.toks) (λ_ _ q=>Ha _ q) (Hu _) (AK s.heap I.big),rfl,h _ (I.hok.fresh (Hu _))⟩
end
structure M1(X:Cx)(o:Expr)(m:Str)(Mc:Pos)(e:Expr)(L6:Pos):Prop where
 base:attributeBase o m X.env (eval o X.env)=eval o X.env
 few:((backTo L6 (starEach [e] X.env)).all (λx=> !x.1)&&(backToKw L6 (keywordEach [] X.env)).all (λx=>x.1.isSome)
  &&decide (([e]:List Expr).length+([]:List Keyword).length+(if([]:List Keyword).isEmpty then 0 else 1)<30))=true
 line:(Mc.endLine==L6.line)=true
 trees:backTo L6 (starEach [e] X.env)=[(false,eval e X.env)]
structure M2(X:Cx)(o:Expr)(m:Str)(Mc:Pos)(e f:Expr)(L6:Pos):Prop where
 base:attributeBase o m X.env (eval o X.env)=eval o X.env
 few:((backTo L6 (starEach [e,f] X.env)).all (λx=> !x.1)&&(backToKw L6 (keywordEach [] X.env)).all (λx=>x.1.isSome)
  &&decide (([e,f]:List Expr).length+([]:List Keyword).length+(if([]:List Keyword).isEmpty then 0 else 1)<30))=true
 line:(Mc.endLine==L6.line)=true
 trees:backTo L6 (starEach [e,f] X.env)=[(false,eval e X.env),(false,eval f X.env)]
def IsD(H:Hp)(a:Addr):Prop:=(∃kvs,Rd H a (.dK kvs))\/∃kvs,Rd H a (.dT kvs)
theorem oy(I:Inv X LX σ H s)(d:IsD H a):s.TypeIs (.ref a) "dict"/\(∀b,Value.ref a=.ref b->∃ob,s.heap.get? b=some ob/\ob.dict=none)/\(a==sysModules)=false:=by
 rcases d with⟨kvs,e⟩|⟨kvs,e⟩
 .obtain⟨_,hd,vs,_,dd⟩:=g6 I.hok e;refine⟨dd.typeIs,λb q=>?_,hd⟩;cases q;obtain⟨ob,_,_,h1,h2,_⟩:=dd;exact⟨ob,h1,h2.2.1⟩
 .obtain⟨_,hd,xs,_,dd⟩:=jH I.hok e;refine⟨dd.typeIs,λb q=>?_,hd⟩;cases q;obtain⟨ob,_,_,h1,h2,_⟩:=dd;exact⟨ob,h1,h2.2.1⟩
section
variable{X:Cx}{LX:List (Addr×Obj)}{σ:St}{H:Hp}{s:Shared}{a:Addr}{y d:V}{u r:Value}{o:Option V}{A:Around}{E:Value->Shared->Prop}
theorem DF(hu:A.units+1<cLine)(I:Inv X LX σ H s)(g:bP H a y o)(ry:aR y u)(rd:aR d r)(h:∀w' s',Inv X LX σ H s'->aR (o.getD d) w'->Q w' s'):wpAny (model X.prog X.w) A (call (.builtin "dict.get") [.ref a,u,r]) Q E s:=by
 rcases g with⟨kvs,k,e,ey,l⟩|⟨kvs,k,b,e,ey,eb,l⟩
 .subst ey;obtain⟨z,hd,vs,Mb,dd⟩:=g6 I.hok e;refine Ky slot_dict_get dd.typeIs LK (Lx _ _ _) (meets_dict_get_default (ba X.prog X.w) a (fH ry) hd r) ⟨_,dd.mapOf,h _ _ (I.tok _) ?_⟩;rw[l];exact(Mb.val k).getD rd
 .subst ey;cases(show u=Value.ref b from ry);obtain⟨z,hd,xs,Mb,dd⟩:=jH I.hok e;refine Ky slot_dict_get dd.typeIs LK (Lx _ _ _) (meetsH_dict_get_default (tupleKind (ba X.prog X.w)) a b hd r) ⟨JG hu,k,xs,jg I.hok eb,dd,h _ _ (I.tok _) ?_⟩;rw[l];exact(Mb.val k).getD rd
end
def sv(td ty tx:TE):TE:=λσ H Q=>td σ H λx H1=>∃a,x=.ref a/\IsD H1 a/\ty σ H1 λy H2=>tx σ H2 λz H3=>∃o,bP H3 a y o/\Q (o.getD z) H3
def CV(td ty:TE):TE:=λσ H Q=>td σ H λx H1=>∃a,x=.ref a/\IsD H1 a/\ty σ H1 λy H2=>∃kvs k v,H2 a=some (.dK kvs)/\y=kV k/\aQ kvs k=some v/\Q v (upd H2 a (.dK (dY kvs k)))
def xP(td ty tx:TE):TE:=λσ H Q=>td σ H λx H1=>∃a,x=.ref a/\IsD H1 a/\ty σ H1 λy H2=>tx σ H2 λz H3=>∃kvs k,H3 a=some (.dK kvs)/\y=kV k/\
 (∀v,aQ kvs k=some v->Q v (upd H3 a (.dK (dY kvs k))))/\(aQ kvs k=none->Q z H3)
section
variable{X:Cx}{o e f:Expr}{Mc L6:Pos}{td ty tx:TE}
theorem iz(hu:X.A.units+1<cLine)(ho:PE X o td)(he:PE X e ty)(hf:PE X f tx)(m:M2 X o "get" Mc e f L6):PE X (.Call (.Attribute o "get" Mc) [e,f] [] L6) (sv td ty tx):=by
 intro LX s σ H Q I h;refine Ja m.base m.few m.line Jn slot_dict_get PySem.F.type_dict_get (thn (ho LX s σ H _ I h) λu s1 ⟨x,H1,I1,rx,a,ex,d,q1⟩=>?_);subst ex;obtain rfl:u=Value.ref a:=rx;obtain⟨t1,t2,_⟩:=oy I1 d;refine⟨t1,t2,?_⟩;rw[m.trees]
 refine Jp rfl (Jx (II (thn (he LX s1 σ H1 _ I1 q1) λiv s2 ⟨y,H2,I2,ry,q2⟩=>
  II (thn (hf LX s2 σ H2 _ I2 q2) λfv s3 ⟨z,H3,I3,rz,ov,g,q3⟩=>JO ?_))))
 exact DF hu I3 g ry rz λw' s4 I4 Ny=>⟨_,H3,I4,Ny,q3⟩
theorem Ae(ho:PE X o td)(he:PE X e ty)(m:M1 X o "pop" Mc e L6):PE X (.Call (.Attribute o "pop" Mc) [e] [] L6) (CV td ty):=by intro LX s σ H Q I h;refine Ja m.base m.few m.line Jn K_ type_dict_pop (thn (ho LX s σ H _ I h) λu s1 ⟨x,H1,I1,rx,a,ex,d,q1⟩=>?_);subst ex;obtain rfl:u=Value.ref a:=rx;obtain⟨t1,t2,_⟩:=oy I1 d;refine⟨t1,t2,?_⟩;rw[m.trees];refine Jp rfl (Jx (II (thn (he LX s1 σ H1 _ I1 q1) λiv s2 ⟨y,H2,I2,ry,kvs,k,v,ea,ey,l,q2⟩=>JO ?_)));subst ey;exact A6 I2 ea ry l (.inl rfl) λw' s3 I3 Ny=>⟨v,_,I3,Ny,q2⟩
theorem tz(ho:PE X o td)(he:PE X e ty)(hf:PE X f tx)(m:M2 X o "pop" Mc e f L6):PE X (.Call (.Attribute o "pop" Mc) [e,f] [] L6) (xP td ty tx):=by
 intro LX s σ H Q I h;refine Ja m.base m.few m.line Jn K_ type_dict_pop (thn (ho LX s σ H _ I h) λu s1 ⟨x,H1,I1,rx,a,ex,d,q1⟩=>?_);subst ex;obtain rfl:u=Value.ref a:=rx;obtain⟨t1,t2,_⟩:=oy I1 d;refine⟨t1,t2,?_⟩;rw[m.trees]
 refine Jp rfl (Jx (II (thn (he LX s1 σ H1 _ I1 q1) λiv s2 ⟨y,H2,I2,ry,q2⟩=>
  II (thn (hf LX s2 σ H2 _ I2 q2) λfv s3 ⟨z,H3,I3,rz,kvs,k,ea,ey,q3,q4⟩=>JO ?_))))
 subst ey;cases l:aQ kvs k with
 |some v=>exact A6 I3 ea ry l (.inr ⟨fv,rfl⟩) λw' s4 I4 Ny=>⟨v,_,I4,Ny,q3 v l⟩
 |none=>exact DE I3 ea ry l λs4 I4=>⟨z,H3,I4,rz,q4 l⟩
end
section
variable{X:Cx}{LX:List (Addr×Obj)}{σ:St}{H:Hp}{s:Shared}{a:Addr}{kvs:List (Key×V)}{A:Around}{E:Value->Shared->Prop}
theorem AM(I:Inv X LX σ H s)(e:Rd H a (.dK kvs))(h:∀p s',H p=none->Inv X LX σ (upd H p (.dK kvs)) s'->Q (.ref p) s'):wpAny (model X.prog X.w) A (call (.type "dict") [.ref a]) Q E s:=by obtain⟨z,hd,vs,Mb,dd⟩:=g6 I.hok e;refine kt_call_dict hd dd (by rw[<-Mb.length];exact z) λh' Oz hs=>?_;refine h _ _ (I.hok.fresh (Hu _)) (I.laid (a:=s.heap.objs.size) (o:=.dK kvs) (t':=s.toks) (λb q hq=>?_) (Hu _) (oB z (Ia.mpr (Ho (HW I.big))) Mb Oz));exact(hs.2 b (HW (HB hq))).trans (Ha _ hq)
end
section
variable{X:Cx}
theorem pM:∀{ps:List Addr}{us:List Value},aC (ps.map V.ref) us->us=ps.map Value.ref
 |[],us,r=>by rw[Kc]at r;cases r;rfl
 |p::ps,us,r=>by
  rw[Hf]at r;cases r with
  |cons h t=>cases h;rw[Hf,<-pM t]
end
section
variable{X:Cx}{LX:List (Addr×Obj)}{σ:St}{H:Hp}{s:Shared}{h':Heap}
theorem Inv.turnedL{t':Nat}{ch:List Addr}(I:Inv X LX σ H s)(k:∀b o,b∉ch->s.heap.get? b=some o->h'.get? b=some o)(hf:∀b∈ch,gZ X LX H b):Inv X LX σ H {s with heap:=h',toks:=t'}:=by
 have nit:∀b u,H b=some u->b∉ch:=λb u e z=>by have q:=(hf b z).1;rw[q]at e;cases e
 refine I.step (g':=s.gens) (d':=s.drawn) (ch:=ch) (λb hb=>⟨(hf b hb).2.2.2.1,(hf b hb).2.1,(hf b hb).2.2.2.2.1,(hf b hb).2.2.2.2.2⟩) (λb o _ _ hc e _=>k b o hc e) (λb o _ _ hc e _=>⟨o.slots,k b o hc e⟩)
  (λ_ _ _ _ n=>n) (λb o hc e=>⟨o,k b o hc e⟩) (λ_ _ e=>e) (λ_ _ _ e=>e) (λb ps e=>⟨#[],by rw[e];simp⟩) (λm hm=>?_) (λb u e=>?_) I.bare
 .obtain⟨o,es,ep,ho,r⟩:=hm;exact⟨o,es,ep,k _ o (λz=>(hf _ z).2.1 rfl) ho,r⟩
 .refine(I.hok b u e).stay (λc v hc q=>k c v ?_ q) (λ_ q=>q) λ_ _ q=>q;rcases hc with z|z
  .rw[z];exact nit b u e
  .exact nit c _ z
theorem Inv.turnedNew{t':Nat}{ch:List Addr}{T:Addr}{ob:HO}(I:Inv X LX σ H s)(k:∀b o,b∉ch->s.heap.get? b=some o->h'.get? b=some o)(hf:∀b∈ch,gZ X LX H b)(hT:s.heap.objs.size<=T)(new:bZ X.prog X.w (upd H T ob) h' T ob):Inv X LX σ (upd H T ob) {s with heap:=h',toks:=t'}:=by
 have hn:H T=none:=I.hok.fresh hT;have nit:∀b u,H b=some u->b∉ch:=λb u e z=>by have q:=(hf b z).1;rw[q]at e;cases e
 refine I.step (g':=s.gens) (d':=s.drawn) (ch:=ch) (λb hb=>⟨(hf b hb).2.2.2.1,(hf b hb).2.1,(hf b hb).2.2.2.2.1,(hf b hb).2.2.2.2.2⟩) (λb o _ _ hc e _=>k b o hc e) (λb o _ _ hc e _=>⟨o.slots,k b o hc e⟩)
  (λb o _ e n=>?_) (λb o hc e=>⟨o,k b o hc e⟩) (λb xs e=>?_) (λb o u e=>?_) (λb ps e=>⟨#[],?_⟩) (λm hm=>?_) (λb u e=>?_) I.bare
 .rw[ai (HW (HY (HB e) hT))];exact n
 .rw[ai (au e hn)];exact e
 .rw[ai (au e hn)];exact e
 .rw[ai (au e hn),e];simp
 .obtain⟨o,es,ep,ho,r⟩:=hm;exact⟨o,es,ep,k _ o (λz=>(hf _ z).2.1 rfl) ho,r⟩
 .by_cases hb:b=T
  .subst hb;rw[aa]at e;cases e;exact new
  .rw[ai hb]at e;refine(I.hok b u e).stay (λc v hc q=>k c v ?_ q) (λc q=>by rw[ai (au q hn)];exact q) λc xs q=>by rw[ai (au q hn)];exact q
   rcases hc with z|z
   .rw[z];exact nit b u e
   .exact nit c _ z
theorem Inv.lock(I:Inv X LX σ H s)(h:H d=some u)(mu:Mut (some u)):∃od,Inv X LX σ (upd H d (.frz od u)) s:=by
 have x:=I.hok d u h;have ex:∃od,s.heap.get? d=some od:=by
  cases u with
  |lst xs=>obtain⟨_,_,_,_,e⟩:=x;exact⟨_,e⟩
  |dK kvs=>obtain⟨_,_,_,_,o,_,_,e,_⟩:=x;exact⟨o,e⟩
  |dT kvs=>obtain⟨_,_,_,_,o,_,_,e,_⟩:=x;exact⟨o,e⟩
  |set S n=>obtain⟨o,_,_,_,e,_⟩:=x;exact⟨o,e⟩
  |ins C dx fs=>obtain⟨_,_,_,e,_⟩:=x;exact⟨_,e⟩
  |ext φ=>obtain⟨_,⟨_,e⟩,_⟩:=x;exact⟨_,e⟩
  |_=>exact False.elim mu
 obtain⟨od,e⟩:=ex;have new:bZ X.prog X.w (upd H d (.frz od u)) s.heap d (.frz od u):=by
  refine⟨e,x.stay (λb v _ q=>q) (λb q=>?_) λb xs q=>?_⟩
  .rw[ai (λz=>by rw[z,h]at q;cases q;exact mu)];exact q
  .rw[ai (λz=>by rw[z,h]at q;cases q;exact mu)];exact q
 exact⟨od,I.write (x:=d) (e:=d) (t':=s.toks) (h':=s.heap) (by rw[h];exact mu) (.inl rfl) (λb v _ q=>q) ⟨od,e⟩ new⟩
theorem Inv.nofrz(I:Inv X LX σ H s)(h:H d=some u)(mu:Mut (some u)):∀o' u',X.H_0 d≠some (.frz o' u'):=λo' u' e=>by have q:=I.base.frzs d o' u' e;rw[h]at q;cases q;exact mu
theorem Inv.unlock(I:Inv X LX σ H s)(h:H d=some (.frz od u))(hn:∀o' u',X.H_0 d≠some (.frz o' u')):Inv X LX σ (upd H d u) s:=by
 have neH:∀b o,H b=some o->(∀o' u',o≠ .frz o' u')->b≠d:=λb o e MA z=>by rw[z,h]at e;cases e;exact MA _ _ rfl
 have neN:∀b,H b=none->b≠d:=λb e z=>by rw[z,h]at e;cases e
 refine⟨I.ok,I.os,I.bare,⟨I.base.keep,I.base.slot,λb o e n hx=>?_,I.base.there,λb xs e=>?_,λb o x e=>?_,λb ps e=>?_⟩,I.loc,I.cell,?_,λx c e=>?_,λp hp=>?_,λb o e=>?_,I.len⟩
 .rw[ai (neN b (I.base.free b o e n hx))];exact I.base.free b o e n hx
 .have q:=I.base.tups b xs e;rw[ai (neH b _ q (λ_ _ z=>nomatch z))];exact q
 .have q:=I.base.frzs b o x e;rw[ai (λz=>by rw[z]at e;exact hn _ _ e)];exact q
 .obtain⟨m,q⟩:=I.base.tbls b ps e;exact⟨m,by rw[ai (neH b _ q (λ_ _ z=>nomatch z))];exact q⟩
 .rw[ai (neN _ I.free)];exact I.free
 .rw[ai (neN c (I.freeC x c e))];exact I.freeC x c e
 .obtain⟨e,n,r⟩:=I.pin p hp;exact⟨e,by rw[ai (neN _ n)];exact n,r⟩
 .by_cases hb:b=d
  .rw[hb,aa]at e;cases e;rw[hb];obtain⟨_,x⟩:=I.hok d _ h;exact x.stay (λc v _ q=>q) (λc q=>by rw[ai (neH c _ q (λ_ _ z=>nomatch z))];exact q) λc xs q=>by rw[ai (neH c _ q (λ_ _ z=>nomatch z))];exact q
  .rw[ai hb]at e;exact(I.hok b o e).stay (λc v _ q=>q) (λc q=>by rw[ai (neH c _ q (λ_ _ z=>nomatch z))];exact q) λc xs q=>by rw[ai (neH c _ q (λ_ _ z=>nomatch z))];exact q
end
def Ed(t:TS):TS:=λD σ H=>∃d u,H d=some u/\Mut (some u)/\∀od,t ⟨λσ' H'=>H' d=some (.frz od u)/\D.nx σ' (upd H' d u),λv H'=>H' d=some (.frz od u)/\D.rt v (upd H' d u),λσ' H'=>H' d=some (.frz od u)/\D.bk σ' (upd H' d u),λσ' H'=>H' d=some (.frz od u)/\D.ct σ' (upd H' d u)⟩ σ (upd H d (.frz od u))
def CU(t:TE):TE:=λσ H Q=>∃d u,H d=some u/\Mut (some u)/\∀od,t σ (upd H d (.frz od u)) λv H'=>H' d=some (.frz od u)/\Q v (upd H' d u)
section
variable{X:Cx}
theorem pO{st:Stmt}{t:TS}(h:PS X st t):PS X st (Ed t):=by
 intro LX s σ H D I hw;obtain⟨d,u,hd,mu,hw⟩:=hw;obtain⟨od,I1⟩:=I.lock hd mu;refine thn (h LX s σ _ _ I1 (hw od)) λf s1 q=>?_;cases f with
 |next=>obtain⟨σ',H',I2,e,q⟩:=q;exact⟨σ',_,I2.unlock e (I.nofrz hd mu),q⟩
 |brk=>obtain⟨σ',H',I2,e,q⟩:=q;exact⟨σ',_,I2.unlock e (I.nofrz hd mu),q⟩
 |cont=>obtain⟨σ',H',I2,e,q⟩:=q;exact⟨σ',_,I2.unlock e (I.nofrz hd mu),q⟩
 |ret v=>obtain⟨x,σ',H',I2,r,e,q⟩:=q;exact⟨x,σ',_,I2.unlock e (I.nofrz hd mu),r,q⟩
theorem v_(h:PE X e t):PE X e (CU t):=by intro LX s σ H Q I hw;obtain⟨d,u,hd,mu,hw⟩:=hw;obtain⟨od,I1⟩:=I.lock hd mu;refine thn (h LX s σ _ _ I1 (hw od)) λv s1 ⟨x,H1,I2,r,e2,q⟩=>?_;exact⟨x,_,I2.unlock e2 (I.nofrz hd mu),r,q⟩
theorem kE{tg:Expr}{LX:List (Addr×Obj)}{σ:St}{H:Hp}{s:Shared}{R:It->Hp->Prop}{J:It}{tn:Nat->Heap->Prop}{tk:Nat}(I:Inv X LX σ H s)(o:Obj)(T:gn X.prog X.w X.K tg J [s.heap.objs.size] s.heap.objs.size tn) (st:tn 0 (s.heap.push o)) (q:R J H):PIE X LX σ tg R (.ref s.heap.objs.size) {s with heap:=s.heap.push o,toks:=tk}:=by
 refine⟨s.heap.objs.size,[s.heap.objs.size],tn,J,H,rfl,I.kept λb ob e=>Ha _ e,T,st,λb hb=>?_,q⟩;have e:b=s.heap.objs.size:=by simpa using hb
 subst e;exact I.fpOk (Hu _) (I.hok.fresh (Hu _))
end
def Itc(lo c:Int)(n:Nat):It:=⟨λi _=>i<n,λi H x H'=>H'=H/\x=.int (lo+(i:Nat)*c),λi _=>n<=i⟩
theorem uT{P:Program}{w:World}{K:LS}{tg:Expr}(it:Addr)(lo c:Int)(n:Nat):gn P w K tg (Itc lo c n) [it] it (λi h=>IsRangeIter h it (lo+(i:Nat)*c) ((n:Int)-(i:Nat)) c)where
 mem:=by simp
 obj:=λi h st b hb=>by
  have e:b=it:=by simpa using hb
  subst e;exact⟨_,st,λv z=>nomatch z⟩
 keep:=λi h h' st k=>k it (by simp) _ st
 item:=by intro X hP hw hK hc i LX s σ H E I hf st hg;subst hP hw hK;obtain⟨f0,f1,f2,f3,f4,f5⟩:=hf it (by simp);have W:=Walks.range (prog:=X.prog) (w:=X.w) (I.ok.hd hc) it lo c n;refine W.item i s _ _ hg st λv h' tk hv MQ kk=>?_;obtain⟨t,rfl⟩:=hv;have I1:Inv X LX σ H {s with heap:=h',toks:=tk}:=I.turned (λb o hb e=>kk b o (by simpa using hb) e) f0 f1 f3 f4 f5;exact⟨_,rfl,jG (s:={s with heap:=h',toks:=tk}) (n:="range_iterator") MQ rfl rfl (by decide) ⟨.int (lo+(i:Nat)*c),H,I1,⟨t,rfl⟩,⟨rfl,rfl⟩,MQ,λb hb=>(hf b hb).1⟩⟩
 done:=by intro X hP hw hK hc i LX s σ H E I hf st hg;subst hP hw hK;obtain⟨f0,f1,f2,f3,f4,f5⟩:=hf it (by simp);exact wpAny_pyNext_range_end (I.ok.hd hc) st (by have:n<=i:=hg;omega) λh' eb=>⟨rfl,I.turned (t':=s.toks) (λb o hb e=>eb b o hb e) f0 f1 f3 f4 f5⟩
 self:=λA i s Q E st h=>wpAny_pyIter_rangeiter st h
def RgC(i j c:Int)(n:Nat):Prop:=c≠0/\c.natAbs<1073741824/\Builtin.Range.small i j c=true/\Builtin.Range.rangeSize i j c=n
theorem RgC.neg(ha: -(2^62)<=i)(Pk:i<2^62)(hb: -(2^62)<=j)(MW:j<2^62):RgC i j (-1) (i-j).toNat:=
 ⟨by decide,by decide,PySem.W.small_down ha Pk hb MW,PySem.W.rangeSize_downNat i j⟩
inductive Cq(H1:Hp)(vs:List V)(R:It->Hp->Prop):Prop|mk(i j c:Int)(n:Nat)(_:vs=[.int i,.int j,.int c])(_:RgC i j c n)(_:R (Itc i c n) H1)
def Er(ta:TA):TI:=λσ H R=>ta σ H λvs H1=>Cq H1 vs R
section
variable{X:Cx}{tg:Expr}
theorem kQ(hg:Gl X "range")(hm:X.mg "range"=none)(ha:PA X [a,b,c] ta)(hs:starEach [a,b,c] X.env=(false,eval a X.env)::starEach [b,c] X.env:=by rfl) (Ms:(backTo pos (starEach [b,c] X.env)).any (·.1)=false:=by rfl):PI X tg (.Call (.Name "range" p) [a,b,c] [] pos) (Er ta):=by
 intro LX s σ H R I h;refine Call_ (gM I hg hm boot_range (Iy (thn (ha pos LX s σ H _ I h) λus s1 ⟨vs,H1,I1,r1,q1⟩=>?_) hs Ms));obtain⟨i,j,k,n,e,⟨c0,c1,c2,c3⟩,q⟩:=q1;subst e;cases r1 with
 |cons r rr=>
  cases rr with
  |cons r' rr=>
   cases rr with
   |cons r'' rr=>
    cases rr;obtain⟨t,rfl⟩:=r;obtain⟨t',rfl⟩:=r';obtain⟨t'',rfl⟩:=r'';refine call_range_3 c0 ?_ (.inl (LP c1));refine wpAny_pyIter_range (IsRange.new ..) c2 ?_;have I2:Inv X LX σ H1 {s1 with heap:=s1.heap.push {cls:=.type "range",data:=.fields #[.int i t,.int j t',.int k t'']}}:=I1.kept (t':=s1.toks) λb o e=>Ha _ e;refine kE (tk:=s1.toks) I2 _ (uT _ i k n) ?_ q;have e1:i+((0:Nat):Int)*k=i:=by simp
    have e2:(n:Int)-((0:Nat):Int)=Builtin.Range.rangeSize i j k:=by rw[c3];simp
    show IsRangeIter _ _ (i+((0:Nat):Int)*k) ((n:Int)-((0:Nat):Int)) k;rw[e1,e2];exact Hj _ rfl
end
section
variable{prog:Program}{w:World}{A:Around}{E:Value->Shared->Prop}{s:Shared}
theorem qM(hd:(d==sysModules)=false)(ho:s.heap.get? d=some o)(hc:o.ExactDict)(hdat:o.data=.dict es ep)(hQ:Q (.ref s.heap.objs.size) {s with heap:=s.heap.push {cls:=.type "dict_keyiterator",data:=.fields #[.ref d,.int 0 0,.int es.size 0,.int ep 0]}}):wpAny (model prog w) A (pyIter (.ref d)) Q E s:=by have hT:s.TypeIs (.ref d) "dict":=⟨o,ho,hc.1⟩;refine Kl hT F.slot_dict_iter (Ih F.slot_dict_iter hT F.entry_dict_iter ?_ (F.args_dict_iter_1 _));unfold Builtin.«dict.__iter__»;refine G7 ?_;unfold Builtin.Dict.dictSlotNone;refine G7 (wpAny_notOrdered_dict hT ?_);show wpAny _ _ (pure (Value.ref d)) _ _ s;refine G_ ?_;show wpAny _ _ (Builtin.Dict.showsAll d>>=_) _ _ s;unfold Builtin.Dict.showsAll;rw[G9 (by rw[hd];exact Hm)];refine G7 (G_ ?_);refine G7 (Lf ho hdat ?_);refine G7 (LO ho hdat ?_);refine G7 (HX (G_ ⟨_,rfl,"dict_keyiterator",_,⟨_,Hj _ rfl,rfl⟩,Iz.lookup,?_⟩));simpa[rawInt]using hQ
theorem rJ(hit:s.heap.IsKeyIter it d i n ep)(NH:s.heap.get? d=some od)(hdd:od.data=.dict es ep)(hsz:es.size=n) (hx:es[i]?=some en) (hQ:∀h',h'.IsKeyIter it d (i+1) n ep->Heap.SameBut it s.heap h'->Q (some en.key) {s with heap:=h'}):wpAny (model prog w) A (pyNext (.ref it)) Q E s:=by
 obtain⟨o,ho,hc,hd⟩:=id hit;unfold pyNext
 refine G7 (JU (IA (name:=Str.ofString "__next__") hit.typeIs Iz
  (Ih Iz hit.typeIs Lz ?_ (Lr _))))
 refine G7 (G_ ?_);refine G7 ?_;refine G7 ?_
 first|refine G7 (Jo hit.typeIs (G_ ?_))|refine wpAny_bind (wpAny_typeNameOf_keyiter hit.typeIs (wpAny_pure ?_))
 refine G7 (JP ho hd ?_);have hown:Builtin.Dict_items.ownsTuple "dict_keyiterator"=false:=by decide
 simp only[hown,false_eq_true,if_false];show wpAny _ _ (if(Value.ref d==Value.none)=true then _ else _) _ _ s;rw[G9 (show¬((Value.ref d==Value.none)=true)from Hm)];refine G7 (G_ ?_);refine G7 (Lf NH hdd ?_);rw[G9 (by rw[hsz];simp)];refine G7 (G_ ?_);refine G7 (LO NH hdd ?_);rw[G9 (by simp)];refine G_ ?_;obtain⟨Pl,hen⟩:=Lb.mp hx;simp only[show¬((i:Int)<0)from by omega,if_false,toNat_natCast,Array.getElem?_eq_getElem Pl];refine G7 ?_
 first|refine G7 (Jo hit.typeIs (G_ ?_))|refine wpAny_bind (wpAny_typeNameOf_keyiter hit.typeIs (wpAny_pure ?_))
 refine G7 (wpAny_isOneOf_keyiter hit.typeIs ?_);show wpAny _ _ (setField (.ref it) 1 (rawInt ((i:Int)+1))>>=_) _ _ s;refine G7 (KR ho hd (by simp) ?_);have Pn:(s.heap.update it (Obj.mapFields (·.setIfInBounds 1 (rawInt ((i:Int)+1))))).IsKeyIter it d (i+1) n ep:=
  ⟨_,J4 _ ho (Obj.isFreed_of_fields (Ka hd _)),(Obj.cls_mapFields ..).trans hc,by rw[Ka hd];simp[rawInt]⟩
 refine G7 (Jg ?_);refine G7 (wpAny_isOneOf_keyiter (s:={s with heap:=s.heap.update it (Obj.mapFields (·.setIfInBounds 1 (rawInt ((i:Int)+1))))}) Pn.typeIs ?_);show wpAny _ _ (pure es[i].key) _ _ _;rw[hen];exact G_ (G_ ⟨_,rfl,G_ (hQ _ Pn (Jj ..))⟩)
theorem lO(hh:A.handled=none)(hit:s.heap.IsKeyIter it d i n ep)(NH:s.heap.get? d=some od)(hdd:od.data=.dict es ep)(hsz:es.size=n) (hge:n<=i) (hQ:∀h',ExtBut it s.heap h'->Q none {s with heap:=h'}):wpAny (model prog w) A (pyNext (.ref it)) Q E s:=by
 obtain⟨o,ho,hc,hd⟩:=id hit;unfold pyNext
 refine G7 (JU (IA (name:=Str.ofString "__next__") hit.typeIs Iz
  (Ih Iz hit.typeIs Lz ?_ (Lr _))))
 refine G7 (G_ ?_);refine G7 ?_;refine G7 ?_
 first|refine G7 (Jo hit.typeIs (G_ ?_))|refine wpAny_bind (wpAny_typeNameOf_keyiter hit.typeIs (wpAny_pure ?_))
 refine G7 (JP ho hd ?_);have hown:Builtin.Dict_items.ownsTuple "dict_keyiterator"=false:=by decide
 simp only[hown,false_eq_true,if_false];show wpAny _ _ (if(Value.ref d==Value.none)=true then _ else _) _ _ s;rw[G9 (show¬((Value.ref d==Value.none)=true)from Hm)];refine G7 (G_ ?_);refine G7 (Lf NH hdd ?_);rw[G9 (by rw[hsz];simp)];refine G7 (G_ ?_);refine G7 (LO NH hdd ?_);rw[G9 (by simp)];refine G_ ?_;have hge':es.size<=i:=by rw[hsz];exact hge
 simp only[show¬((i:Int)<0)from by omega,if_false,toNat_natCast,Array.getElem?_eq_none hge'];refine G7 ?_
 first|refine G7 (Jo hit.typeIs (G_ ?_))|refine wpAny_bind (wpAny_typeNameOf_keyiter hit.typeIs (wpAny_pure ?_))
 show wpAny _ _ (setField (.ref it) 0 .none>>=_) _ _ s;refine G7 (KR ho hd (by simp) ?_);show wpAny _ _ (newExc (.type "StopIteration") []>>=_) _ _ _;refine G7 ?_;simp only[newExc,newTuple];refine G7 (HX ?_ (by size_fits));refine G7 (m:=firstArgMember _ _) (KS (a:=Value.none) (by first|rfl|(simp only[firstArgMember];rfl)) ?_);refine HX ?_ (by size_fits);simp only[raiseNew];refine G7 (KZ ?_);rw[show A.in1.handled=none from hh];refine G7 (G_ (LC ?_));refine G7 (Kt (T:="StopIteration") (b:=true) ⟨_,Hj _ rfl,rfl⟩ isSubtype_stop ?_);exact G_ (hQ _ (((Jj ..).extBut.push _).push _))
end
theorem sL{κ:Type}{kvs:List (κ×V)}{vs:List (κ×Value)}(h:KV kvs vs):∀{i:Nat}{k:κ}{v:V},kvs[i]?=some (k,v)->∃u,vs[i]?=some (k,u)/\aR v u:=by
 unfold KV at h;induction h with
 |nil=>intro i k v e;simp at e
 |@cons a b l₁ l₂ r t ih=>
  intro i k v e;cases i with
  |zero=>simp only[List.getElem?_cons_zero,Option.some.injEq]at e;subst e;refine⟨b.2,?_,r.2⟩;simp only[List.getElem?_cons_zero];exact HU some (Prod.ext r.1.symm rfl)
  |succ j=>simp only[List.getElem?_cons_succ]at e⊢;exact ih e
theorem xt{α β:Type}{G:α->β->Prop}{l₁:List α}{l₂:List β}(h:Paired G l₁ l₂):∀{i:Nat}{a:α},l₁[i]?=some a->∃b,l₂[i]?=some b/\G a b:=by
 induction h with
 |nil=>intro i a e;simp at e
 |@cons a b l₁ l₂ r t ih=>
  intro i a' e;cases i with
  |zero=>simp only[List.getElem?_cons_zero,Option.some.injEq]at e;subst e;exact⟨b,rfl,r⟩
  |succ j=>simp only[List.getElem?_cons_succ]at e⊢;exact ih e
theorem sZ(h:g5 k u=true):aR (kV k) u:=by
 rcases ca h with⟨i,t,rfl,rfl⟩|⟨x,t,rfl,rfl⟩
 .exact⟨t,rfl⟩
 .exact⟨t,rfl⟩
section
variable{X:Cx}{LX:List (Addr×Obj)}{σ:St}{H:Hp}{s:Shared}{d:Addr}{o:Obj}
theorem Inv.frzK(I:Inv X LX σ H s)(h:H d=some (.frz o (.dK kvs))):(d==sysModules)=false/\s.heap.get? d=some o/\o.ExactDict/\∃(es:Array DictEntry)(ep:Nat)(vs:List (Key×Value)),o.data=.dict es ep/\es.size=kvs.length/\KV kvs vs/\s.heap.DictAt (ba X.prog X.w) d vs ep:=by obtain⟨hd,z,hs,vs,kv,o',es,ep,ho,hx,MB,r⟩:=I.hok d _ h;rw[hd]at ho;cases ho;refine⟨hs,hd,hx,es,ep,vs,MB,?_,kv,o,es,hd,hx,MB,r⟩;have l1:=r.2.1.length;have l2:kvs.length=vs.length:=HC kv;rw[HR]at l1;omega
theorem Inv.frzT{kvs:List (List Key×V)}(I:Inv X LX σ H s)(h:H d=some (.frz o (.dT kvs))):(d==sysModules)=false/\s.heap.get? d=some o/\o.ExactDict/\∃(es:Array DictEntry)(ep:Nat),o.data=.dict es ep/\es.size=kvs.length/\ ∀(i:Nat)(k:List Key)(v:V),kvs[i]?=some (k,v)->∃(en:DictEntry)(q:Addr),es[i]?=some en/\en.key=.ref q/\H q=some (.tup (k.map kV)):=by
 obtain⟨hd,z,hs,xs,pr,o',es,ep,ho,hx,MB,he,_⟩:=I.hok d _ h;rw[hd]at ho;cases ho;refine⟨hs,hd,hx,es,ep,MB,?_,λi k v e=>?_⟩
 .have l1:es.size=xs.length:=size_of_entries he;have l2:kvs.length=xs.length:=HC pr;omega
 .obtain⟨b,hb,e1,e2,_⟩:=xt pr e;have q:=entry_at he i;rw[hb]at q;exact⟨_,b.2.1,q,rfl,e2⟩
end
def Itk(d:Addr)(o:Obj)(kvs:List (Key×V)):It:=
 ⟨λi H=>H d=some (.frz o (.dK kvs))/\i<kvs.length,λi H x H'=>H'=H/\∃k v,kvs[i]?=some (k,v)/\x=kV k,λi H=>H d=some (.frz o (.dK kvs))/\kvs.length<=i⟩
def CL(d:Addr)(o:Obj)(kvs:List (List Key×V)):It:=
 ⟨λi H=>H d=some (.frz o (.dT kvs))/\i<kvs.length,λi H x H'=>H'=H/\∃(k:List Key)(v:V)(q:Addr),kvs[i]?=some (k,v)/\x=.ref q/\H q=some (.tup (k.map kV)),λi H=>H d=some (.frz o (.dT kvs))/\kvs.length<=i⟩
def Itd(d:Addr)(o:Obj)(kvs:List (Key×V)):It:=
 ⟨λi H=>H d=some (.frz o (.dK kvs))/\i<kvs.length,λi H x H'=>H'=H/\∃k,kvs[i]?=some (k,x),λi H=>H d=some (.frz o (.dK kvs))/\kvs.length<=i⟩
def Iti(d:Addr)(o:Obj)(kvs:List (Key×V)):It:=
 ⟨λi H=>H d=some (.frz o (.dK kvs))/\i<kvs.length,λi H x H'=>∃T k v,kvs[i]?=some (k,v)/\x=.ref T/\H T=none/\H'=upd H T (.tup [kV k,v]),λi H=>H d=some (.frz o (.dK kvs))/\kvs.length<=i⟩
theorem fV{o:Obj}{es es':Array DictEntry}{ep NS:Nat}(h:o.data=.dict es ep)(h':o.data=.dict es' NS):es'=es/\NS=ep:=by rw[h]at h';cases h';exact⟨rfl,rfl⟩
section
variable{P:Program}{w:World}{K:LS}{tg:Expr}{d:Addr}{o:Obj}{es:Array DictEntry}{ep:Nat}
theorem yx{kvs:List (Key×V)}(it:Addr)(NH:o.data=.dict es ep):gn P w K tg (Itk d o kvs) [it] it (λi h=>h.IsKeyIter it d i kvs.length ep)where
 mem:=by simp
 obj:=λi h st b hb=>by
  have e:b=it:=by simpa using hb
  subst e;obtain⟨oi,e,c,dd⟩:=st;exact⟨oi,e,λv z=>by rw[dd]at z;cases z⟩
 keep:=λi h h' st k=>st.at λoi e=>k it (by simp) oi e
 item:=by intro X hP hw hK hc i LX s σ H E I hf st hg;subst hP hw hK;obtain⟨hd,hi⟩:=hg;obtain⟨f0,f1,f2,f3,f4,f5⟩:=hf it (by simp);obtain⟨hs,Nh,hx,es',NS,vs,MB,hsz,kv,hm⟩:=I.frzK hd;obtain⟨rfl,rfl⟩:=fV NH MB;obtain⟨⟨k,v⟩,hkv⟩:∃p,kvs[i]?=some p:=⟨kvs[i],Hn hi⟩;obtain⟨u,hu,ru⟩:=sL kv hkv;have hl:kvs.length=vs.length:=HC kv;rw[hl]at st;refine wpAny_pyNext_dict_item st hm hu λkey h' NW MQ sb=>?_;have I1:Inv X LX σ H {s with heap:=h'}:=I.turned (t':=s.toks) (λb ob hb e=>(sb.2 b hb).trans e) f0 f1 f3 f4 f5;obtain⟨oi,e,c,dd⟩:=id MQ;refine⟨key,rfl,jG (s:={s with heap:=h'}) e c dd (by decide) ⟨kV k,H,I1,sZ (show g5 k key=true from NW),⟨rfl,k,v,hkv,rfl⟩,?_,λb hb=>(hf b hb).1⟩⟩;show h'.IsKeyIter it d (i+1) kvs.length _;rw[hl];exact MQ
 done:=by intro X hP hw hK hc i LX s σ H E I hf st hg;subst hP hw hK;obtain⟨hd,hi⟩:=hg;obtain⟨f0,f1,f2,f3,f4,f5⟩:=hf it (by simp);obtain⟨hs,Nh,hx,es',NS,vs,MB,hsz,kv,hm⟩:=I.frzK hd;obtain⟨rfl,rfl⟩:=fV NH MB;exact lO (I.ok.hd hc) st Nh MB hsz hi λh' eb=>⟨rfl,I.turned (t':=s.toks) (λb ob hb e=>eb b ob hb e) f0 f1 f3 f4 f5⟩
 self:=λA i s Q E st h=>wpAny_pyIter_keyiter st h
theorem xf{kvs:List (List Key×V)}(it:Addr)(NH:o.data=.dict es ep):gn P w K tg (CL d o kvs) [it] it (λi h=>h.IsKeyIter it d i kvs.length ep)where
 mem:=by simp
 obj:=λi h st b hb=>by
  have e:b=it:=by simpa using hb
  subst e;obtain⟨oi,e,c,dd⟩:=st;exact⟨oi,e,λv z=>by rw[dd]at z;cases z⟩
 keep:=λi h h' st k=>st.at λoi e=>k it (by simp) oi e
 item:=by intro X hP hw hK hc i LX s σ H E I hf st hg;subst hP hw hK;obtain⟨hd,hi⟩:=hg;obtain⟨f0,f1,f2,f3,f4,f5⟩:=hf it (by simp);obtain⟨hs,Nh,hx,es',NS,MB,hsz,ent⟩:=I.frzT hd;obtain⟨rfl,rfl⟩:=fV NH MB;obtain⟨⟨k,v⟩,hkv⟩:∃p,kvs[i]?=some p:=⟨kvs[i],Hn hi⟩;obtain⟨en,q,hen,NW,hq⟩:=ent i k v hkv;refine rJ st Nh MB hsz hen λh' MQ sb=>?_;have I1:Inv X LX σ H {s with heap:=h'}:=I.turned (t':=s.toks) (λb ob hb e=>(sb.2 b hb).trans e) f0 f1 f3 f4 f5;obtain⟨oi,e,c,dd⟩:=id MQ;exact⟨en.key,rfl,jG (s:={s with heap:=h'}) e c dd (by decide) ⟨.ref q,H,I1,NW,⟨rfl,k,v,q,hkv,rfl,hq⟩,MQ,λb hb=>(hf b hb).1⟩⟩
 done:=by intro X hP hw hK hc i LX s σ H E I hf st hg;subst hP hw hK;obtain⟨hd,hi⟩:=hg;obtain⟨f0,f1,f2,f3,f4,f5⟩:=hf it (by simp);obtain⟨hs,Nh,hx,es',NS,MB,hsz,ent⟩:=I.frzT hd;obtain⟨rfl,rfl⟩:=fV NH MB;exact lO (I.ok.hd hc) st Nh MB hsz hi λh' eb=>⟨rfl,I.turned (t':=s.toks) (λb ob hb e=>eb b ob hb e) f0 f1 f3 f4 f5⟩
 self:=λA i s Q E st h=>by refine Kl st.typeIs LM (Ih LM st.typeIs F.entry_dict_keyiterator_iter ?_ (F.args_dict_keyiterator_iter_1 _));show wpAny _ _ (ret (.ref it)) _ _ s;exact G_ ⟨_,rfl,"dict_keyiterator",_,st.typeIs,Iz.lookup,h⟩
theorem yu{kvs:List (Key×V)}(it:Addr)(NH:o.data=.dict es ep):gn P w K tg (Itd d o kvs) [it] it (λi h=>h.IsValIter it d i kvs.length ep)where
 mem:=by simp
 obj:=λi h st b hb=>by
  have e:b=it:=by simpa using hb
  subst e;obtain⟨oi,e,c,dd⟩:=st;exact⟨oi,e,λv z=>by rw[dd]at z;cases z⟩
 keep:=λi h h' st k=>st.at λoi e=>k it (by simp) oi e
 item:=by intro X hP hw hK hc i LX s σ H E I hf st hg;subst hP hw hK;obtain⟨hd,hi⟩:=hg;obtain⟨f0,f1,f2,f3,f4,f5⟩:=hf it (by simp);obtain⟨hs,Nh,hx,es',NS,vs,MB,hsz,kv,hm⟩:=I.frzK hd;obtain⟨rfl,rfl⟩:=fV NH MB;obtain⟨⟨k,v⟩,hkv⟩:∃p,kvs[i]?=some p:=⟨kvs[i],Hn hi⟩;obtain⟨u,hu,ru⟩:=sL kv hkv;have hl:kvs.length=vs.length:=HC kv;rw[hl]at st;refine wpAny_pyNext_values_item st hm hu λh' MQ sb=>?_;have I1:Inv X LX σ H {s with heap:=h'}:=I.turned (t':=s.toks) (λb ob hb e=>(sb.2 b hb).trans e) f0 f1 f3 f4 f5;obtain⟨oi,e,c,dd⟩:=id MQ;refine⟨u,rfl,jG (s:={s with heap:=h'}) e c dd (by decide) ⟨v,H,I1,ru,⟨rfl,k,hkv⟩,?_,λb hb=>(hf b hb).1⟩⟩;show h'.IsValIter it d (i+1) kvs.length _;rw[hl];exact MQ
 done:=by intro X hP hw hK hc i LX s σ H E I hf st hg;subst hP hw hK;obtain⟨hd,hi⟩:=hg;obtain⟨f0,f1,f2,f3,f4,f5⟩:=hf it (by simp);obtain⟨hs,Nh,hx,es',NS,vs,MB,hsz,kv,hm⟩:=I.frzK hd;obtain⟨rfl,rfl⟩:=fV NH MB;have hl:kvs.length=vs.length:=HC kv;rw[hl]at st;exact wpAny_pyNext_values_end (I.ok.hd hc) st hm (IH (by omega)) λh' eb=>⟨rfl,I.turned (t':=s.toks) (λb ob hb e=>eb b ob hb e) f0 f1 f3 f4 f5⟩
 self:=λA i s Q E st h=>wpAny_pyIter_valiter st h
theorem xg{kvs:List (Key×V)}{MH:List Expr}{kk:Nat}{Mx:Pos}(it:Addr)(NH:o.data=.dict es ep):gn P w K (.Tuple MH kk Mx) (Iti d o kvs) [it] it (λi h=>∃ok ov,IsItemIter h it d i kvs.length ep ok ov)where
 mem:=by simp
 obj:=λi h st b hb=>by
  have e:b=it:=by simpa using hb
  subst e;obtain⟨ok,ov,e⟩:=st;exact⟨_,e,λv z=>nomatch z⟩
 keep:=λi h h' st k=>let⟨ok,ov,e⟩:=st;⟨ok,ov,k it (by simp) _ e⟩
 item:=by
  intro X hP hw hK hc i LX s σ H E I hf st hg;subst hP hw hK;obtain⟨hd,hi⟩:=hg;obtain⟨hs,Nh,hx,es',NS,vs,MB,hsz,kv,hm⟩:=I.frzK hd;obtain⟨rfl,rfl⟩:=fV NH MB;obtain⟨⟨k,v⟩,hkv⟩:∃p,kvs[i]?=some p:=⟨kvs[i],Hn hi⟩;obtain⟨u,hu,ru⟩:=sL kv hkv;have hl:kvs.length=vs.length:=HC kv;obtain⟨ok,ov,he⟩:=st;rw[hl]at he;have Mq:it<s.heap.objs.size:=HB he;refine wpAny_pyNext_items_item he hm hu λkey h' NW ho hT hz hk=>?_;refine⟨_,rfl,wpAny_letOwnedTupleGo_items (s:={s with heap:=h'}) ho λN8 he' sb=>?_⟩;have hT2:N8.get? s.heap.objs.size=some {cls:=.type "tuple",data:=.seq #[key,u]}:=(sb.2 _ (Jt Mq)).trans hT;have new:bZ X.prog X.w (upd H s.heap.objs.size (.tup [kV k,v])) N8 s.heap.objs.size (.tup [kV k,v]):=
   ⟨by show 2<=sizeLine;decide,[key,u],.cons (sZ (show g5 k key=true from NW)) (.cons ru .nil),⟨_,hT2,rfl,_,rfl⟩⟩
  have I1:Inv X LX σ (upd H s.heap.objs.size (.tup [kV k,v])) {s with heap:=N8}:=
   I.turnedNew (t':=s.toks) (ch:=[it]) (λb ob hb e=>(sb.2 b (by simpa using hb)).trans (hk b ob (by simpa using hb) e)) hf (Hu _) new
  refine⟨.ref s.heap.objs.size,_,I1,rfl,⟨_,k,v,hkv,rfl,I.hok.fresh (Hu _),rfl⟩,⟨key,u,?_⟩,λb hb=>?_⟩
  .rw[hl];exact he'
  .have e:b=it:=by simpa using hb
   rw[e,ai (HW Mq)];exact(hf it (by simp)).1
 done:=by intro X hP hw hK hc i LX s σ H E I hf st hg;subst hP hw hK;obtain⟨hd,hi⟩:=hg;obtain⟨f0,f1,f2,f3,f4,f5⟩:=hf it (by simp);obtain⟨hs,Nh,hx,es',NS,vs,MB,hsz,kv,hm⟩:=I.frzK hd;obtain⟨rfl,rfl⟩:=fV NH MB;have hl:kvs.length=vs.length:=HC kv;obtain⟨ok,ov,he⟩:=st;rw[hl]at he;exact wpAny_pyNext_items_end (I.ok.hd hc) he hm (IH (by omega)) λh' eb=>⟨rfl,I.turned (t':=s.toks) (λb ob hb e=>eb b ob hb e) f0 f1 f3 f4 f5⟩
 self:=λA i s Q E st h=>let⟨_,_,e⟩:=st;PySem.W.kcp_self e h
end
def Et(td:TE):TI:=λσ H R=>td σ H λx H1=>∃d o,x=.ref d/\((∃kvs,H1 d=some (.frz o (.dK kvs))/\R (Itk d o kvs) H1)\/∃kvs,H1 d=some (.frz o (.dT kvs))/\R (CL d o kvs) H1)
inductive Cp(H1:Hp)(x:V)(R:It->Hp->Prop):Prop|mk(d:_)(o:_)(kvs:_)(_:x=.ref d)(_:H1 d=some (.frz o (.dK kvs)))(_:R (Itd d o kvs) H1)
def Ep(td:TE):TI:=λσ H R=>td σ H λx H1=>Cp H1 x R
inductive AV(H1:Hp)(x:V)(R:It->Hp->Prop):Prop|mk(d:_)(o:_)(kvs:_)(_:x=.ref d)(_:H1 d=some (.frz o (.dK kvs)))(_:R (Iti d o kvs) H1)
def Dl(td:TE):TI:=λσ H R=>td σ H λx H1=>AV H1 x R
section
variable{X:Cx}{tg e:Expr}{td:TE}{Mc L6:Pos}
theorem BD(he:PE X e td):PI X tg e (Et td):=by
 intro LX s σ H R I h;refine thn (he LX s σ H _ I h) λu s1 ⟨x,H1,I1,rx,d,o,ex,q⟩=>?_;subst ex;obtain rfl:u=Value.ref d:=rx;rcases q with⟨kvs,hd,q⟩|⟨kvs,hd,q⟩
 .obtain⟨hs,Nh,hx,es,ep,vs,MB,hsz,kv,hm⟩:=I1.frzK hd;refine qM hs Nh hx MB (kE (tk:=s1.toks) I1 _ (yx _ MB) ⟨_,Hj _ rfl,rfl,?_⟩ q);rw[hsz]<;>rfl
 .obtain⟨hs,Nh,hx,es,ep,MB,hsz,ent⟩:=I1.frzT hd;refine qM hs Nh hx MB (kE (tk:=s1.toks) I1 _ (xf _ MB) ⟨_,Hj _ rfl,rfl,?_⟩ q);rw[hsz]<;>rfl
theorem qD(he:PE X e td)(M7:attributeBase e "values" X.env (eval e X.env)=eval e X.env:=by rfl)(M8:(Mc.endLine==L6.line)=true:=by rfl):PI X tg (.Call (.Attribute e "values" Mc) [] [] L6) (Ep td):=by
 intro LX s σ H R I h;refine Ja (T:="dict") (id:="dict.values") M7 rfl M8 Jn Kb F.type_dict_values (thn (he LX s σ H _ I h) λu s1 ⟨x,H1,I1,rx,d,o,kvs,ex,hd,q⟩=>?_);subst ex;obtain rfl:u=Value.ref d:=rx;obtain⟨hs,Nh,hx,es,ep,vs,MB,hsz,kv,hm⟩:=I1.frzK hd;have hl:kvs.length=vs.length:=HC kv;refine⟨hm.dictOf.typeIs,hm.dictOf.mapOf.noDict,?_⟩;have I2:Inv X LX σ H1 {s1 with heap:=s1.heap.push {cls:=.type "dict_values",data:=.fields #[.ref d]}}:=I1.kept (t':=s1.toks) λb ob q=>Ha _ q;have fin:wpAny (model X.prog X.w) X.A (pyIter (.ref s1.heap.objs.size)) (PIE X LX σ tg R) X.xe {s1 with heap:=s1.heap.push {cls:=.type "dict_values",data:=.fields #[.ref d]}}:=by refine wpAny_pyIter_values (d:=d) (knd:=ba X.prog X.w) ⟨_,Hj _ rfl,rfl,rfl⟩ (hm.push _) (kE (tk:=s1.toks) I2 _ (yu _ MB) ⟨_,Hj _ rfl,rfl,?_⟩ q);rw[hl]<;>rfl
 show wpAny _ _ (callWith L6 (.builtin "dict.values") [.ref d] [] []) _ X.xe s1;exact method_meetsIn Kb F.entry_dict_values rfl (Kx ⟨rfl,hm.dictOf.typeIs,F.args_dict_values_1 _,_,meets_dict_values (ba X.prog X.w) d hs,⟨vs,hm.dictOf⟩,fin⟩)
theorem Ab(he:PE X e td)(M7:attributeBase e "items" X.env (eval e X.env)=eval e X.env:=by rfl)(M8:(Mc.endLine==L6.line)=true:=by rfl):PI X (.Tuple MH kk Mx) (.Call (.Attribute e "items" Mc) [] [] L6) (Dl td):=by
 intro LX s σ H R I h;refine Ja (T:="dict") (id:="dict.items") M7 rfl M8 Jn F.slot_dict_items F.type_dict_items (thn (he LX s σ H _ I h) λu s1 ⟨x,H1,I1,rx,d,o,kvs,ex,hd,q⟩=>?_);subst ex;obtain rfl:u=Value.ref d:=rx;obtain⟨hs,Nh,hx,es,ep,vs,MB,hsz,kv,hm⟩:=I1.frzK hd;have hl:kvs.length=vs.length:=HC kv;refine⟨hm.dictOf.typeIs,hm.dictOf.mapOf.noDict,?_⟩;have I2:Inv X LX σ H1 {s1 with heap:=s1.heap.push {cls:=.type "dict_items",data:=.fields #[.ref d]}}:=I1.kept (t':=s1.toks) λb ob q=>Ha _ q;have fin:wpAny (model X.prog X.w) X.A (pyIter (.ref s1.heap.objs.size)) (PIE X LX σ (.Tuple MH kk Mx) R) X.xe {s1 with heap:=s1.heap.push {cls:=.type "dict_items",data:=.fields #[.ref d]}}:=by refine wpAny_pyIter_items (d:=d) (knd:=ba X.prog X.w) ⟨_,Hj _ rfl,rfl,rfl⟩ (hm.push _) (kE (tk:=s1.toks) I2 _ (xg _ MB) ⟨.none,.none,?_⟩ q);rw[hl];exact Hj _ rfl
 show wpAny _ _ (callWith L6 (.builtin "dict.items") [.ref d] [] []) _ X.xe s1;exact method_meetsIn F.slot_dict_items F.entry_dict_items rfl (Kx ⟨rfl,hm.dictOf.typeIs,F.args_dict_items_1 _,_,meets_dict_items (ba X.prog X.w) d hs,⟨vs,hm.dictOf⟩,fin⟩)
end
def Ite(K:LS)(a:Addr):It:=
 ⟨λi H=>∃(xs:List V)(x:V),SqL K H a xs/\xs[i]?=some x,λi H v H'=>∃T x,v=.ref T/\H T=none/\H'=upd H T (.tup [.int (i:Nat),x])/\∀xs,SqL K H a xs->xs[i]?=some x,λi H=>∃xs:List V,SqL K H a xs/\xs.length<=i⟩
theorem yy{P:Program}{w:World}{K:LS}{MH:List Expr}{kk:Nat}{Mx:Pos}(a e it:Addr):gn P w K (.Tuple MH kk Mx) (Ite K a) [e,it] e (λi h=>(∃old,IsEnum h e it ((i:Nat):Int) old)/\h.IsListIter it a i/\e≠it)where
 mem:=by simp
 obj:=λi h st b hb=>by
  obtain⟨⟨old,he⟩,⟨o,ho,hc,hd⟩,_⟩:=st;have e':b=e\/b=it:=by simpa using hb
  rcases e' with z|z
  .rw[z];exact⟨_,he,λv q=>nomatch q⟩
  .rw[z];exact⟨o,ho,λv q=>by rw[hd]at q;cases q⟩
 keep:=λi h h' st k=>let⟨⟨old,he⟩,hi,MA⟩:=st;⟨⟨old,k e (by simp) _ he⟩,hi.at λo q=>k it (by simp) o q,MA⟩
 item:=by
  intro X hP hw hK hc i LX s σ H E I hf st hg;subst hP hw hK;obtain⟨⟨old,he⟩,hit,MA⟩:=st;obtain⟨xs,x,hq,hx⟩:=hg;obtain⟨its,rv,p,hz⟩:=I.list hq;obtain⟨u,hu,ru⟩:=rv.get hx;have hel:e<s.heap.objs.size:=HB he;have hil:it<s.heap.objs.size:=by obtain⟨_,q,_⟩:=hit;exact HB q
  refine wpAny_pyNext_enum_item he hit p.isList (x:=u) (by simpa using hu) MA λh' ho Pn hT hsz hk=>?_;refine⟨_,rfl,wpAny_letOwnedTupleGo_enum (s:={s with heap:=h',toks:=s.toks+1}) ho λN8 he' sb=>?_⟩;have hT2:N8.get? s.heap.objs.size=some {cls:=.type "tuple",data:=.seq #[.int i s.toks,u]}:=(sb.2 _ (Jt hel)).trans hT;have new:bZ X.prog X.w (upd H s.heap.objs.size (.tup [.int (i:Nat),x])) N8 s.heap.objs.size (.tup [.int (i:Nat),x]):=
   ⟨by show 2<=sizeLine;decide,[.int i s.toks,u],.cons ⟨_,rfl⟩ (.cons ru .nil),⟨_,hT2,rfl,_,rfl⟩⟩
  have I1:Inv X LX σ (upd H s.heap.objs.size (.tup [.int (i:Nat),x])) {s with heap:=N8,toks:=s.toks+1}:=
   I.turnedNew (ch:=[e,it]) (λb ob hb q=>(sb.2 b (λz=>hb (by simp[z]))).trans (hk b ob (λz=>hb (by simp[z])) (λz=>hb (by simp[z])) q)) hf (Hu _) new
  refine⟨.ref s.heap.objs.size,_,I1,rfl,⟨_,x,rfl,I.hok.fresh (Hu _),rfl,λys hy=>by rw[I.list_inj hy hq];exact hx⟩,⟨⟨u,?_⟩,Pn.at λo q=>(sb.2 it (Ho MA)).trans q,MA⟩,λb hb=>?_⟩
  .have e1:((i+1:Nat):Int)=(i:Int)+1:=by omega
   rw[e1];exact he'
  .have MW:b<s.heap.objs.size:=by
    have e':b=e\/b=it:=by simpa using hb
    rcases e' with z|z
    .rw[z];exact hel
    .rw[z];exact hil
   rw[ai (HW MW)];exact(hf b hb).1
 done:=by intro X hP hw hK hc i LX s σ H E I hf st hg;subst hP hw hK;obtain⟨⟨old,he⟩,hit,MA⟩:=st;obtain⟨xs,hq,hx⟩:=hg;obtain⟨its,rv,p,hz⟩:=I.list hq;obtain⟨f0,f1,f2,f3,f4,f5⟩:=hf it (by simp);have hl:=rv.length;exact wpAny_pyNext_enum_end (I.ok.hd hc) he hit p.isList (by simp;omega) λh' eb=>⟨rfl,I.turned (t':=s.toks) (λb o hb q=>eb b o hb q) f0 f1 f3 f4 f5⟩
 self:=λA i s Q E st h=>let⟨⟨_,he⟩,_⟩:=st;wpAny_pyIter_enum he h
inductive Cu(K:LS)(H1:Hp)(vs:List V)(R:It->Hp->Prop):Prop|mk(a:_)(xs:_)(_:vs=[.ref a])(_:SqL K H1 a xs)(_:R (Ite K a) H1)
def Eu(K:LS)(ta:TA):TI:=λσ H R=>ta σ H λvs H1=>Cu K H1 vs R
theorem vZ{X:Cx}{e:Expr}{ta:TA}{p pos Mx:Pos}{MH:List Expr}{kk:Nat}(hg:Gl X "enumerate")(hm:X.mg "enumerate"=none)(ha:PA X [e] ta)(hs:starEach [e] X.env=[(false,eval e X.env)]:=by rfl):PI X (.Tuple MH kk Mx) (.Call (.Name "enumerate" p) [e] [] pos) (Eu X.K ta):=by
 intro LX s σ H R I h;refine Call_ (gM I hg hm boot_enumerate (Iy (thn (ha pos LX s σ H _ I h) λus s1 ⟨vs,H1,I1,r1,q1⟩=>?_) hs rfl));obtain⟨a,xs,ex,hq,q⟩:=q1;subst ex;cases r1 with
 |cons r rr=>
  cases rr;cases r;obtain⟨its,rv,p',hz⟩:=I1.list hq;refine call_enumerate_list p'.isList λh' he hit hsz hk=>wpAny_pyIter_enum he ?_;have I2:Inv X LX σ H1 {s1 with heap:=h'}:=I1.kept (t':=s1.toks) hk;refine⟨s1.heap.objs.size+1,[s1.heap.objs.size+1,s1.heap.objs.size],_,_,H1,rfl,I2,yy a (s1.heap.objs.size+1) s1.heap.objs.size,⟨⟨.none,he⟩,hit,Nat.succ_ne_self _⟩,λb hb=>?_,q⟩;have e':b=s1.heap.objs.size+1\/b=s1.heap.objs.size:=by simpa using hb
  have Mo:s1.heap.objs.size<=b:=by
   rcases e' with z|z
   .rw[z];exact Ks _ _
   .rw[z];exact Hu _
  exact I1.fpOk Mo (I1.hok.fresh Mo)
theorem qZ:bootBuiltins "zip"=some (.type "zip"):=by decide +kernel
def Itz(K:LS)(a b:Addr):It:=
 ⟨λi H=>∃(xs ys:List V)(x y:V),SqL K H a xs/\SqL K H b ys/\xs[i]?=some x/\ys[i]?=some y,
  λi H v H'=>∃T x y,v=.ref T/\H T=none/\H'=upd H T (.tup [x,y])/\(∀xs,SqL K H a xs->xs[i]?=some x)/\∀ys,SqL K H b ys->ys[i]?=some y,
  λi H=>∃xs ys:List V,SqL K H a xs/\SqL K H b ys/\(xs.length<=i\/ys.length<=i)⟩
theorem zI{P:Program}{w:World}{K:LS}{MH:List Expr}{kk:Nat}{Mx:Pos}{a b z TI TO i1 i2:Addr}(D:ZipApart z TI TO i1 i2 a b):gn P w K (.Tuple MH kk Mx) (Itz K a b) [z,TI,TO,i1,i2] z (λi h=>IsZip h z TI TO .none/\IsPair h TI (.ref i1) (.ref i2)/\(∃x y,IsPair h TO x y)/\h.IsListIter i1 a i/\h.IsListIter i2 b i)where
 mem:=by simp
 obj:=λi h st c hc=>by
  obtain⟨hz,MI,⟨x,y,MN⟩,⟨o1,e1,_,d1⟩,⟨o2,e2,_,d2⟩⟩:=st;have e':c=z\/c=TI\/c=TO\/c=i1\/c=i2:=by simpa using hc
  rcases e' with q|q|q|q|q
  .rw[q];exact⟨_,hz,λv q=>nomatch q⟩
  .rw[q];exact⟨_,MI,λv q=>nomatch q⟩
  .rw[q];exact⟨_,MN,λv q=>nomatch q⟩
  .rw[q];exact⟨o1,e1,λv q=>by rw[d1]at q;cases q⟩
  .rw[q];exact⟨o2,e2,λv q=>by rw[d2]at q;cases q⟩
 keep:=λi h h' st k=>by obtain⟨hz,MI,⟨x,y,MN⟩,h1,h2⟩:=st;exact⟨k z (by simp) _ hz,k TI (by simp) _ MI,⟨x,y,k TO (by simp) _ MN⟩,h1.at λo q=>k i1 (by simp) o q,h2.at λo q=>k i2 (by simp) o q⟩
 item:=by
  intro X hP hw hK hc i LX s σ H E I hf st hg;subst hP hw hK;obtain⟨hz,MI,⟨x0,y0,MN⟩,h1,h2⟩:=st;obtain⟨xs,ys,x,y,hqx,hqy,hx,hy⟩:=hg;obtain⟨its,rv,p,_⟩:=I.list hqx;obtain⟨L9,Po,p2,_⟩:=I.list hqy;obtain⟨u,hu,ru⟩:=rv.get hx;obtain⟨u2,hu2,ru2⟩:=Po.get hy;have hzl:z<s.heap.objs.size:=HB hz;refine wpAny_pyNext_zip_item D hz MI MN h1 h2 p.isList p2.isList (x:=u) (y:=u2) (by simpa using hu) (by simpa using hu2) λh' z' TO' Ni MR hT hsz hk=>?_;refine⟨_,rfl,wpAny_letOwnedTupleGo_zip (s:={s with heap:=h'}) z' λN8 OA sb=>?_⟩;have hT2:N8.get? s.heap.objs.size=some {cls:=.type "tuple",data:=.seq #[u,u2]}:=(sb.2 _ (Jt hzl)).trans hT;have new:bZ X.prog X.w (upd H s.heap.objs.size (.tup [x,y])) N8 s.heap.objs.size (.tup [x,y]):=
   ⟨by show 2<=sizeLine;decide,[u,u2],.cons ru (.cons ru2 .nil),⟨_,hT2,rfl,_,rfl⟩⟩
  have I1:Inv X LX σ (upd H s.heap.objs.size (.tup [x,y])) {s with heap:=N8}:=
   I.turnedNew (t':=s.toks) (ch:=[z,TI,TO,i1,i2]) (λc o hb q=>(sb.2 c (λq'=>hb (by simp[q']))).trans (hk c o (λq'=>hb (by simp[q'])) (λq'=>hb (by simp[q'])) (λq'=>hb (by simp[q'])) (λq'=>hb (by simp[q'])) q)) hf (Hu _) new
  refine⟨.ref s.heap.objs.size,_,I1,rfl,⟨_,x,y,rfl,I.hok.fresh (Hu _),rfl,λl hl=>by rw[I.list_inj hl hqx];exact hx,λl hl=>by rw[I.list_inj hl hqy];exact hy⟩,⟨OA,?_,⟨u,u2,?_⟩,?_,?_⟩,λc Pp=>?_⟩
  .exact(sb.2 _ D.TIz).trans (hk _ _ D.TIz D.TITO D.TIi1 D.TIi2 MI)
  .exact(sb.2 _ D.TOz).trans TO'
  .exact Ni.at λo q=>(sb.2 _ D.i1z).trans q
  .exact MR.at λo q=>(sb.2 _ D.i2z).trans q
  .have Mq:c<s.heap.objs.size:=by
    have e':c=z\/c=TI\/c=TO\/c=i1\/c=i2:=by simpa using Pp
    rcases e' with q|q|q|q|q
    .rw[q];exact hzl
    .rw[q];exact HB MI
    .rw[q];exact HB MN
    .rw[q];obtain⟨_,e1,_⟩:=h1;exact HB e1
    .rw[q];obtain⟨_,e2,_⟩:=h2;exact HB e2
   rw[ai (HW Mq)];exact(hf c Pp).1
 done:=by
  intro X hP hw hK hc i LX s σ H E I hf st hg;subst hP hw hK;obtain⟨hz,MI,⟨x0,y0,MN⟩,h1,h2⟩:=st;obtain⟨xs,ys,hqx,hqy,N0⟩:=hg;obtain⟨its,rv,p,_⟩:=I.list hqx;obtain⟨L9,Po,p2,_⟩:=I.list hqy;have l1:=rv.length;have l2:=Po.length;have he:its.toArray[i]?=none\/L9.toArray[i]?=none:=by
   rcases N0 with q|q
   .exact .inl (by simp;omega)
   .exact .inr (by simp;omega)
  exact wpAny_pyNext_zip_end (I.ok.hd hc) D hz MI MN h1 h2 p.isList p2.isList he λh' hk=>⟨rfl,I.turnedL (t':=s.toks) (ch:=[z,TI,TO,i1,i2]) (λc o hb q=>
   hk c o (λq'=>hb (by simp[q'])) (λq'=>hb (by simp[q'])) (λq'=>hb (by simp[q'])) (λq'=>hb (by simp[q'])) q) hf⟩
 self:=λA i s Q E st h=>Ku st.1 h
inductive D7(K:LS)(H1:Hp)(vs:List V)(R:It->Hp->Prop):Prop|mk(a:_)(b:_)(xs:_)(ys:_)(_:vs=[.ref a,.ref b])(_:SqL K H1 a xs)(_:SqL K H1 b ys)(_:R (Itz K a b) H1)
def EO(K:LS)(ta:TA):TI:=λσ H R=>ta σ H λvs H1=>D7 K H1 vs R
theorem sy{X:Cx}{e e2:Expr}{ta:TA}{p pos Mx:Pos}{MH:List Expr}{kk:Nat}(hg:Gl X "zip")(hm:X.mg "zip"=none)(ha:PA X [e,e2] ta)(hs:starEach [e,e2] X.env=(false,eval e X.env)::starEach [e2] X.env:=by rfl) (Ms:(backTo pos (starEach [e2] X.env)).any (·.1)=false:=by rfl):PI X (.Tuple MH kk Mx) (.Call (.Name "zip" p) [e,e2] [] pos) (EO X.K ta):=by
 intro LX s σ H R I h;refine Call_ (gM I hg hm qZ (Iy (thn (ha pos LX s σ H _ I h) λus s1 ⟨vs,H1,I1,r1,q1⟩=>?_) hs Ms));obtain⟨a,b,xs,ys,ex,hqx,hqy,q⟩:=q1;subst ex;cases r1 with
 |cons r rr=>
  cases rr with
  |cons r' rr=>
   cases rr;cases r;cases r';obtain⟨its,rv,p1,_⟩:=I1.list hqx;obtain⟨L9,Po,p2,_⟩:=I1.list hqy;have la:a<s1.heap.objs.size:=p1.lt;have lb:b<s1.heap.objs.size:=p2.lt;refine call_zip_2 p1.isList p2.isList λh' hz MI MN h1 h2 hsz hk=>Ku hz ?_;have I2:Inv X LX σ H1 {s1 with heap:=h'}:=I1.kept (t':=s1.toks) hk;refine⟨s1.heap.objs.size+4,[s1.heap.objs.size+4,s1.heap.objs.size+2,s1.heap.objs.size+3,s1.heap.objs.size,s1.heap.objs.size+1],_,_,H1,rfl,I2,zI (ktu_apart s1.heap.objs.size a b la lb),⟨hz,MI,⟨_,_,MN⟩,h1,h2⟩,λc Pp=>?_,q⟩;have e':c=s1.heap.objs.size+4\/c=s1.heap.objs.size+2\/c=s1.heap.objs.size+3\/c=s1.heap.objs.size\/c=s1.heap.objs.size+1:=by simpa using Pp
   have Mo:s1.heap.objs.size<=c:=by
    rcases e' with z|z|z|z|z
    .rw[z];exact Ks _ _
    .rw[z];exact Ks _ _
    .rw[z];exact Ks _ _
    .rw[z];exact Hu _
    .rw[z];exact Ks _ _
   exact I1.fpOk Mo (I1.hok.fresh Mo)
end L2
namespace TL
open PySem PySem.Builtin PySem.Builtin.Str PySem.StrLaws
abbrev tl(x:Str):List Nat:=x.cps.toList
def pre(S l:List Nat):Bool:=l.take S.length==S
def par(S:List Nat):List Nat->List Nat->Option (List Nat×List Nat)
 |_,[]=>none
 |acc,c::r=>if pre S (c::r)=true then some (acc,(c::r).drop S.length)else par S (acc++[c]) r
def numL(n:Nat):List Nat:=(Nat.toDigits 10 n).map Char.toNat
end TL
namespace Att
open PySem PySem.W PySem.Calls PyProof.Rows
section
variable{prog:Program}{w:World}{A:Around}{E:Value->Shared->Prop}{s:Shared}{K:Frag}
def kH(h:Heap):Heap:={h with objs:= #[]}
theorem jY(h:Heap)(b:Addr):(kH h).get? b=none:=by
 cases e:(kH h).get? b with
 |none=>rfl
 |some o=>exact absurd (HB e) (Nat.not_lt_zero _)
def ou(h:Heap)(L d:Addr):List (Addr×Obj):=(List.range h.objs.size).filterMap λa=>if a=L\/a=d then none else(h.get? a).map λo=>(a,o)
theorem j2:(a,o)∈ou h L d↔a≠L/\a≠d/\h.get? a=some o:=by
 unfold ou;rw[Kh];constructor
 .rintro⟨b,_,e⟩;split at e
  .cases e
  .rename_i hb;obtain⟨o',ho,e'⟩:=IQ.mp e;cases e';exact⟨λq=>hb (.inl q),λq=>hb (.inr q),ho⟩
 .rintro⟨n1,n2,ho⟩;refine⟨a,J5.mpr (HB ho),?_⟩;rw[G9 (show¬(a=L\/a=d)from λq=>q.elim n1 n2),ho]<;>rfl
theorem vk(MA:d≠L)(ho:h.get? d=some od):News (kH h) L h ([]++(d,od)::ou h L d):=by
 rintro⟨a,o⟩ hp;rcases Hi.mp hp with e|hp
 .cases e;exact⟨ho,MA,jY _ _⟩
 .obtain⟨n1,n2,e⟩:=j2.mp hp;exact⟨e,n1,jY _ _⟩
theorem Dx(n:h.Ns L m):Fr (kH h) L h m:=
 ⟨n,λb o e=>(by rw[jY]at e;cases e),HJ _⟩
theorem set_field (X:K.In s.heap) (I:PySem.W.InstAt s.heap x ox C (some (dictOf es n))) (hd:ox.dict=some dx) (hL:s.heap.Ns L m) (MA:dx≠L)(hs:findIn K (.ref C) "__setattr__"=some (some (.builtin "object.__setattr__"))) (hp:plainOver K C=true) (ht:takerIn K C name=some none) (hh:hasDictIn K C=true) (hl:(getL name es).isSome=true)(e:(putL name (PyData.keyHash w.params name) (.str name (s.toks+1)) v es,putN name es n)=(es',n')) (hz:es'.length<=1000)(h:∀h':Heap,h'.Ns L m->h'.get? dx=some (dictOf es' n')->(∀b o,b≠dx->b≠L->s.heap.get? b=some o->h'.get? b=some o)->Q () {s with heap:=h',toks:=s.toks+2}):wpAny (model prog w) A (setAttr (.ref x) name v) Q E s:=by
 obtain⟨e1,e2⟩:=Kp e;have hdx:s.heap.get? dx=some (dictOf es n):=by have:=I.dict;rw[hd]at this;exact this
 refine set_plain X I hs (osa_dict (s:={s with toks:=s.toks+1}) (h₀:=kH s.heap) (L:=L) (m:=m) (od:=dictOf es n) (od':=dictOf es' n') (es:=es') (n:=n') (pre:=[]) (post:=ou s.heap L dx)
  (Dx hL) (vk MA hdx) X I hd hp ht hh hl (λ_ q=>nomatch q) (λ⟨_,_⟩ q=>(j2.mp q).2.1) (by rw[putName_dict,e1,e2]) rfl hz λh' F' N'=>?_)
 exact h h' F'.ns (N'.get (Mem.head _)) λb o n1 n2 ho=>N'.get (Mem.tail _ (j2.mpr ⟨n2,n1,ho⟩))
end
end Att
namespace L2
open PySem PySem.Spec PyProof.Rows
def bj(s:Stmt)(j:Nat):Stmt:=match s with
 | .ClassDef _ _ _ body _ _ _ _ _ _ _=>body.getD j (.Pass ⟨0,0,0,0⟩)
 |_=>.Pass ⟨0,0,0,0⟩
def cf(s:Stmt):Arguments:=match s with
 | .FunctionDef _ a _ _ _ _ _ _ _ _=>a
 |_=>{posonlyargs:=[],args:=[],vararg:=none,kwonlyargs:=[],kw_defaults:=[],kwarg:=none,defaults:=[]}
def bI(s:Stmt):List Stmt:=match s with
 | .FunctionDef _ _ b _ _ _ _ _ _ _=>b
 |_=>[]
def aE(s:Stmt):Scope:=match s with
 | .FunctionDef _ _ _ _ _ _ sc _ _ _=>sc
 |_=>{kind:=.function,names:=[],isGenerator:=false,isCoroutine:=false}
abbrev CX0:CXT:=λ_ _ _ _ _ _=>False
abbrev E0:XK:=λ_ _ _=>False
theorem r8:ji CX0 X E0:=λ_ _ _ _ _ _ _ h=>h.elim
structure Fun(K:LS)(x L0:Str)(st:Stmt)(f:Addr)(fd:FuncData):Prop where
 ex:∃(oc:Value)(od:Option Addr)(kV L8 pm:Value)(an:Option Addr)(L1 ct:Value)(NY:Array (Option Value)),
  fd=fnOf x L0 (cf st) (bI st) (aE st) .none kV L8 pm an L1 ct/\K.lookup f=some ⟨oc,od,.func fd,NY⟩/\codeIn K L1 L0=true
 kp:keepIn K (.ref f)=true
section
variable{P:Program}{w:World}{K:LS}{mg:Str->Option Value}{base:Heap}
theorem Fun.ok{x L0:Str}{st:Stmt}{f:Addr}{fd:FuncData}{N ps:List Str}{k:Nat}{sp:Sp}(F:Fun K x L0 st f fd)(S:dk N ps (aE st))(len:∀vs H Q E,sp vs H Q E->vs.length=ps.length)(My:∀(L1:Value)(A:Around)(outer:List Env)(s:Shared)(H:Hp)(vs:List V)(Q:VK)(E:XK),bC k (A.deeper (envOfC L0 (aE st) s.heap.objs.size f L1))->sp vs H Q E->∃t,PSs (fc CX0 P w K mg base N L0 (aE st) f L1 A outer s H E).nox (bI st) t/\t {nx:=λ_ H'=>Q .non H',rt:=Q} (start N vs) H):dE P w K mg base CX0 (k+1) f fd ps sp:=by obtain⟨oc,od,kV,L8,pm,an,L1,ct,NY,rfl,lk,hcd⟩:=F.ex;refine Ew lk hcd S len λA outer s H vs Q E hr Ox=>?_;obtain⟨t,h,q⟩:=My L1 A outer s H vs Q E hr Ox;exact⟨t,h.nox,q⟩
theorem Fun.binds{x L0:Str}{st:Stmt}{f:Addr}{fd:FuncData}{ps:List Str}(F:Fun K x L0 st f fd)(h:∀(kV L8 pm:Value)(an:Option Addr)(L1 ct:Value)(us:List Value),us.length=ps.length->bindArgs (fnOf x L0 (cf st) (bI st) (aE st) .none kV L8 pm an L1 ct) ⟨us,[]⟩=pure (ps.zip us)):dJ K fd ps []:=by obtain⟨oc,od,kV,L8,pm,an,L1,ct,NY,rfl,lk,hcd⟩:=F.ex;exact .all (h kV L8 pm an L1 ct)
theorem yg{x L0:Str}{st:Stmt}{f:Addr}{oc:Value}{od an:Option Addr}{NY:Array (Option Value)}{kV L8 pm L1 ct:Value}(l:K.lookup f=some ⟨oc,od,.func (fnOf x L0 (cf st) (bI st) (aE st) .none kV L8 pm an L1 ct),NY⟩)(c:codeIn K L1 L0=true) (k:keepIn K (.ref f)=true):Fun K x L0 st f (fnOf x L0 (cf st) (bI st) (aE st) .none kV L8 pm an L1 ct):=⟨⟨oc,od,kV,L8,pm,an,L1,ct,NY,rfl,l,c⟩,k⟩
end
theorem wU(hr:bC k A):A.units+1<cLine:=JX (Nat.add_le_add_left (by decide:1<=64) _) hr.units
theorem aG(h:n<=1000):n<sizeLine:=JX h (by decide)
section
variable{X:Cx}
def m_(X:Cx)(x:Str):Bool:=(match X.env.scope.names.lookup x with|some .local=>true|some .cell=>true|some .free=>true|_=>false)&&(!(x=="__debug__")&& !(x=="__classdict__"))
theorem pv(i:Nat)(hN:X.N[i]?=some x:=by rfl)(h:m_ X x=true:=by rfl):PE X (.Name x pos) (bA i):=by
 unfold m_ at h;rw[Hq,Hq]at h;obtain⟨b,c,d⟩:=h;refine Db hN ?_ (by simpa using c) (by simpa using d);unfold Vis;revert b;cases X.env.scope.names.lookup x with
 |none=>intro b;cases b
 |some k=>cases k<;>intro b<;>first|exact .inl rfl|exact .inr (.inl rfl)|exact .inr (.inr rfl)|cases b
theorem iU:eK X (.builtin "len") (λxs H Q=>∃a kvs,xs=[V.ref a]/\H a=some (.dK kvs)/\Q (.int kvs.length) H):=by intro LX s σ H xs us Q I r h;obtain⟨a,kvs,rfl,ha,q⟩:=h;obtain⟨u,rfl,ru⟩:=gz r;cases ru;exact Ey I (.inl ha) λt s' I'=>⟨.int kvs.length,H,I',⟨t,rfl⟩,q⟩
end
theorem eh{A B:Prop}(h:B):if false=true then A else B:=by rw[G9 Hm];exact h
theorem bS{A B:Prop}(h:A):if true=true then A else B:=by rw[Hc rfl];exact h
theorem aP{c A B:Prop} [Decidable c](h1:c->A)(h2:¬c->B):if c then A else B:=by
 by_cases h:c
 .rw[Hc h];exact h1 h
 .rw[G9 h];exact h2 h
def ak(H H':Hp):Prop:=∀b o,H b=some o->H' b=some o
theorem ak.refl(H:Hp):ak H H:=λ_ _ h=>h
theorem ak.trans{H H1 H2:Hp}(a:ak H H1)(b:ak H1 H2):ak H H2:=λc o h=>b c o (a c o h)
theorem ak.free{H H':Hp}(e:ak H H'){l:Addr}(h:H' l=Option.none):H l=Option.none:=by
 cases q:H l with
 |none=>rfl
 |some o=>rw[e l o q]at h;cases h
theorem ak.seq{K:LS}{H H':Hp}{a:Addr}{xs:List V}(e:ak H H')(h:SqL K H a xs):SqL K H' a xs:=by
 rcases h with(h|⟨o,h⟩)|h
 .exact .inl (.inl (e _ _ h))
 .exact .inl (.inr ⟨o,e _ _ h⟩)
 .exact .inr h
section
variable{κ:Type} [DecidableEq κ]
theorem zH{kvs:List (κ×V)}{k:κ}(h:aQ kvs k=none):¬k∈kvs.map (·.1):=by intro m;obtain⟨p,hp,e⟩:=HA.mp m;have q:(kvs.any λkv=>decide (kv.1=k))=true:=IR.mpr ⟨p,hp,He e⟩;rw[gu,h]at q;exact absurd q (by simp)
theorem wc:∀{l:List κ}{k:κ},l.Nodup->¬k∈l->(l++[k]).Nodup
 |[],k,_,_=>by simp
 |a::r,k,h,hk=>by
  obtain⟨h1,h2⟩:=Ik.mp h;show(a::(r++[k])).Nodup;refine Ik.mpr ⟨λm=>?_,wc h2 λm=>hk (Hi.mpr (Or.inr m))⟩;rcases H_.mp m with q|q
  .exact h1 q
  .exact hk (Hi.mpr (Or.inl (HH.mp q).symm))
theorem y_{p:κ×V}{r:List (κ×V)}{k:κ}(e:¬p.1=k):dY (p::r) k=p::dY r k:=by unfold dY;rw[Hy,Hc (by simp[e])]
theorem ub:∀{kvs:List (κ×V)}{k:κ},¬k∈kvs.map (·.1)->dY kvs k=kvs
 |[],_,_=>rfl
 |p::r,k,h=>by
  have h':¬k∈r.map (·.1):=λm=>by obtain⟨q,hq,e⟩:=HA.mp m;exact h (HA.mpr ⟨q,Hi.mpr (Or.inr hq),e⟩)
  rw[y_ λe=>h (HA.mpr ⟨p,Hi.mpr (Or.inl rfl),e⟩),ub h']
end
theorem aN{xs:List V}{z:Int}{j:Nat}{v:V}(e:z=(j:Int))(h:xs[j]?=some v):atI xs z=some v:=by rw[e];exact Cc h
theorem ak.made(nx:H x=Option.none)(nd:H dx=Option.none)(k:∀b o,(upd (upd H dx (.own x)) x (.ins C dx [])) b=some o->b≠x->H1 b=some o):ak H H1:=λb o e=>
 k b o (by rw[ai (au e nx),ai (au e nd)];exact e) (au e nx)
end L2
namespace L2
open PySem PySem.Spec PyProof.Rows
open PySem.W (WData Codec OpenSpec Well WellAll ReadsW ReadsAllW)
mutual
inductive Dw(K:LS)(H:Hp):V->WData->Prop
 |non:Dw K H .non .none
 |bl (b:Bool):Dw K H (.bl b) (.bool b)
 |int (i:Int):Dw K H (.int i) (.int i)
 |str (x:Str):Dw K H (.str x) (.str x)
 |byt (b:Array UInt8):Dw K H (.byt b) (.bytes b.toList)
 |lst {a:Addr} {xs:List V} {ds:List WData}:SqL K H a xs->DwAll K H xs ds->Dw K H (.ref a) (.list ds)
 |tup {a:Addr} {xs:List V} {ds:List WData}:SqT K H a xs->DwAll K H xs ds->Dw K H (.ref a) (.tuple ds)
inductive DwAll(K:LS)(H:Hp):List V->List WData->Prop
 |nil:DwAll K H [] []
 |cons {v:V} {vs:List V} {d:WData} {ds:List WData}:Dw K H v d->DwAll K H vs ds->DwAll K H (v::vs) (d::ds)
end
theorem wz{K:LS}{H:Hp}:∀ns:List Int,DwAll K H (ns.map V.int) (ns.map WData.int)
 |[]=>.nil
 |n::r=>.cons (.int n) (wz r)
theorem wo{K:LS}{H:Hp}:∀(ns:List Int)(xs:List V),DwAll K H xs (ns.map WData.int)->xs=ns.map V.int
 |[],xs,h=>by cases h;rfl
 |n::r,xs,h=>by
  cases h with
  |cons h1 h2=>cases h1;rw[wo r _ h2]<;>rfl
section
variable{P:Program}{w:World}{K:LS}{H:Hp}{h:Heap}{R:WRecords}{cl:Str->Option Addr}
theorem C1(hok:HOk P w H h)(KX:K.In h)(q:SqL K H a xs):∃(its:List Value)(o:Obj)(n:Nat),aC xs its/\h.get? a=some o/\o.cls=.type "list"/\o.data=.seq its.toArray n:=by
 rcases q with q|⟨o,its,n,e,hc,_,hd,_,hv⟩
 .obtain⟨_,its,n,hv,e⟩:=(show bZ P w H h a (.lst xs)from q.ok hok);exact⟨its,_,n,hv,e,rfl,rfl⟩
 .exact⟨its.toList,o,n,hv,KX _ _ e,hc,by simp[hd]⟩
theorem C0(hok:HOk P w H h)(KX:K.In h)(q:SqT K H a xs):∃(its:List Value)(o:Obj)(n:Nat),aC xs its/\h.get? a=some o/\o.cls=.type "tuple"/\o.data=.seq its.toArray n:=by
 rcases q with q|⟨o,its,n,e,hc,hd,_,hv⟩
 .obtain⟨_,its,hv,o,e,hc,n,hd⟩:=(show bZ P w H h a (.tup xs)from q.ok hok);exact⟨its,o,n,hv,e,hc,hd⟩
 .exact⟨its.toList,o,n,hv,KX _ _ e,hc,by simp[hd]⟩
mutual
theorem Dw.reads(hok:HOk P w H h)(KX:K.In h):∀(d:WData)(v:V)(u:Value),Dw K H v d->aR v u->∃as,ReadsW R cl h u d as
 | .none,_,_,x,r=>by cases x;cases r;exact⟨_,ReadsW.none⟩
 | .bool b,_,_,x,r=>by cases x;cases r;exact⟨_,ReadsW.bool b⟩
 | .int i,_,_,x,r=>by cases x;obtain⟨t,rfl⟩:=r;exact⟨_,ReadsW.int i t⟩
 | .str s,_,_,x,r=>by cases x;obtain⟨t,rfl⟩:=r;exact⟨_,ReadsW.str s t⟩
 | .bytes b,_,_,x,r=>by cases x;obtain⟨t,rfl⟩:=r;exact⟨_,ReadsW.bytes _ t⟩
 | .list ds,_,_,x,r=>by
  cases x with
  |lst hs ha=>cases r;obtain⟨its,o,n,rv,ho,hc,hd⟩:=C1 hok KX hs;obtain⟨as,hr⟩:=Dw.readsAll hok KX ds _ its ha rv;exact⟨_,ReadsW.list ho hc hd hr⟩
 | .tuple ds,_,_,x,r=>by
  cases x with
  |tup hs ha=>cases r;obtain⟨its,o,n,rv,ho,hc,hd⟩:=C0 hok KX hs;obtain⟨as,hr⟩:=Dw.readsAll hok KX ds _ its ha rv;exact⟨_,ReadsW.tuple ho hc hd hr⟩
 | .float _,_,_,x,_=>by cases x
 | .dict _,_,_,x,_=>by cases x
 | .bytearray _,_,_,x,_=>by cases x
 | .set _,_,_,x,_=>by cases x
 | .frozenset _,_,_,x,_=>by cases x
 | .obj _ _,_,_,x,_=>by cases x
theorem Dw.readsAll(hok:HOk P w H h)(KX:K.In h):∀(ds:List WData)(vs:List V)(us:List Value),DwAll K H vs ds->aC vs us->∃as,ReadsAllW R cl h us ds as
 |[],_,_,x,r=>by cases x;cases r;exact⟨_,ReadsAllW.nil⟩
 |d::ds,_,_,x,r=>by
  cases x with
  |cons h1 h2=>
   cases r with
   |cons r1 r2=>obtain⟨as,q1⟩:=Dw.reads hok KX d _ _ h1 r1;obtain⟨bs,q2⟩:=Dw.readsAll hok KX ds _ _ h2 r2;exact⟨_,ReadsAllW.cons q1 q2⟩
end
end
mutual
def plW:WData->Bool
 | .none=>true
 | .bool _=>true
 | .int _=>true
 | .str _=>true
 | .bytes _=>true
 | .list xs=>plWs xs
 | .tuple xs=>plWs xs
 |_=>false
def plWs:List WData->Bool
 |[]=>true
 |x::r=>plW x&&plWs r
end
theorem tu{α:Type}{f:α->WData}(h:∀a,plW (f a)=true):∀l:List α,plWs (l.map f)=true
 |[]=>rfl
 |x::r=>by show(plW (f x)&&plWs (r.map f))=true;rw[h x,tu h r]<;>rfl
theorem gL:∀(c:Codec)(a:c.denote),plW (c.enc a)=true
 | .unit,_=>rfl
 | .bool,_=>rfl
 | .int _ _,_=>rfl
 | .nat _ _,_=>rfl
 | .u8,_=>rfl
 | .bytes _ _,_=>rfl
 | .text _ _ _ _,_=>rfl
 | .list _ _ c,a=>tu (λx=>gL c x) a
 | .pair c d,a=>by show(plW (c.enc a.1)&&(plW (d.enc a.2)&&true))=true;rw[gL c a.1,gL d a.2]<;>rfl
 | .triple c d e,a=>by show(plW (c.enc a.1)&&(plW (d.enc a.2.1)&&(plW (e.enc a.2.2)&&true)))=true;rw[gL c a.1,gL d a.2.1,gL e a.2.2]<;>rfl
 | .option c,none=>rfl
 | .option c,some x=>gL c x
theorem qB:∀(cs:List Codec)(a:Codec.denoteAll cs),plWs (Codec.encAll cs a)=true
 |[],_=>rfl
 |c::cs,a=>by show(plW (c.enc a.1)&&plWs (Codec.encAll cs a.2))=true;rw[gL c a.1,qB cs a.2]<;>rfl
theorem jT:∀{xs:List WData}{d:WData},d∈xs->d.weight<=WData.weightAll xs
 |[],d,h=>absurd h (by simp)
 |x::r,d,h=>by
  show d.weight<=x.weight+1+WData.weightAll r;rcases Hi.mp h with e|m
  .rw[e];omega
  .have z:=jT m;omega
def toV:Value->V
 | .none=>.non
 | .bool b=>.bl b
 | .int i _=>.int i
 | .str x _=>.str x
 | .bytes b _=>.byt b
 | .ref a=>.ref a
 |_=>.non
def OkU(A:List Addr):Value->Prop
 | .none=>True
 | .bool _=>True
 | .int _ _=>True
 | .str _ _=>True
 | .bytes _ _=>True
 | .ref a=>a∈A
 |_=>False
theorem OkU.mono(h:∀a∈A,a∈B):∀{u:Value},OkU A u->OkU B u:=λ{u} x=>by
 cases u with
 |ref a=>exact h a x
 |none=>trivial
 |bool b=>trivial
 |int i t=>trivial
 |str s t=>trivial
 |bytes b t=>trivial
 |_=>exact False.elim x
theorem zY(x:OkU A u):aR (toV u) u:=by
 cases u with
 |ref a=>rfl
 |none=>rfl
 |bool b=>rfl
 |int i t=>exact⟨t,rfl⟩
 |str s t=>exact⟨t,rfl⟩
 |bytes b t=>exact⟨t,rfl⟩
 |_=>exact False.elim x
theorem gr:∀{vs:List Value},(∀u∈vs,OkU A u)->aC (vs.map toV) vs
 |[],_=>.nil
 |u::r,h=>.cons (zY (h u (Hk ..))) (gr λx hx=>h x (Hh _ hx))
def fK(h:Heap)(A:List Addr)(a:Addr):Prop:=∃vs:List Value,vs.length<=sizeLine/\(∀u∈vs,OkU A u)/\
 (h.get? a=some {cls:=.type "list",data:=.seq vs.toArray}\/h.get? a=some {cls:=.type "tuple",data:=.seq vs.toArray})
theorem fK.mono(k:∀a∈A,a∈B)(x:fK h A a):fK h B a:=by obtain⟨vs,h1,h2,h3⟩:=x;exact⟨vs,h1,λu hu=>(h2 u hu).mono k,h3⟩
theorem gE:∀{vs:List Value}{ds:List WData},WellAll P h vs ds->vs.length=ds.length
 |_,_,.nil=>rfl
 |_,_,.cons _ b=>by show _+1=_+1;rw[gE b]
theorem qi{P:Params}{h:Heap}{v:Value}{ds:List WData}(x:Well P h v (.list ds)):∃(a:Addr)(vs:List Value),v=.ref a/\h.get? a=some {cls:=.type "list",data:=.seq vs.toArray}/\WellAll P h vs ds:=by
 cases x with
 |list ho Md=>exact⟨_,_,rfl,ho,Md⟩
theorem oJ{P:Params}{h:Heap}{v:Value}{ds:List WData}(x:Well P h v (.tuple ds)):∃(a:Addr)(vs:List Value),v=.ref a/\h.get? a=some {cls:=.type "tuple",data:=.seq vs.toArray}/\WellAll P h vs ds:=by
 cases x with
 |tuple ho Md=>exact⟨_,_,rfl,ho,Md⟩
theorem qj{P:Params}{h:Heap}{us:List Value}{d:WData}{ds:List WData}(x:WellAll P h us (d::ds)):∃(v:Value)(vs:List Value),us=v::vs/\Well P h v d/\WellAll P h vs ds:=by
 cases x with
 |cons a b=>exact⟨_,_,rfl,a,b⟩
theorem wj(h:n<=1048576):n<=sizeLine:=Hv h (by decide)
section
variable{P:Params}{h:Heap}
mutual
theorem AT:∀(d:WData)(v:Value),Well P h v d->plW d=true->d.weight<=1048576->∃A:List Addr,OkU A v/\∀a∈A,fK h A a
 | .none,_,x,_,_=>by cases x;exact⟨[],Jy,λa m=>absurd m (by simp)⟩
 | .bool b,_,x,_,_=>by cases x;exact⟨[],Jy,λa m=>absurd m (by simp)⟩
 | .int i,_,x,_,_=>by cases x;exact⟨[],Jy,λa m=>absurd m (by simp)⟩
 | .str s,_,x,_,_=>by cases x;exact⟨[],Jy,λa m=>absurd m (by simp)⟩
 | .bytes b,_,x,_,_=>by cases x;exact⟨[],Jy,λa m=>absurd m (by simp)⟩
 | .list ds,_,x,p,z=>by
  obtain⟨a,vs,rfl,ho,Md⟩:=qi x;have z2:WData.weightAll ds<=1048576:=z;obtain⟨A,h1,h2⟩:=area_all ds _ Md p λd hd=>Hv (jT hd) z2;have k:∀b∈A,b∈a::A:=λb hb=>Hh _ hb;refine⟨a::A,Hk ..,λb hb=>?_⟩;rcases Hi.mp hb with e|m
  .rw[e];exact⟨vs,wj (by rw[gE Md];exact Hv (K5 ds) z2),λu hu=>(h1 u hu).mono k,.inl ho⟩
  .exact(h2 b m).mono k
 | .tuple ds,_,x,p,z=>by
  obtain⟨a,vs,rfl,ho,Md⟩:=oJ x;have z2:WData.weightAll ds<=1048576:=z;obtain⟨A,h1,h2⟩:=area_all ds _ Md p λd hd=>Hv (jT hd) z2;have k:∀b∈A,b∈a::A:=λb hb=>Hh _ hb;refine⟨a::A,Hk ..,λb hb=>?_⟩;rcases Hi.mp hb with e|m
  .rw[e];exact⟨vs,wj (by rw[gE Md];exact Hv (K5 ds) z2),λu hu=>(h1 u hu).mono k,.inr ho⟩
  .exact(h2 b m).mono k
 | .float _,_,_,p,_=>noConfusion (show false=true from p)
 | .dict _,_,_,p,_=>noConfusion (show false=true from p)
 | .bytearray _,_,_,p,_=>noConfusion (show false=true from p)
 | .set _,_,_,p,_=>noConfusion (show false=true from p)
 | .frozenset _,_,_,p,_=>noConfusion (show false=true from p)
 | .obj _ _,_,_,p,_=>noConfusion (show false=true from p)
theorem area_all:∀(ds:List WData)(vs:List Value),WellAll P h vs ds->plWs ds=true->(∀d∈ds,d.weight<=1048576)->∃A:List Addr,(∀u∈vs,OkU A u)/\∀a∈A,fK h A a
 |[],_,x,_,_=>by cases x;exact⟨[],λu m=>absurd m (by simp),λa m=>absurd m (by simp)⟩
 |d::ds,_,x,p,z=>by
  obtain⟨v,vs,rfl,x1,x2⟩:=qj x;have q:plW d=true/\plWs ds=true:=Ir.mp p;obtain⟨A,a1,a2⟩:=AT d v x1 q.1 (z d (Hk ..));obtain⟨B,b1,b2⟩:=area_all ds vs x2 q.2 λe he=>z e (Hh _ he);have kA:∀b∈A,b∈A++B:=λb hb=>H_.mpr (.inl hb);have kB:∀b∈B,b∈A++B:=λb hb=>H_.mpr (.inr hb);refine⟨A++B,λu hu=>?_,λb hb=>?_⟩
  .rcases Hi.mp hu with e|m
   .rw[e];exact a1.mono kA
   .exact(b1 u m).mono kB
  .rcases H_.mp hb with m|m
   .exact(a2 b m).mono kA
   .exact(b2 b m).mono kB
end
end
def wM(o:Obj):Option HO:=match o.data with
 | .seq vs _=>if(o.cls==Value.type "list")=true then some (.frz o (.lst (vs.toList.map toV)))else some (.frz o (.tup (vs.toList.map toV)))
 |_=>none
def dW(K:LS)(h:Heap)(A:List Addr):Hp:=λb=>if b∈A then(if(K.lookup b).isNone=true then(h.get? b).bind wM else none)else none
def sh(H:Hp):Prop:=∀b,H b=none\/∃o u,H b=some (.frz o u)
theorem tQ(vs:List Value):wM {cls:=.type "list",data:=.seq vs.toArray}=some (.frz {cls:=.type "list",data:=.seq vs.toArray} (.lst (vs.map toV))):=by show(if(Value.type "list"==Value.type "list")=true then some (HO.frz {cls:=.type "list",data:=.seq vs.toArray} (.lst (vs.toArray.toList.map toV)))else some (HO.frz {cls:=.type "list",data:=.seq vs.toArray} (.tup (vs.toArray.toList.map toV))))=_;rw[Hc (beq_self_eq_true _)]
theorem tP(vs:List Value):wM {cls:=.type "tuple",data:=.seq vs.toArray}=some (.frz {cls:=.type "tuple",data:=.seq vs.toArray} (.tup (vs.map toV))):=by show(if(Value.type "tuple"==Value.type "list")=true then some (HO.frz {cls:=.type "tuple",data:=.seq vs.toArray} (.lst (vs.toArray.toList.map toV)))else some (HO.frz {cls:=.type "tuple",data:=.seq vs.toArray} (.tup (vs.toArray.toList.map toV))))=_;rw[G9 (by decide)]
section
variable{P:Program}{w:World}{K:LS}{h:Heap}{A:List Addr}
theorem mx(hb:b∈A)(hk:K.lookup b=none)(e:h.get? b=some o):dW K h A b=wM o:=by unfold dW;rw[Hc hb,hk,Hc (show(none:Option Obj).isNone=true from rfl),e]<;>rfl
theorem BL(q:dW K h A b=some u):b∈A/\K.lookup b=none:=by
 unfold dW at q;by_cases hb:b∈A
 .rw[Hc hb]at q;cases hk:K.lookup b with
  |none=>exact⟨hb,rfl⟩
  |some o=>rw[hk,G9 (by simp)]at q;cases q
 .rw[G9 hb]at q;cases q
theorem mw(ar:∀a∈A,fK h A a)(q:dW K h A b=some u):K.lookup b=none/\∃vs:List Value,vs.length<=sizeLine/\(∀u∈vs,OkU A u)/\ ((h.get? b=some {cls:=.type "list",data:=.seq vs.toArray}/\u=.frz {cls:=.type "list",data:=.seq vs.toArray} (.lst (vs.map toV)))\/ (h.get? b=some {cls:=.type "tuple",data:=.seq vs.toArray}/\u=.frz {cls:=.type "tuple",data:=.seq vs.toArray} (.tup (vs.map toV)))):=by
 obtain⟨hb,hk⟩:=BL q;obtain⟨vs,h1,h2,h3⟩:=ar b hb;refine⟨hk,vs,h1,h2,?_⟩;rcases h3 with e|e
 .rw[mx hb hk e,tQ]at q;exact .inl ⟨e,(Hg q).symm⟩
 .rw[mx hb hk e,tP]at q;exact .inr ⟨e,(Hg q).symm⟩
theorem zj(ar:∀a∈A,fK h A a):sh (dW K h A):=λb=>by
 cases q:dW K h A b with
 |none=>exact .inl rfl
 |some u=>
  obtain⟨_,vs,_,_,⟨_,e⟩|⟨_,e⟩⟩:=mw ar q
  .exact .inr ⟨_,_,by rw[e]⟩
  .exact .inr ⟨_,_,by rw[e]⟩
theorem Ce(ar:∀a∈A,fK h A a):HOk P w (dW K h A) h:=λb u q=>by
 obtain⟨_,vs,h1,h2,⟨e,rfl⟩|⟨e,rfl⟩⟩:=mw ar q
 .exact⟨e,by rw[G8];exact h1,vs,_,gr h2,e⟩
 .exact⟨e,by rw[G8];exact h1,vs,gr h2,_,e,rfl,_,rfl⟩
theorem mi{c c':Value}{vs us:List Value}(e:(some {cls:=c,data:=.seq vs.toArray}:Option Obj)=some {cls:=c',data:=.seq us.toArray}):c=c'/\vs=us:=by have e1:=Hg e;have e2:c=c':=HU Obj.cls e1;have e3:Data.seq vs.toArray=Data.seq us.toArray:=HU Obj.data e1;injection e3 with e4;refine⟨e2,?_⟩;have e5:=HU toList e4;simpa using e5
theorem EU(KX:K.In h)(ar:∀a∈A,fK h A a){a:Addr}{vs:List Value}(ha:a∈A)(e:h.get? a=some {cls:=.type "list",data:=.seq vs.toArray}):(∀u∈vs,OkU A u)/\SqL K (dW K h A) a (vs.map toV):=by
 obtain⟨us,h1,h2,h3⟩:=ar a ha;have hu:us=vs:=by
  rcases h3 with q|q
  .rw[e]at q;exact(mi q).2.symm
  .rw[e]at q;exact absurd (Value.type.inj (mi q).1) (by decide)
 subst hu;refine⟨h2,?_⟩;cases hk:K.lookup a with
 |none=>exact .inl (.inr ⟨_,by rw[mx ha hk e,tQ]⟩)
 |some o=>have e2:=KX a o hk;rw[e]at e2;obtain rfl:=Hg e2;exact .inr ⟨_,us.toArray,_,hk,rfl,rfl,rfl,by rw[HP];exact h1,by simpa using gr h2⟩
theorem ET(KX:K.In h)(ar:∀a∈A,fK h A a){a:Addr}{vs:List Value}(ha:a∈A)(e:h.get? a=some {cls:=.type "tuple",data:=.seq vs.toArray}):(∀u∈vs,OkU A u)/\SqT K (dW K h A) a (vs.map toV):=by
 obtain⟨us,h1,h2,h3⟩:=ar a ha;have hu:us=vs:=by
  rcases h3 with q|q
  .rw[e]at q;exact absurd (Value.type.inj (mi q).1) (by decide)
  .rw[e]at q;exact(mi q).2.symm
 subst hu;refine⟨h2,?_⟩;cases hk:K.lookup a with
 |none=>exact .inl (.inr ⟨_,by rw[mx ha hk e,tP]⟩)
 |some o=>have e2:=KX a o hk;rw[e]at e2;obtain rfl:=Hg e2;exact .inr ⟨_,us.toArray,_,hk,rfl,rfl,by rw[HP];exact h1,by simpa using gr h2⟩
mutual
theorem DC{Pm:Params}(KX:K.In h)(ar:∀a∈A,fK h A a):∀(d:WData)(v:Value),Well Pm h v d->plW d=true->OkU A v->Dw K (dW K h A) (toV v) d
 | .none,_,x,_,_=>by cases x;exact .non
 | .bool b,_,x,_,_=>by cases x;exact .bl b
 | .int i,_,x,_,_=>by cases x;exact .int i
 | .str s,_,x,_,_=>by cases x;exact .str s
 | .bytes b,_,x,_,_=>by cases x;have z:=Dw.byt (K:=K) (H:=dW K h A) b.toArray;exact z
 | .list ds,_,x,p,hu=>by obtain⟨a,vs,rfl,ho,Md⟩:=qi x;obtain⟨h2,hs⟩:=EU KX ar hu ho;exact .lst hs (dw_all KX ar ds _ Md p h2)
 | .tuple ds,_,x,p,hu=>by obtain⟨a,vs,rfl,ho,Md⟩:=oJ x;obtain⟨h2,hs⟩:=ET KX ar hu ho;exact .tup hs (dw_all KX ar ds _ Md p h2)
 | .float _,_,_,p,_=>noConfusion (show false=true from p)
 | .dict _,_,_,p,_=>noConfusion (show false=true from p)
 | .bytearray _,_,_,p,_=>noConfusion (show false=true from p)
 | .set _,_,_,p,_=>noConfusion (show false=true from p)
 | .frozenset _,_,_,p,_=>noConfusion (show false=true from p)
 | .obj _ _,_,_,p,_=>noConfusion (show false=true from p)
theorem dw_all{Pm:Params}(KX:K.In h)(ar:∀a∈A,fK h A a):∀(ds:List WData)(vs:List Value),WellAll Pm h vs ds->plWs ds=true->(∀u∈vs,OkU A u)->DwAll K (dW K h A) (vs.map toV) ds
 |[],_,x,_,_=>by cases x;exact .nil
 |d::ds,_,x,p,hu=>by obtain⟨v,vs,rfl,x1,x2⟩:=qj x;have q:plW d=true/\plWs ds=true:=Ir.mp p;exact .cons (DC KX ar d v x1 q.1 (hu _ (Hk ..))) (dw_all KX ar ds vs x2 q.2 λu m=>hu u (Hh _ m))
end
end
theorem yC{P:Program}{w:World}{K:LS}{mg mb:Str->Option Value}{CX:CXT}{k:Nat}{fa:Addr}{fd:FuncData}{ps:List Str}{sp:Sp}{s₁:Shared}{L5:List Value}{ds:List WData}{R:WRecords}{cl:Str->Option Addr}{d0:WData} (KX:K.In s₁.heap) (hns:s₁.heap.Ns mainGlobals mg) (hb:s₁.heap.Ns builtinsNs mb) (hbb:∀x:Str,x≠"__name__"->mb x=bootBuiltins x) (hlim:s₁.heap.NoLimit) (hg:s₁.gens= #[])(hwl:WellAll w.params s₁.heap L5 ds) (Ms:plWs ds=true) (hwt:∀d∈ds,d.weight<=1048576) (hr:bC k callerA)(F:∀base:Heap,K.In base->base.Ns mainGlobals mg->dE P w K mg base CX k fa fd ps sp) (hbind:∀(s:Shared)(us:List Value),us.length=ps.length->BindsTo s fd ⟨us,[]⟩ (ps.zip us)) (L3:ds.length=ps.length)(Ox:∀(H:Hp)(xs:List V),sh H->DwAll K H xs ds->sp xs H (λv H'=>Dw K H' v d0) λ_ _ _=>False)(hCX:∀H e s',CX [] H s₁ (λ_ _ _=>False) e s'->False):codeAny (model P w) callerA (.call (.ref fa) ⟨L5,[]⟩) (λr s'=>∃u as,r=.ok (.ret u)/\ReadsW R cl s'.heap u d0 as/\OldK s₁.heap s'.heap/\s'.os=s₁.os/\AllBare s'.gens) s₁:=by
 obtain⟨A,ho,ar⟩:=area_all ds L5 hwl Ms hwt;have hO:sh (dW K s₁.heap A):=zj ar;have hok:HOk P w (dW K s₁.heap A) s₁.heap:=Ce ar;have hS:=dw_all KX ar ds L5 hwl Ms ho;have hV:=gr ho;have hK:∀b u,dW K s₁.heap A b=some u->K.lookup b=none:=λb u q=>(mw ar q).1;have noA:∀{b:Addr}{o:Obj}{es:Array DictEntry}{ep:Nat},s₁.heap.get? b=some o->o.data=.dict es ep->dW K s₁.heap A b=none:=λ{b o es ep} e d=>by
  cases q:dW K s₁.heap A b with
  |none=>rfl
  |some u=>
   obtain⟨_,vs,_,_,⟨e2,_⟩|⟨e2,_⟩⟩:=mw ar q
   .rw[e2]at e;cases e;have d':Data.seq vs.toArray _=Data.dict es ep:=d;cases d'
   .rw[e2]at e;cases e;have d':Data.seq vs.toArray _=Data.dict es ep:=d;cases d'
 generalize dW K s₁.heap A=H at hO hok hS hK noA;have N9:∀{b:Addr}{o:Obj},s₁.heap.get? b=some o->H b=none->(jA s₁.heap H).get? b=some o:=λe n=>Az e n;have nsK:∀{b:Addr}{m:Str->Option Value},s₁.heap.Ns b m->(jA s₁.heap H).Ns b m:=λ{b m} ⟨o,es,ep,e,d,r⟩=>⟨o,es,ep,N9 e (noA e d),d,r⟩;have nK:∀b o,K.lookup b=some o->H b=none:=λb o e=>by
  cases q:H b with
  |none=>rfl
  |some u=>rw[hK b u q]at e;cases e
 have hKb:K.In (jA s₁.heap H):=λb o e=>N9 (KX b o e) (nK b o e);have hM:Mod K mg (jA s₁.heap H):=⟨hKb,nsK hns,⟨mb,nsK hb,hbb⟩,let⟨mc,h1,h2⟩:=hlim;⟨mc,nsK h1,h2⟩⟩;have e0:ij P w K mg (jA s₁.heap H) callerA [] s₁ H:=⟨rfl,hM,λb o e=>BK e,KD (y1 _ _),Jy,λb hb=>absurd (show b∈([]:List Addr)from hb) (by simp),hok,.of_eq hg⟩;have hl:L5.length=ps.length:=by rw[gE hwl];exact L3
 refine Jb ((F _ hKb (nsK hns)).run callerA [] s₁ H ⟨L5,[]⟩ L5 (L5.map toV) _ _ hr e0 (hbind s₁ L5 hl) hV (Ox H _ hO hS)) λr s' x=>?_;cases r with
 |error e=>exact(hCX H e s' x).elim
 |ok fl=>
  cases fl with
  |next=>exact False.elim x
  |brk=>exact False.elim x
  |cont=>exact False.elim x
  |ret u=>
   obtain⟨v,H',os,bare,un,hok',r',q⟩:=x;have kept:∀b o,s₁.heap.get? b=some o->s'.heap.get? b=some o:=λb o e=>by
    cases q2:H b with
    |none=>exact un.keep b o e q2 (by intro z;exact absurd (show b∈([]:List Addr)from z) (by simp)) (by simp)
    |some u2=>
     rcases hO b with z|⟨ob,u3,z⟩
     .rw[q2]at z;cases z
     .have z2:=un.frzs b ob _ z;obtain⟨e1,_⟩:=hok b _ z;obtain⟨e2,_⟩:=hok' b _ z2;rw[e]at e1;cases e1;exact e2
   have KX':K.In s'.heap:=λb o e=>kept b o (KX b o e);obtain⟨as,hrd⟩:=Dw.reads (R:=R) (cl:=cl) hok' KX' d0 v u q r';exact⟨u,as,rfl,hrd,OldK.of_keep kept,os,bare⟩
theorem qc(h:WData.layableAll ds=true):∀d∈ds,d.weight<=1048576:=λd hd=>
 (PySem.W.layableW_iff.mp (Ij.mp h d hd)).2.2
theorem o0:∀(cs:List Codec)(a:Codec.denoteAll cs),(Codec.encAll cs a).length=cs.length
 |[],_=>rfl
 |c::cs,a=>by show(Codec.encAll cs a.2).length+1=cs.length+1;rw[o0 cs a.2]
end L2
namespace Wh
open PySem PySem.Spec PyProof.Rows L2
structure fg(J:It)(n:Nat)(G:Hp->Prop)(Item:Nat->V->Hp->Prop):Prop where
 go:∀i H,G H->i<n->J.go i H
 stop:∀i H,G H->n<=i->J.stop i H
 yld:∀i H x H',G H->i<n->J.yld i H x H'->ak H H'/\Item i x H'
theorem b9{K:LS}{a:Addr}{xs:List V}{G:Hp->Prop}(h:∀H,G H->SqL K H a xs):fg (Itl K a) xs.length G (λi x _=>xs[i]?=some x)where
 go:=λi H g hi=>⟨xs,xs[i],h H g,by simp[hi]⟩
 stop:=λi H g hi=>⟨xs,h H g,hi⟩
 yld:=λi H x H' g hi y=>by obtain⟨e,y⟩:=y;subst e;exact⟨ak.refl _,y xs (h _ g)⟩
theorem Aq{K:LS}{a:Addr}{xs:List V}{G:Hp->Prop}(h:∀H,G H->SqT K H a xs):fg (Itt K a) xs.length G (λi x _=>xs[i]?=some x)where
 go:=λi H g hi=>⟨xs,xs[i],h H g,by simp[hi]⟩
 stop:=λi H g hi=>⟨xs,h H g,hi⟩
 yld:=λi H x H' g hi y=>by obtain⟨e,y⟩:=y;subst e;exact⟨ak.refl _,y xs (h _ g)⟩
theorem xz{lo:Int}{n:Nat}{G:Hp->Prop}:fg (Itr lo n) n G (λi x _=>x=.int (lo+i))where
 go:=λi H g hi=>hi
 stop:=λi H g hi=>hi
 yld:=λi H x H' g hi y=>by obtain⟨e,y⟩:=y;subst e;exact⟨ak.refl _,y⟩
theorem i7{lo c:Int}{n:Nat}{G:Hp->Prop}:fg (Itc lo c n) n G (λi x _=>x=.int (lo+(i:Nat)*c))where
 go:=λi H g hi=>hi
 stop:=λi H g hi=>hi
 yld:=λi H x H' g hi y=>by obtain⟨e,y⟩:=y;subst e;exact⟨ak.refl _,y⟩
theorem ak.upd(h:H p=Option.none):ak H (upd H p o):=λb u e=>by rw[ai (au e h)];exact e
theorem nG{K:LS}{a b:Addr}{xs ys:List V}{G:Hp->Prop}(h:∀H,G H->SqL K H a xs/\SqL K H b ys):fg (Itz K a b) (min xs.length ys.length) G (λi v H'=>∃T x y,v=.ref T/\H' T=some (.tup [x,y])/\xs[i]?=some x/\ys[i]?=some y)where
 go:=λi H g hi=>⟨xs,ys,xs[i]'(by omega),ys[i]'(by omega),(h H g).1,(h H g).2,by simp,by simp⟩
 stop:=λi H g hi=>⟨xs,ys,(h H g).1,(h H g).2,by omega⟩
 yld:=λi H x H' g hi y=>by obtain⟨T,u,v,rfl,hT,rfl,h1,h2⟩:=y;exact⟨ak.upd hT,T,u,v,rfl,aa,h1 xs (h H g).1,h2 ys (h H g).2⟩
def jj(J:It)(g:TG)(tt:TT)(te:TE)(vs:List Nat)(σ:L2.St)(Q:VK)(H1:Hp):Prop:=∀D,H1 D=none->∃W:Nat->Nat->Hp->Prop,(∃m,W 0 m (upd H1 D (.lst [])))/\∀i m H,W i m H->
   (J.stop i H/\Q (.ref D) H)\/(J.go i H/\∃Nx:Hp->Prop,(∀H',Nx H'->∃m',m'<m/\W (i+1) m' H')/\∀x H',J.yld i H x H'->g x (cb σ vs) H' λσ2 H2=>cb σ2 vs=cb σ vs/\tt σ2 H2 λb H3=>
    if b=true then te σ2 H3 λy H4=>∃acc,H4 D=some (.lst acc)/\acc.length<sizeLine/\Nx (upd H4 D (.lst (acc++[y])))else Nx H3)
theorem bq(h:wi σ H λJ H1=>jj J g tt te vs σ Q H1):tLc wi g tt te vs σ H Q:=h
def wH(J:It)(g:TG)(tb:TS)(D:jC)(σ:L2.St)(H1:Hp):Prop:=∃W:Nat->Nat->L2.St->Hp->Prop,(∃m,W 0 m σ H1)/\∀i m σ H,W i m σ H->
 (J.stop i H/\D.nx σ H)\/(J.go i H/\∃N:L2.St->Hp->Prop,(∀σ' H',N σ' H'->∃m',m'<m/\W (i+1) m' σ' H')/\∀x H',J.yld i H x H'->g x σ H' λσ2 H2=>tb {D with nx:=N,ct:=N,bk:=D.nx} σ2 H2)
theorem cw(h:wi σ H λJ H1=>wH J g tb D σ H1):zq wi g tb D σ H:=h
theorem cB(hJ:fg J n G Item)(Pv:Nat->L2.St->Hp->Prop)(h0:Pv 0 σ H1)(hG:∀i σ H,i<=n->Pv i σ H->G H)(hs:∀i x σ H H',i<n->Pv i σ H->ak H H'->Item i x H'->g x σ H' λσ2 H2=>tb {D with nx:=Pv (i+1),ct:=Pv (i+1),bk:=D.nx} σ2 H2) (hd:∀σ H,Pv n σ H->D.nx σ H):wH J g tb D σ H1:=by
 refine⟨λi m σ H=>m=n-i/\i<=n/\Pv i σ H,⟨n,by simp,HJ _,h0⟩,?_⟩;rintro i m σ H ⟨rfl,hi,p⟩;have q:=hG i σ H hi p;by_cases Mq:i<n
 .refine .inr ⟨hJ.go i H q Mq,Pv (i+1),λσ' H' p'=>⟨n-(i+1),by omega,rfl,Mq,p'⟩,λx H' y=>?_⟩;obtain⟨s,it⟩:=hJ.yld i H x H' q Mq y;exact hs i x σ H H' Mq p s it
 .have e:i=n:=by omega
  subst e;exact .inl ⟨hJ.stop i H q (Hu _),hd σ H p⟩
theorem cn(h:te σ H D.rt):si te D σ H:=h
theorem sk(h:t {D with nx:=u D} σ H):b6 t u D σ H:=h
theorem gA(h:t σ H λvs H1=>r vs H1 Q):tCB r t σ H Q:=h
theorem dP(h:ta σ H λx H1=>tr σ H1 λxs H2=>Q (x::xs) H2):br ta tr σ H Q:=h
theorem sw(h:te σ H λx H1=>g x σ H1 D.nx):cu te g D σ H:=h
theorem sq(h:c σ H λb H1=>if b=true then t D σ H1 else u D σ H1):pz c t u D σ H:=h
theorem ck(h:Q true H):zo σ H Q:=h
theorem En{J:It}{n:Nat}{G:Hp->Prop}{Item:Nat->V->Hp->Prop}(hJ:fg J n G Item){g:TG}{tt:TT}{te:TE}{vs:List Nat}{σ:L2.St}{H1:Hp}{D:Addr}{Qd:Hp->Prop}(Pv:Nat->Hp->Prop)(h0:Pv 0 (upd H1 D (.lst [])))(hG:∀i H,i<=n->Pv i H->G H)(hs:∀i x H H',i<n->Pv i H->ak H H'->Item i x H'->g x (cb σ vs) H' λσ2 H2=>cb σ2 vs=cb σ vs/\tt σ2 H2 λb H3=>
   if b=true then te σ2 H3 λy H4=>∃acc,H4 D=some (.lst acc)/\acc.length<sizeLine/\Pv (i+1) (upd H4 D (.lst (acc++[y])))else Pv (i+1) H3) (hd:∀H,Pv n H->Qd H):
  ∃W:Nat->Nat->Hp->Prop,(∃m,W 0 m (upd H1 D (.lst [])))/\∀i m H,W i m H->
   (J.stop i H/\Qd H)\/(J.go i H/\∃Nx:Hp->Prop,(∀H',Nx H'->∃m',m'<m/\W (i+1) m' H')/\∀x H',J.yld i H x H'->g x (cb σ vs) H' λσ2 H2=>cb σ2 vs=cb σ vs/\tt σ2 H2 λb H3=>
    if b=true then te σ2 H3 λy H4=>∃acc,H4 D=some (.lst acc)/\acc.length<sizeLine/\Nx (upd H4 D (.lst (acc++[y])))else Nx H3):=by
 refine⟨λi m H=>m=n-i/\i<=n/\Pv i H,⟨n,by simp,HJ _,h0⟩,?_⟩;rintro i m H ⟨rfl,hi,p⟩;have q:=hG i H hi p;by_cases Mq:i<n
 .refine .inr ⟨hJ.go i H q Mq,Pv (i+1),λH' p'=>⟨n-(i+1),by omega,rfl,Mq,p'⟩,λx H' y=>?_⟩;obtain⟨s,it⟩:=hJ.yld i H x H' q Mq y;exact hs i x H H' Mq p s it
 .have e:i=n:=by omega
  subst e;exact .inl ⟨hJ.stop i H q (Hu _),hd H p⟩
theorem a6{α:Type}:∀{l:List α}{i:Nat}{x:α},l[i]?=some x->l.take (i+1)=l.take i++[x]
 |[],i,x,h=>by simp at h
 |a::l,0,x,h=>by have e:a=x:=Hg h;subst e;rfl
 |a::l,i+1,x,h=>by have ih:=a6 (l:=l) (i:=i) (x:=x) h;show a::l.take (i+1)=a::l.take i++[x];rw[ih];rfl
theorem bh{α:Type}:∀l:List α,l.filter (λ_=>true)=l
 |[]=>rfl
 |a::r=>by rw[Hy,Hc rfl,bh r]
theorem Paired.app{α β:Type}{F:α->β->Prop}:∀{l₁ l₁':List α}{l₂ l₂':List β},Paired F l₁ l₂->Paired F l₁' l₂'->Paired F (l₁++l₁') (l₂++l₂')
 |_,_,_,_,.nil,s=>s
 |_,_,_,_,.cons r t,s=>.cons r (Paired.app t s)
theorem sK{α:Type}(xs:List α)(p:α->Bool)(O6:Addr->α->V->Hp->Prop)(hJ:fg J xs.length (λH=>ak H1 H) Item)(L3:xs.length<sizeLine)(mono:∀D a y H H',(∀b o,b≠D->H b=some o->H' b=some o)->O6 D a y H->O6 D a y H')(hs:∀i a x D ys H(R:Option V->Hp->Prop),xs[i]?=some a->ak H1 H->H1 D=none->H D=some (.lst ys)->Item i x H->(∀y H',ak H H'->(p a=true->O6 D a y H'->R (some y) H')/\(p a=false->R none H'))->
 g x (cb σ vs) H λσ2 H2=>cb σ2 vs=cb σ vs/\tt σ2 H2 λb H3=>if b=true then te σ2 H3 λy H4=>R (some y) H4 else R none H3)
 (hd:∀D H' ys,H1 D=none->ak H1 H'->H' D=some (.lst ys)->Paired (λa y=>O6 D a y H') (xs.filter p) ys->Q (.ref D) H'):
  jj J g tt te vs σ Q H1:=by
 intro D hD;refine En hJ (λi H=>ak H1 H/\∃ys,H D=some (.lst ys)/\Paired (λa y=>O6 D a y H) ((xs.take i).filter p) ys) ⟨ak.upd hD,[],aa,.nil⟩ (λi H _ h=>h.1) ?_ ?_
 .rintro i x H H' hi ⟨s1,ys,hy,pr⟩ s2 it;have ha:xs[i]?=some xs[i]:=by simp[hi]
  have MS:=s2 _ _ hy;have hl:ys.length<=i:=by
   have e1:=HC pr;have e2:=Hz p (xs.take i);have e3:(xs.take i).length<=i:=by rw[Iv];omega
   omega
  have key:=hs i xs[i] x D ys H' (λo H4=>match o with
   |some y=>∃acc,H4 D=some (.lst acc)/\acc.length<sizeLine/\(ak H1 (upd H4 D (.lst (acc++[y])))/\∃zs,(upd H4 D (.lst (acc++[y]))) D=some (.lst zs)/\Paired (λa z=>O6 D a z (upd H4 D (.lst (acc++[y])))) ((xs.take (i+1)).filter p) zs)
   |none=>ak H1 H4/\∃zs,H4 D=some (.lst zs)/\Paired (λa z=>O6 D a z H4) ((xs.take (i+1)).filter p) zs) ha (s1.trans s2) hD MS it
  refine key ?_;intro y H4 s3;have s4:ak H1 H4:=(s1.trans s2).trans s3;have pr4:Paired (λa y=>O6 D a y H4) ((xs.take i).filter p) ys:=Paired.mapP pr λa y r=>mono D a y H H4 (λb o _ e=>s3 _ _ (s2 _ _ e)) r;refine⟨λhp r=>⟨ys,s3 _ _ MS,by omega,λb o e=>by rw[ai (au e hD)];exact s4 b o e,ys++[y],aa,?_⟩,λhp=>⟨s4,ys,s3 _ _ MS,?_⟩⟩
  .rw[a6 ha,IK,Hy,Hc hp,filter_nil];have mv:∀a z,O6 D a z H4->O6 D a z (upd H4 D (.lst (ys++[y]))):=λa z r=>mono D a z H4 _ (λb o nb e=>by rw[ai nb];exact e) r;exact Paired.app (Paired.mapP pr4 mv) (.cons (mv _ _ r) .nil)
  .rw[a6 ha,IK,Hy,G9 (by rw[hp];exact Hm),filter_nil,IU];exact pr4
 .rintro H ⟨s1,ys,hy,pr⟩;rw[Im]at pr;exact hd D H ys hD s1 hy pr
theorem oV{α:Type}{f:α->V}:∀{xs:List α}{ys:List V},Paired (λa y=>y=f a) xs ys->ys=xs.map f
 |_,_,.nil=>rfl
 |_,_,.cons r t=>by rw[Hf,<-oV t,r]
theorem bT{α:Type}{J:It}{Item:Nat->V->Hp->Prop}{H1:Hp}(xs:List α)(p:α->Bool)(f:α->V)(hJ:fg J xs.length (λH=>ak H1 H) Item)(L3:xs.length<sizeLine){g:TG} {tt:TT} {te:TE} {vs:List Nat} {σ:L2.St} {Q:VK} (hs:∀i a x H(R:Option V->Hp->Prop),xs[i]?=some a->ak H1 H->Item i x H->(∀H',ak H H'->(p a=true->R (some (f a)) H')/\(p a=false->R none H'))->
   g x (cb σ vs) H λσ2 H2=>cb σ2 vs=cb σ vs/\tt σ2 H2 λb H3=>if b=true then te σ2 H3 λy H4=>R (some y) H4 else R none H3)
  (hd:∀D H',H1 D=none->ak H1 H'->H' D=some (.lst ((xs.filter p).map f))->Q (.ref D) H'):
  jj J g tt te vs σ Q H1:=
 sK xs p (λ_ a y _=>y=f a) hJ L3 (λ_ _ _ _ _ _ r=>r)
  (λi a x D ys H R ha s _ _ it k=>hs i a x H R ha s it λH' s'=>⟨λhp=>(k (f a) H' s').1 hp rfl,λhp=>(k (f a) H' s').2 hp⟩)
  (λD H' ys hD s hy pr=>hd D H' hD s (by rw[<-oV pr];exact hy))
section
variable{X:Cx}{K:LS}
theorem eU(hK:X.K=K)(hc:X.calm=true)(h:PGs X es t)(hn:(assignEach es X.env).length=n:=by rfl) (Mr:(assignEach es X.env).findIdx? (·.1)=none:=by rfl):PG X (.Tuple es k pos) (CH K n t):=by subst hK;exact C_ hc h hn Mr
theorem bv(hK:X.K=K)(he:PE X e ta)(hb:attributeBase e f X.env (eval e X.env)=eval e X.env):PE X (.Attribute e f pos) (f7 K ta f):=by subst hK;exact oo he hb
end
def aJ(K:LS)(mg:Str->Option Value)(x:Str)(st:Stmt)(ps:List Str):Prop:=∃f fd,Fun K x x st f fd/\mg x=some (.ref f)/\dJ K fd ps []
def Has(P:Program)(w:World)(K:LS)(mg:Str->Option Value)(base:Heap)(k:Nat)(x:Str)(ps:List Str)(sp:Sp):Prop:=
 ∃f fd,mg x=some (.ref f)/\keepIn K (.ref f)=true/\dJ K fd ps []/\dE P w K mg base CX0 k f fd ps sp
structure dq(K:LS)(mg:Str->Option Value)(x L0:Str)(st:Stmt)(ps L4:List Str)(C:Addr):Prop where
 cl:Cls K C
 na:∀a∈L4,gb K C a
 m:mg x=some (.ref C)
 it:∃f fd,Mk K C f/\Fun K "__init__" L0 st f fd/\dJ K fd ps []
def iZ(P:Program)(w:World)(K:LS)(mg:Str->Option Value)(base:Heap)(k:Nat)(x:Str)(C:Addr)(ps:List Str)(sp:Sp):Prop:=
 ∃f fd,mg x=some (.ref C)/\Mk K C f/\dJ K fd ps []/\dE P w K mg base CX0 k f fd ps sp
section
variable{P:Program}{w:World}{K:LS}{mg:Str->Option Value}{base:Heap}
theorem sI{x:Str}{st:Stmt}{N ps:List Str}{k:Nat}{sp:Sp}(F:aJ K mg x st ps)(S:dk N ps (aE st))(len:∀vs H Q E,sp vs H Q E->vs.length=ps.length)(My:∀(f:Addr)(L1:Value)(A:Around)(outer:List Env)(s:Shared)(H:Hp)(vs:List V)(Q:VK)(E:XK),bC k (A.deeper (envOfC x (aE st) s.heap.objs.size f L1))->sp vs H Q E->∃t,PSs (fc CX0 P w K mg base N x (aE st) f L1 A outer s H E).nox (bI st) t/\t {nx:=λ_ H'=>Q .non H',rt:=Q} (L2.start N vs) H):Has P w K mg base (k+1) x ps sp:=by obtain⟨f,fd,F,m,b⟩:=F;exact⟨f,fd,m,F.kp,b,F.ok S len λL1 A outer s H vs Q E hr h=>My f L1 A outer s H vs Q E hr h⟩
theorem we{x L0:Str}{C:Addr}{st:Stmt}{N ps L4:List Str}{k:Nat}{sp:Sp}(F:dq K mg x L0 st ps L4 C)(S:dk N ps (aE st))(len:∀vs H Q E,sp vs H Q E->vs.length=ps.length)(My:∀(f:Addr)(L1:Value)(A:Around)(outer:List Env)(s:Shared)(H:Hp)(vs:List V)(Q:VK)(E:XK),bC k (A.deeper (envOfC L0 (aE st) s.heap.objs.size f L1))->sp vs H Q E->∃t,PSs (fc CX0 P w K mg base N L0 (aE st) f L1 A outer s H E).nox (bI st) t/\t {nx:=λ_ H'=>Q .non H',rt:=Q} (L2.start N vs) H):iZ P w K mg base (k+1) x C ps sp:=by obtain⟨f,fd,M,F',b⟩:=F.it;exact⟨f,fd,F.m,M,b,F'.ok S len λL1 A outer s H vs Q E hr h=>My f L1 A outer s H vs Q E hr h⟩
end
section
variable{X:Cx}{K:LS}{x:Str}{k:Nat}{ps:List Str}{sp:Sp}{e:Expr}{es:List Expr}{t:TA}{p pos:Pos}
theorem jN(h:Has X.prog X.w X.K X.mg X.base k x ps sp)(hr:bC k X.A)(hg:Gl X x)(ha:PA X (e::es) t) (NE:(x==("__debug__":Str))=false:=by decide) (he:starEach (e::es) X.env=(false,eval e X.env)::starEach es X.env:=by rfl) (Ms:(backTo pos (starEach es X.env)).any (·.1)=false:=by rfl):PE X (.Call (.Name x p) (e::es) [] pos) (g4 sp [] E0 t):=by obtain⟨f,fd,m,kp,b,F⟩:=h;exact BG F hr hg m kp b .nil r8 ha NE he Ms
theorem iy(h:iZ X.prog X.w X.K X.mg X.base k x C ps sp)(hr:bC (k+1) X.A)(hg:Gl X x)(ha:PA X (e::es) t) (NE:(x==("__debug__":Str))=false:=by decide) (he:starEach (e::es) X.env=(false,eval e X.env)::starEach es X.env:=by rfl) (Ms:(backTo pos (starEach es X.env)).any (·.1)=false:=by rfl):PE X (.Call (.Name x p) (e::es) [] pos) (r6 C sp [] E0 t):=by obtain⟨f,fd,m,M,b,F⟩:=h;exact BF M F hr hg m b .nil r8 ha NE he Ms
theorem yN(h:iZ X.prog X.w X.K X.mg X.base k x C ps sp)(hr:bC (k+1) X.A)(hg:Gl X x)(NE:(x==("__debug__":Str))=false:=by decide):PE X (.Call (.Name x p) [] [] pos) (r6 C sp [] E0 c9):=by obtain⟨f,fd,m,M,b,F⟩:=h;exact Ad M F hr hg m b .nil r8 NE
def mf(X:Cx)(f:Addr)(vs:List V)(H:Hp)(Q:VK):Prop:=
 ∃(k:Nat)(fd:FuncData)(ps:List Str)(sp:Sp),bC k X.A/\dJ X.K fd ps []/\dE X.prog X.w X.K X.mg X.base CX0 k f fd ps sp/\sp vs H Q E0
def CY(X:Cx)(tf:TE)(t:TA):TE:=λσ H Q=>tf σ H λy H1=>∃f,y=.ref f/\keepIn X.K (.ref f)=true/\t σ H1 λvs H2=>mf X f vs H2 Q
theorem tF(hf:PE X (.Name x p) tf)(ha:PA X (e::es) t) (he:starEach (e::es) X.env=(false,eval e X.env)::starEach es X.env:=by rfl) (Ms:(backTo pos (starEach es X.env)).any (·.1)=false:=by rfl):PE X (.Call (.Name x p) (e::es) [] pos) (CY X tf t):=by intro LX s σ H Q I h;refine IW (thn (hf LX s σ H _ I h) λu s1 ⟨y,H1,I1,ry,f,ef,kf,q⟩=>?_);subst ef;cases ry;refine callWith_K (h₀:=X.base) I1.ok.mod.kin kf (thn (ha pos LX s1 σ H1 _ I1 q) λus s2 ⟨vs,H2,I2,r,q2⟩=>⟨I2.kIn,?_⟩) he Ms;obtain⟨k,fd,ps,sp,hr,hb,F,Ox⟩:=q2;exact xS F hr hb .nil r8 I2 r (by rw[IU];exact Ox)
theorem bf(hg:Gl X x)(h:∃t,X.mg x=some (.int n t))(hd:(x==("__debug__":Str))=false:=by decide):PE X (.Name x pos) (tC (.int n)):=by obtain⟨t,h⟩:=h;exact pP hg h ⟨t,rfl⟩ hd
theorem fC(hg:Gl X x)(h:X.mg x=some (.ref a))(hd:(x==("__debug__":Str))=false:=by decide):PE X (.Name x pos) (tC (.ref a)):=pP hg h rfl hd
theorem Ap(hK:X.K=K):IxR X (zu K):=by subst hK;exact cD
theorem zN(hK:X.K=K):SlR X (CC K):=by subst hK;exact pK
theorem fR:bootBuiltins "all"=some (.builtin "all"):=by decide +kernel
theorem ug:bootBuiltins "any"=some (.builtin "any"):=by decide +kernel
theorem xL:eK X (.type "dict") (λxs H Q=>∃a kvs,xs=[V.ref a]/\H a=some (.dK kvs)/\∀p,H p=none->Q (.ref p) (upd H p (.dK kvs))):=by intro LX s σ H xs us Q I r h;obtain⟨a,kvs,rfl,ha,q⟩:=h;obtain⟨u,rfl,ru⟩:=gz r;cases ru;exact AM I (.inl ha) λp s' hp I'=>⟨.ref p,_,I',rfl,q p hp⟩
end
section
variable{P:Program}{w:World}{K:LS}{mg:Str->Option Value}{base:Heap}
theorem scG{N P:List Str}{sc:Scope}(a:sc.kind=.function:=by rfl)(b:sc.isCoroutine=false:=by rfl)(c:sc.isGenerator=false:=by rfl)(d:N.Nodup:=by decide +kernel)(e:N.take P.length=P:=by rfl)(f:∀x∈P,sc.names.lookup x=some .local\/sc.names.lookup x=some .cell:=by decide +kernel)(g:∀y∈sc.names,y.2≠ .free:=by decide +kernel):dk N P sc:=⟨a,b,c,d,e,f,g⟩
theorem dq.n{x L0:Str}{st:Stmt}{ps L4:List Str}{C:Addr}{a:Str}(h:dq K mg x L0 st ps L4 C)(m:a∈L4:=by decide):gb K C a:=h.na a m
theorem dq.o{x L0:Str}{st:Stmt}{ps L4:List Str}{C:Addr}{a:Str}(h:dq K mg x L0 st ps L4 C)(m:a∈L4:=by decide):Cls K C/\gb K C a:=⟨h.cl,h.na a m⟩
abbrev aJ.H{x:Str}{st:Stmt}{ps:List Str}(_:aJ K mg x st ps)(P:Program)(w:World)(base:Heap)(k:Nat)(sp:Sp):Prop:=Has P w K mg base k x ps sp
theorem aS{x:Str}{st:Stmt}{ps:List Str}{k:Nat}{sp:Sp}(F:aJ K mg x st ps)(N:List Str)(My:∀(f:Addr)(L1:Value)(A:Around)(outer:List Env)(s:Shared)(H:Hp)(vs:List V)(Q:VK)(E:XK),bC k (A.deeper (envOfC x (aE st) s.heap.objs.size f L1))->(A.deeper (envOfC x (aE st) s.heap.objs.size f L1)).units+1<cLine->(A.deeper (envOfC x (aE st) s.heap.objs.size f L1)).units+64<cLine->(A.deeper (envOfC x (aE st) s.heap.objs.size f L1)).units<cLine->N.Nodup->sp vs H Q E->∃t,PSs (fc CX0 P w K mg base N x (aE st) f L1 A outer s H E).nox (bI st) t/\t {nx:=λ_ H'=>Q .non H',rt:=Q} (L2.start N vs) H) (S:dk N ps (aE st):=by exact scG) (len:∀vs H Q E,sp vs H Q E->vs.length=ps.length:=by intro _ _ _ _ h;cases h;subst_vars;rfl):Has P w K mg base (k+1) x ps sp:=sI F S len λf L1 A outer s H vs Q E hr h=>My f L1 A outer s H vs Q E hr (wU hr) hr.units hr.units0 S.nd h
theorem sj{x L0:Str}{C:Addr}{st:Stmt}{ps L4:List Str}{k:Nat}{sp:Sp}(F:dq K mg x L0 st ps L4 C)(N:List Str)(My:∀(f:Addr)(L1:Value)(A:Around)(outer:List Env)(s:Shared)(H:Hp)(vs:List V)(Q:VK)(E:XK),bC k (A.deeper (envOfC L0 (aE st) s.heap.objs.size f L1))->(A.deeper (envOfC L0 (aE st) s.heap.objs.size f L1)).units+1<cLine->(A.deeper (envOfC L0 (aE st) s.heap.objs.size f L1)).units+64<cLine->(A.deeper (envOfC L0 (aE st) s.heap.objs.size f L1)).units<cLine->N.Nodup->sp vs H Q E->∃t,PSs (fc CX0 P w K mg base N L0 (aE st) f L1 A outer s H E).nox (bI st) t/\t {nx:=λ_ H'=>Q .non H',rt:=Q} (L2.start N vs) H) (S:dk N ps (aE st):=by exact scG) (len:∀vs H Q E,sp vs H Q E->vs.length=ps.length:=by intro _ _ _ _ h;(repeat obtain⟨_,h⟩:=h);subst_vars;rfl):iZ P w K mg base (k+1) x C ps sp:=we F S len λf L1 A outer s H vs Q E hr h=>My f L1 A outer s H vs Q E hr (wU hr) hr.units hr.units0 S.nd h
end
section
variable{X:Cx}{K:LS}{x:Str}{k k':Nat}{ps:List Str}{sp:Sp}{e:Expr}{es:List Expr}{t:TA}{p pos:Pos}
theorem fv(i:Nat){f:Str}{p':Pos}(hN:X.N[i]?=some x:=by rfl)(h:m_ X x=true:=by rfl)(hb:attributeBase (.Name x pos) f X.env (eval (.Name x pos) X.env)=eval (.Name x pos) X.env:=by rfl):PE X (.Attribute (.Name x pos) f p') (f7 X.K (bA i) f):=oo (pv i hN h) hb
theorem wx{f:Str}{p' p2 p3:Pos}{n:Int}{j}(i:Nat)(hN:X.N[i]?=some x:=by rfl)(h:m_ X x=true:=by rfl)(hb:attributeBase (.Name x pos) f X.env (eval (.Name x pos) X.env)=eval (.Name x pos) X.env:=by rfl):PE X (.Subscript (.Attribute (.Name x pos) f p') (.Constant (.int n) j p2) p3) (tOp (zu X.K) (f7 X.K (bA i) f) (tC (.int n))):=cr cD (fv i hN h hb) aI (λ_ _=>rfl)
theorem p1(i:Nat)(hN:X.N[i]?=some x:=by rfl)(h:m_ X x=true:=by rfl):PA X [.Name x pos] (br (bA i) c9):=ag (pv i hN h) aq
theorem p2{y:Str}(i j:Nat)(hN:X.N[i]?=some x:=by rfl)(h:m_ X x=true:=by rfl)(hM:X.N[j]?=some y:=by rfl)(h':m_ X y=true:=by rfl):PA X [.Name x p,.Name y pos] (br (bA i) (br (bA j) c9)):=ag (pv i hN h) (p1 j hM h')
theorem rt{te:TE}(he:PE X e te):PSs X [.Return (some e) pos] (si te):=aL (C6 he)
theorem az(h:Has X.prog X.w X.K X.mg X.base k x ps sp)(hr:bC k' X.A)(ha:PA X (e::es) t) (hm:k<=k':=by decide) (hg:Gl X x:=by rfl) (NE:(x==("__debug__":Str))=false:=by decide) (he:starEach (e::es) X.env=(false,eval e X.env)::starEach es X.env:=by rfl) (Ms:(backTo pos (starEach es X.env)).any (·.1)=false:=by rfl):PE X (.Call (.Name x p) (e::es) [] pos) (g4 sp [] E0 t):=jN h (hr.mono hm) hg ha NE he Ms
theorem aO(i:Nat)(hN:X.N.Nodup)(he:PE X e te)(hi:X.N[i]?=some x:=by rfl)(hx:Loc X.env.scope x:=by first|exact Or.inl rfl|exact Or.inr rfl)(hs:swapsWith e (some (.Name x MZ)) pos.line X.env=pure false:=by rfl)(hf:X.fn x=true\/X.env.scope.names.lookup x=some .local:=by first|exact .inl rfl|exact .inr rfl|assumption):PS X (.Assign [.Name x MZ] e pos) (cu te (bu i)):=du hN hi hx he hs hf
theorem aT(i:Nat)(hN:X.N.Nodup)(hi:X.N[i]?=some x:=by rfl)(hx:Loc X.env.scope x:=by first|exact Or.inl rfl|exact Or.inr rfl)(hf:X.fn x=true\/X.env.scope.names.lookup x=some .local:=by first|exact .inl rfl|exact .inr rfl|assumption):PG X (.Name x pos) (bu i):=v0 hN hi hx hf
end
section
open PySem.SeqAt
open PySem.AutoSeq1 (wpAny_loadPart')
open PySem.MeetsSeq PySem.MeetsSeq2 PySem.MeetsSeq3
theorem Ej(A:Around)(s:Shared)(a c:Int)(t u:Tok)(prog:Program)(w:World)(E:Value->Shared->Prop)(Q:Value->Shared->Prop)(h:Q (.bool (decide (c<a))) s):wpAny (model prog w) A (richCompare .Gt (.int a t) (.int c u)) Q E s:=
 (gt_int h:wpAny (model prog w) A (compareOp .Gt (.int a t) (.int c u)) Q E s)
theorem AC(p q:Addr)(xs ys:Array Value)(n k:Nat)(d e:Option Addr)(sl tl:Array (Option Value))(is js:List Int)(hi:IntsAre xs.toList is)(hj:IntsAre ys.toList js):Meets (Builtin.«tuple.__gt__» ⟨[.ref p,.ref q],[]⟩) (λ_ R s=>s.heap.get? p=some {cls:=.type "tuple",dict:=d,data:=.seq xs n,slots:=sl}/\s.heap.get? q=some {cls:=.type "tuple",dict:=e,data:=.seq ys k,slots:=tl}/\ R (.ok (.ret (.bool (HT.lexLt js is)))) s):=
 .of_wp λprog w A R s h=>by
  obtain⟨hp,g,dr,tk,os⟩:=s;obtain⟨h1,h2,h⟩:=h;have sub:=AutoSeq1.sub_tuple_tuple;have z1:xs.size=is.length:=by rw[<-hi.length];simp
  have z2:ys.size=js.length:=by rw[<-hj.length];simp
  wp_walk using wpAny_loadPart' h1,wpAny_loadPart' h2,wpAny_forIn_list _ (λrest b s'=>b.1=none/\s'=⟨hp,g,dr,tk,os⟩/\∃(vs ws:List Value)(is' js':List Int),rest=vs.zip ws/\
   IntsAre vs is'/\IntsAre ws js'/\is'.length+ys.size=js'.length+xs.size/\R (.ok (.ret (.bool (HT.lexLt js' is')))) ⟨hp,g,dr,tk,os⟩) _
  case turn=>
   rintro⟨y,x⟩ rest b s' ⟨hb,rfl,vs,ws,is',js',hz,hv,hw,hl,hR⟩;cases hv with
   |nil=>rw[List.zip_nil_left]at hz;cases hz
   |cons a t NX=>
    cases hw with
    |nil=>rw[List.zip_nil_right]at hz;cases hz
    |cons c u hw'=>
     rw[IJ]at hz;injection hz with hyx hrest;injection hyx with hy hx;subst hy hx;rw[HT.lexLt_cons]at hR;simp only[length_cons]at hl;obtain⟨b',he,iff⟩:=HT.eqAt_int A.in1 ⟨hp,g,dr,tk,os⟩ a t c u;refine G7 (he prog w _ _ ?_);cases b' with
     |true=>
      rw[Hc (iff.mp rfl).symm]at hR
      wp_walk
      exact⟨rfl,rfl,_,_,_,_,hrest,NX,hw',by omega,hR⟩
     |false=>
      rw[G9 (λz=>absurd (iff.mpr z.symm) Hm)]at hR;have hg:=Ej A.in1 ⟨hp,g,dr,tk,os⟩ a c t u prog w
      wp_walk using hg
      exact⟨_,rfl,by simpa using hR⟩
  case fin=>
   rintro⟨b1,b2⟩ s' ⟨hb,rfl,vs,ws,is',js',hz,hv,hw,hl,hR⟩;simp only at hb;subst hb;have hx:HT.lexLt js' is'=decide (ys.size<xs.size):=by
    cases hv with
    |nil=>
     cases hw with
     |nil=>simp only[length_nil]at hl;rw[HT.lexLt_nil_nil];exact(Hw (by omega)).symm
     |cons c u hw'=>simp only[length_nil,length_cons]at hl;rw[HT.lexLt_cons_nil];exact(Hw (by omega)).symm
    |cons a t NX=>
     cases hw with
     |nil=>simp only[length_nil,length_cons]at hl;rw[HT.lexLt_nil_cons];exact(He (by omega)).symm
     |cons c u hw'=>rw[IJ]at hz;cases hz
   rw[hx]at hR
   wp_walk
   exact⟨_,rfl,by simpa[Builtin.Tuple.tupleCompareSizes]using hR⟩
  case h=>
   exact⟨rfl,rfl,xs.toList,ys.toList,is,js,rfl,hi,hj,by omega,h⟩
end
inductive DX(K:LS)(H:Hp)(x:V)(y:V)(Q:VK):Prop|mk(a:_)(b:_)(ns:_)(ms:_)(_:x=.ref a)(_:y=.ref b)(_:SqT K H a (ns.map V.int))(_:SqT K H b (ms.map V.int))(_:Q (.bl (HT.lexLt ms ns)) H)
def EI(K:LS):R2:=λx y H Q=>DX K H x y Q
theorem De{X:Cx}{K:LS}(hK:X.K=K)(hu:X.A.units<cLine):OpR X (compareOp .Gt) (EI K):=by
 subst hK;intro LX s σ H x y v u Q I rx ry h;obtain⟨a,b,ns,ms,rfl,rfl,ha,hb,q⟩:=h;cases rx;cases ry;obtain⟨its,r1,p1,_⟩:=I.tuple ha;obtain⟨L9,r2,p2,_⟩:=I.tuple hb;have i1:IntsAre its.toArray.toList ns:=hU r1;have i2:IntsAre L9.toArray.toList ms:=hU r2;obtain⟨⟨cls,dd,data,sl⟩,ho,hc,n,hd⟩:=id p1;obtain⟨⟨cls2,dd2,data2,sl2⟩,ho2,Ph,n2,hd2⟩:=id p2;simp only at hc hd Ph hd2;subst hc hd Ph hd2;exact richCompare_meets_room (op:=.Gt) ⟨_,ho,rfl⟩ ⟨_,ho2,rfl⟩ PySem.F.slot_tuple_gt PySem.F.entry_tuple_gt (PySem.F.args_tuple_gt_2 _ _) (AC a b its.toArray L9.toArray n n2 dd dd2 sl sl2 ns ms i1 i2)
  ⟨ho,ho2,show Value.bool (HT.lexLt ms ns)≠Value.notImplemented/\EP X LX σ Q (.bool (HT.lexLt ms ns)) s from⟨(λx=>nomatch x),.bl (HT.lexLt ms ns),H,I,rfl,q⟩⟩ hu
def DkT(P:Program)(w:World)(K:LS)(a:Addr)(kvs:List (Str×V)):Prop:=
 (a==sysModules)=false/\∃(o:Obj)(es:Array DictEntry)(ep:Nat)(vs:List (Key×Value)),K.lookup a=some o/\o.ExactDict/\o.data=.dict es ep/\KeysOf (ba P w) es/\Pairs (ba P w) es.toList vs/\(vs.map (·.1)).Nodup/\
  KV (kvs.map λkv=>((Sum.inr kv.1:Key),kv.2)) vs
theorem gH:∀(kvs:List (Str×V))(x:Str),aQ (kvs.map λkv=>((Sum.inr kv.1:Key),kv.2)) (Sum.inr x)=kvs.lookup x
 |[],x=>rfl
 |(k,v)::r,x=>by
  have ih:=gH r x;unfold aQ at ih⊢;rw[Hf,Jc,JF];by_cases h:k=x
  .subst h;simp
  .have h1:decide ((Sum.inr k:Key)=Sum.inr x)=false:=Hw λq=>h (by injection q);have h2:(x==k)=false:=by rw[Ia];exact λq=>h q.symm
   rw[h1,h2];exact ih
theorem DkT.dict{P:Program}{w:World}{K:LS}{a:Addr}{kvs:List (Str×V)}{h:Heap}(d:DkT P w K a kvs)(X:K.In h):∃vs,KV (kvs.map λkv=>((Sum.inr kv.1:Key),kv.2)) vs/\h.DictOf (ba P w) a vs:=by obtain⟨_,o,es,ep,vs,hl,hx,hd,hk,hp,hn,hv⟩:=d;exact⟨vs,hv,o,es,ep,X _ _ hl,hx,hd,hk,hp,hn⟩
section
variable{X:Cx}
inductive Cn(X:Cx)(H:Hp)(x:V)(y:V)(Q:VK):Prop|mk(a:_)(kvs:_)(k:_)(v:_)(_:x=.ref a)(_:y=.str k)(_:DkT X.prog X.w X.K a kvs)(_:kvs.lookup k=some v)(_:Q v H)
def Ek(X:Cx):R2:=λx y H Q=>Cn X H x y Q
inductive DW(X:Cx)(neg:Bool)(H:Hp)(x:V)(y:V)(Q:VK):Prop|mk(a:_)(kvs:_)(k:_)(_:y=.ref a)(_:x=.str k)(_:DkT X.prog X.w X.K a kvs)(_:Q (.bl (if neg then !(kvs.lookup k).isSome else(kvs.lookup k).isSome)) H)
def CF(X:Cx)(neg:Bool):R2:=λx y H Q=>DW X neg H x y Q
theorem tD(ho:PE X o td)(hi:PE X i ty)(hs:zA i):PE X (.Subscript o i pos) (tOp (Ek X) td ty):=by intro LX s σ H Q I h;refine vT Ll.lookup hs (thn (ho LX s σ H _ I h) λu s1 ⟨x,H1,I1,rx,q1⟩=>thn (hi LX s1 σ H1 _ I1 q1) λiv s2 ⟨y,H2,I2,ry,a,kvs,k,r,ex,ey,d,hl,q⟩=>?_);subst ex;subst ey;obtain rfl:u=Value.ref a:=rx;obtain⟨vs,Mb,dd⟩:=d.dict I2.kIn;rw[<-gH]at hl;obtain⟨w',hw,Ny⟩:=dN.some_of (v:=r) (o:=valueAt vs (Sum.inr k)) (by rw[<-hl];exact Mb.val (Sum.inr k));exact⟨dd.typeIs,wpAny_getItem_of (fH (k:=Sum.inr k) ry) dd.mapOf hw ⟨r,H2,I2.tok _,Ny,q⟩⟩
theorem Ag:OpR X (compareOp .In) (CF X false):=by intro LX s σ H x y u v Q I rx ry h;obtain⟨a,kvs,k,rfl,rfl,d,q⟩:=h;cases ry;obtain⟨vs,Mb,dd⟩:=d.dict I.kIn;refine wpAny_in_of (fH (k:=Sum.inr k) rx) d.1 dd.mapOf ?_;rw[<-(Mb.val (Sum.inr k)).isSome_eq,gH];exact⟨.bl _,H,I.tok _,rfl,q⟩
theorem vj:OpR X (compareOp .NotIn) (CF X true):=by intro LX s σ H x y u v Q I rx ry h;obtain⟨a,kvs,k,rfl,rfl,d,q⟩:=h;cases ry;obtain⟨vs,Mb,dd⟩:=d.dict I.kIn;refine wpAny_notIn_of (fH (k:=Sum.inr k) rx) d.1 dd.mapOf ?_;rw[<-(Mb.val (Sum.inr k)).isSome_eq,gH];exact⟨.bl _,H,I.tok _,rfl,q⟩
end
def jz(a b:Int×Int):Prop:=a.1<b.1\/(a.1=b.1/\a.2<=b.2)
def kpK(a:Int×Int):List (Int⊕List Nat):=[Sum.inl a.1,Sum.inl a.2]
def kpV(a:Int×Int):List V:=[.int a.1,.int a.2]
abbrev f_:Nat->Bool:=λ_=>false
theorem BP(h:(PyProof.Rows.G.tupKindC h₀ f_).kle (kpK a) (kpK b)):jz a b:=by
 have h':lexLt itemOrd (kpK b) (kpK a)=false:=h;unfold kpK at h';rw[lex_false]at h';obtain⟨h1,h2⟩:=h';have Ni:¬b.1<a.1:=of_decide_eq_false h1;rcases h2 with h2|h2
 .have MR:a.1<b.1:=Hb h2;exact .inl MR
 .rw[lex_false]at h2;have h3:¬b.2<a.2:=of_decide_eq_false h2.1;by_cases h4:a.1<b.1
  .exact .inl h4
  .exact .inr ⟨by omega,by omega⟩
theorem A2(ok:HOk P w H h)(e:H p=some (.tup (kpV a))):PyProof.Rows.G.tupKeyC h f_ (.ref p)=some (kpK a)/\∃t,TupOf h f_ (.ref p) (.int a.1 t):=by obtain⟨_,its,r,o,ho,hc,n,hd⟩:=ok p _ e;obtain⟨u1,u2,rfl,r1,r2⟩:=wP r;obtain⟨t1,rfl⟩:=r1;obtain⟨t2,rfl⟩:=r2;refine⟨PyProof.Rows.G.tupKeyC_of ho hc hd rfl,t1,p,o,_,n,rfl,ho,hc,hd,rfl,λ_=>⟨_,_,rfl⟩,λz=>absurd z Hm⟩
def kt(D:Addr)(e:Nat):HO:=.ext λh=>h.get? D=some (seqObj "list" #[] e)
theorem ft{α β:Type}(g:α->β):∀{l:List α}{m:List β},m.Perm (l.map g)->∃l':List α,l'.Perm l/\m=l'.map g:=by
 have gen:∀{m n:List β},m.Perm n->∀l:List α,n=l.map g->∃l':List α,l'.Perm l/\m=l'.map g:=by
  intro m n h;induction h with
  |nil=>
   intro l e
   exact⟨[],by
    cases l with
    |nil=>exact HS _
    |cons a r=>simp at e,rfl⟩
  |cons x p ih=>
   intro l e;cases l with
   |nil=>simp at e
   |cons a r=>rw[Hf]at e;injection e with e1 e2;obtain⟨l',p',e'⟩:=ih r e2;exact⟨a::l',p'.cons a,by rw[Hf,e',e1]⟩
  |swap x y r0=>
   intro l e
   match l,e with
   |a::b::r,e=>rw[Hf,Hf]at e;injection e with e1 e2;injection e2 with e2 e3;exact⟨b::a::r,List.Perm.swap a b r,by rw[Hf,Hf,e1,e2,e3]⟩
  |trans p q ih1 ih2=>intro l e;obtain⟨l1,p1,e1⟩:=ih2 l e;obtain⟨l2,p2,e2⟩:=ih1 l1 e1;exact⟨l2,p2.trans p1,e2⟩
 intro l m h;exact gen h l rfl
section
variable{X:Cx}{LX:List (Addr×Obj)}{σ:L2.St}{H:Hp}{s:Shared}{A:Around}{E:Value->Shared->Prop}
theorem tM(ok:HOk P w H h):∀{ps:List Addr}{ks:List (Int×Int)},Paired (λp k=>H p=some (.tup (kpV k))) ps ks->(∀p k,(p,k)∈ps.zip ks->PyProof.Rows.G.tupKeyC h f_ (.ref p)=some (kpK k))/\∃fs,TupsOf h f_ (ps.map Value.ref) fs/\fs.length=ps.length
 |_,_,.nil=>⟨λ_ _ m=>by simp at m,[],.nil,rfl⟩
 |_,_,.cons (a:=p) (b:=k) r t=>by
  obtain⟨h1,fs,h2,h3⟩:=tM ok t;obtain⟨e,t',u⟩:=A2 ok r;refine⟨λp' k' m=>?_,_,.cons u h2,by rw[Hr,Hr,h3]⟩;rw[IJ]at m;rcases Hi.mp m with m|m
  .injection m with m1 m2;subst m1;subst m2;exact e
  .exact h1 p' k' m
theorem Cd(a b:List Value):(a.toArray.zip b.toArray).toList=a.zip b:=by simp
abbrev SkT:=(V×(Int×Int))×Keyed
def wN(h:Heap)(q:SkT):Prop:=aR q.1.1 q.2.2/\PyProof.Rows.G.tupKeyC h f_ q.2.1=some (kpK q.1.2)
theorem qr(ok:HOk P w H h):∀{xs:List V}{vs:List Value}{ps:List Addr}{ks:List (Int×Int)},aC xs vs->Paired (λp k=>H p=some (.tup (kpV k))) ps ks->ps.length=xs.length->∃tr:List SkT,tr.map (·.1)=xs.zip ks/\tr.map (·.2)=(ps.map Value.ref).zip vs/\∀q∈tr,wN h q
 |[],_,[],_,.nil,.nil,_=>⟨[],rfl,rfl,λq m=>by simp at m⟩
 |x::xs,_,p::ps,_,.cons rx tx,.cons rp tp,hl=>by
  obtain⟨tr,e1,e2,hq⟩:=qr ok tx tp (by simpa using hl);refine⟨((x,_),(Value.ref p,_))::tr,by rw[Hf,e1];rfl,by rw[Hf,e2];rfl,λq m=>?_⟩;rcases Hi.mp m with rfl|m
  .exact⟨rx,(A2 ok rp).1⟩
  .exact hq q m
 |[],_,_::_,_,.nil,.cons _ _,hl=>by simp at hl
 |_::_,_,[],_,.cons _ _,.nil,hl=>by simp at hl
theorem vW:∀(tr:List SkT),(∀q∈tr,wN h q)->aC ((tr.map (·.1)).map (·.1)) ((tr.map (·.2)).map (·.2))
 |[],_=>.nil
 |q::tr,hq=>.cons (hq q (Hi.mpr (.inl rfl))).1 (vW tr λq' m=>hq q' (Hi.mpr (.inr m)))
theorem Bm{D kS:Addr}{e1:Nat}{zs:List V}{tr:List SkT}{st:SortSt}{P:PySem.Fin->Shared->Prop}(I:Inv X LX σ H s)(hD:H D=some (kt D e1))(hk:H kS=some (.lst zs))(ha:(arrOf st).toList=tr.map (·.2)) (hq:∀q∈tr,wN s.heap q) (hf:failedOf st=none) (hz:tr.length<=1000)(h:∀(s':Shared)(H':Hp),Inv X LX σ H' s'->(∀b o,b≠D->b≠kS->H b=some o->H' b=some o)->H' D=some (.lst ((tr.map (·.1)).map (·.1)))->P (.done (.ret .none)) s'):wpAny (model X.prog X.w) A (ksk_tail D false e1 (.ref kS) st) P E s:=by
 have nDk:D≠kS:=aF hD hk (by intro q;cases q);obtain⟨z,its,n,r,hl,e⟩:=I.lstM hk;have I1:Inv X LX σ (upd H kS (.lst [])) {s with heap:=s.heap.update kS (Obj.mapSeq λ_=> #[]),toks:=s.toks}:=I.lset (f:=λ_=> #[]) (its':=[]) (ys:=[]) hk e rfl .nil (HJ _);have Np:(upd H kS (.lst [])) D=some (kt D e1):=by rw[ai nDk];exact hD
 obtain⟨g,_,_⟩:=I1.hok D _ Np;have g:(s.heap.update kS (Obj.mapSeq λ_=> #[])).get? D=some (seqObj "list" #[] e1):=g;have Oy:=hz;have hsz:((arrOf st).map (·.2)).size<=sizeLine:=by rw[Array.size_map,<-HR,ha,G8];exact Js (aG hz)
 have hto:((arrOf st).map (·.2))=((tr.map (·.2)).map (·.2)).toArray:=by apply Array.toList_inj.mp;rw[Array.toList_map,ha]
 unfold ksk_tail;dsimp only;refine G7 (LQ e rfl ?_ (by rw[HP,<-hl];exact z) (HJ _));refine G7 (LD ?_);refine G7 (seqEpoch_at g rfl ?_);refine G7 (LQ g rfl ?_ (HJ _) (by show((arrOf st).map (·.2)).size<=sizeLine+1;omega));rw[hf];simp only[bne_self_eq_false,false_eq_true,if_false];have q:=get?_update_seq g (λ_=>(arrOf st).map (·.2));have I2:Inv X LX σ (upd (upd H kS (.lst [])) D (.lst ((tr.map (·.1)).map (·.1)))) {s with heap:=(s.heap.update kS (Obj.mapSeq λ_=> #[])).update D (Obj.mapSeq λ_=>(arrOf st).map (·.2)),toks:=s.toks}:=by refine I1.write (x:=D) (e:=D) (by rw[Np];exact Jy) (.inl rfl) (λb' u hb hu=>(Jk _ _ (Ho hb)).trans hu) ⟨_,q⟩ ?_;obtain⟨c,hc⟩:∃c,((s.heap.update kS (Obj.mapSeq λ_=> #[])).update D (Obj.mapSeq λ_=>(arrOf st).map (·.2))).get? D=some (seqObj "list" ((arrOf st).map (·.2)) c):=⟨_,q⟩;exact⟨by rw[G8,G8];exact Js (aG hz),(tr.map (·.2)).map (·.2),c,vW tr hq,hc.trans (by rw[hto])⟩
 exact G_ (h _ _ I2 (λb o h1 h2 hb=>by rw[ai h1,ai h2];exact hb) aa)
theorem C2{D kS:Addr}{e1:Nat}{xs:List V}{vs:List Value}{ps:List Addr}{ks:List (Int×Int)}{P:PySem.Fin->Shared->Prop}(I:Inv X LX σ H s)(hD:H D=some (kt D e1))(hk:H kS=some (.lst (ps.map V.ref)))(pr:Paired (λp k=>H p=some (.tup (kpV k))) ps ks) (hv:aC xs vs) (hl:ps.length=xs.length) (hz:xs.length<=1000)(h:∀(s':Shared)(H':Hp)(ts:List (V×(Int×Int))),Inv X LX σ H' s'->(∀b o,b≠D->b≠kS->H b=some o->H' b=some o)->H' D=some (.lst (ts.map (·.1)))->ts.Perm (xs.zip ks)->ts.Pairwise (λa b=>jz a.2 b.2)->P (.done (.ret .none)) s'):wpAny (model X.prog X.w) A (ksk_end D false vs.toArray e1 (.ref kS) (ps.map Value.ref).toArray) P E s:=by
 obtain⟨tr,t1,t2,tq⟩:=qr I.hok hv pr hl;obtain⟨_,fs,tf,tl⟩:=tM I.hok pr;have lv:=hv.length;have lk:=HC pr;have ltr:tr.length=xs.length:=by have e:=HU length t1;rw[G8,Jf]at e;omega
 have Ms:((ps.map Value.ref).toArray.zip vs.toArray).toList=tr.map (·.2):=by rw[Cd,t2]
 have hsz:((ps.map Value.ref).toArray.zip vs.toArray).size=xs.length:=by rw[<-HR,Ms,G8,ltr]
 have keys:KeysOf (PyProof.Rows.G.tupKindC s.heap f_) ((ps.map Value.ref).toArray.zip vs.toArray):=by intro p hp;rw[Ms]at hp;obtain⟨q,m,e⟩:=HA.mp hp;exact⟨kpK q.1.2,by rw[<-e];exact(tq q m).2⟩
 have fin:∀st:SortSt,(arrOf st).Perm ((ps.map Value.ref).toArray.zip vs.toArray)->(arrOf st).toList.Pairwise (KeyLe (PyProof.Rows.G.tupKindC s.heap f_))->failedOf st=none->wpAny (model X.prog X.w) A (ksk_tail D false e1 (.ref kS) st) P E s:=by
  intro st hp hs hf;have hp':(arrOf st).toList.Perm (tr.map (·.2)):=by rw[<-Ms];exact Lc.mp hp
  obtain⟨tr',p',e'⟩:=ft (λq:SkT=>q.2) hp';have tq':∀q∈tr',wN s.heap q:=λq m=>tq q (p'.mem_iff.mp m);refine Bm I hD hk e' tq' hf (by rw[p'.length_eq,ltr];exact hz) λs' H' I' ML NI=>h s' H' (tr'.map (·.1)) I' ML NI ?_ ?_
  .rw[<-t1];exact p'.map _
  .rw[e',IL]at hs;rw[IL];refine J2 (λ{a b} ma mb r=>?_) hs;obtain⟨ka,kb,ea,eb,le⟩:=r;have ea':=(tq' a ma).2;have eb':=(tq' b mb).2;have e1':ka=kpK a.1.2:=Hg (ea.symm.trans ea');have e2':kb=kpK b.1.2:=Hg (eb.symm.trans eb');subst e1';subst e2';exact BP le
 unfold ksk_end;dsimp only;simp only[false_eq_true,if_false];by_cases h2:vs.toArray.size<2
 .rw[Hc h2,Hc h2];refine G7 (G_ ?_);rw[StateT.run_pure];refine G7 (G_ ?_);refine fin (SortSt.mk' general' ((ps.map Value.ref).toArray.zip vs.toArray) #[] 7 none) (Array.Perm.refl _) ?_ rfl;show((ps.map Value.ref).toArray.zip vs.toArray).toList.Pairwise _;have Mo:((ps.map Value.ref).toArray.zip vs.toArray).toList.length<2:=by rw[HR,hsz];rw[HP]at h2;omega
  match((ps.map Value.ref).toArray.zip vs.toArray).toList,Mo with
  |[],_=>exact .nil
  |[a],_=>exact IG _ _
  |_::_::_,Mo=>exact absurd Mo (by simp)
 .rw[G9 h2,G9 h2];rw[HP]at h2;refine G7 (tup_kind (by rw[tl];omega) tf ?_)
  refine G7 (Iq (PyProof.Rows.G.wpS_sortRunsSt (κ:=PyProof.Rows.G.tupKindC s.heap f_) (kd:=tuples' true) (a₀:=(ps.map Value.ref).toArray.zip vs.toArray) (st:=SortSt.mk' (tuples' true) ((ps.map Value.ref).toArray.zip vs.toArray) #[] 7 none)
   (Q:=λ_ MQ=>(arrOf MQ).Perm ((ps.map Value.ref).toArray.zip vs.toArray)/\failedOf MQ=none/\SortedToK (PyProof.Rows.G.tupKindC s.heap f_) (arrOf MQ) ((ps.map Value.ref).toArray.zip vs.toArray).size)
   (PyProof.Rows.G.tupC_ltAt true (PyProof.Rows.G.KeepsTups.refl _)) keys ⟨Array.Perm.refl _,rfl,rfl⟩ rfl (Stable.refl _) (by rw[hsz];omega) λMQ a1 a2 a3 _=>⟨a1,a2,a3⟩) ?_ λ_ _ e=>e)
  rintro⟨⟨⟩,MQ⟩ s' ⟨rfl,hp,hf,hs⟩
  have keys':KeysOf (PyProof.Rows.G.tupKindC s'.heap f_) (arrOf MQ):=λp m=>keys p (by
   have:=(Lc.mp hp).mem_iff.mp m
   exact this)
  exact fin MQ hp (keyLe_of_sorted keys' (by rw[hp.size_eq];exact hs)) hf
theorem Bn(I:Inv X LX σ H s)(hD:H D=some (kt D e1))(hk:H kS=some (.lst []))(hv:aC xs vs) (hl:ks.length=xs.length) (hz:xs.length<=1000)(turn:∀(i:Nat)(x:V)(v:Value)(k:Int×Int)(H':Hp)(s':Shared),xs[i]?=some x->aR x v->ks[i]?=some k->Inv X LX σ H' s'->(∀b o,b≠kS->H b=some o->H' b=some o)->wpAny (model X.prog X.w) A (call f [v]) (λu O4=>∃p M0,u=.ref p/\Inv X LX σ M0 O4/\ak H' M0/\M0 p=some (.tup (kpV k))) (λ_ _=>False) s')(h:∀(s':Shared)(H':Hp)(ts:List (V×(Int×Int))),Inv X LX σ H' s'->(∀b o,b≠D->b≠kS->H b=some o->H' b=some o)->H' D=some (.lst (ts.map (·.1)))->ts.Perm (xs.zip ks)->ts.Pairwise (λa b=>jz a.2 b.2)->P (.done (.ret .none)) s'):wpAny (model X.prog X.w) A (ksk_rest D f false vs.toArray e1 (.ref kS)) P E s:=by
 have lv:=hv.length;have nDk:D≠kS:=aF hD hk (by intro q;cases q);unfold ksk_rest;refine G7 (JI ?_)
 first
  |rw[List.forIn_toArray]
  |(rw[<-Array.forIn_toList];simp only[List.toList_toArray])
 refine G7 (ksk_fold (λi s'=>∃(H':Hp)(ps:List Addr),Inv X LX σ H' s'/\(∀b o,b≠kS->H b=some o->H' b=some o)/\H' kS=some (.lst (ps.map V.ref))/\Paired (λp k=>H' p=some (.tup (kpV k))) ps (ks.take i)) vs 0 s
  ⟨H,[],I,λ_ _ _ e=>e,hk,.nil⟩ ?step ?done)
 case step=>
  rintro j v s' hj ⟨H',ps,I',kp,ML,pr⟩;rw[Nat.zero_add]at pr⊢;have lj:j<vs.length:=(HQ.mp hj).1;have hx:xs[j]?=some xs[j]:=by simp
  obtain⟨u,eu,ru⟩:=hv.get hx;have evu:u=v:=Hg (eu.symm.trans hj);subst evu;have hkj:ks[j]?=some ks[j]:=by simp
  have lps:ps.length<=j:=by have e:=HC pr;rw[Iv]at e;omega
  refine G7 (JU (Iq (turn j xs[j] u ks[j] H' s' hx ru hkj I' kp) (λy s2 hy=>?_) λ_ _ hF=>hF.elim));obtain⟨p,H2,rfl,I2,Mg,hp⟩:=hy;have hk2:=Mg _ _ ML;obtain⟨z,its,n,r,hln,e⟩:=I2.lstM hk2;have npk:p≠kS:=aF hp hk2 (by intro q;cases q);dsimp only
  refine G7 (LQ e rfl ?_ (by rw[HP,<-hln];exact z) (by
   rw[Array.size_push,HP,<-hln,G8];have:=aG (n:=1000) (Hu _)
   omega))
  refine G_ ⟨rfl,upd H2 kS (.lst ((ps++[p]).map V.ref)),ps++[p],?_,λb o nb eb=>?_,aa,?_⟩
  .refine I2.lset (its':=its++[.ref p]) hk2 e (by simp) ?_ ?_
   .rw[HL];exact r.append (.cons rfl .nil)
   .rw[G8,Hx,IE];have:=aG (n:=1000) (Hu _);omega
  .rw[ai nb];exact Mg _ _ (kp b o nb eb)
  .rw[a6 hkj];refine Paired.app (Paired.mapP pr λa b q=>?_) (.cons (by rw[ai npk];exact hp) .nil);rw[ai (aF q ML)];exact Mg _ _ q
 case done=>
  rintro s' ⟨H',ps,I',kp,ML,pr⟩;rw[Nat.zero_add,JN (by omega)]at pr;obtain⟨z,its,n,r,hln,e⟩:=I'.lstM ML;have eits:its=ps.map Value.ref:=pM r;subst eits;refine G7 (listItems_at e rfl ?_);refine C2 I' (kp D _ nDk hD) ML pr hv (by rw[HC pr,hl]) hz λs2 H2 ts I2 kp2 MO tp ts'=>h s2 H2 ts I2 (λb o n1 n2 eb=>kp2 b o n1 n2 (kp b o n2 eb)) MO tp ts'
theorem Bl(I:Inv X LX σ H s)(hD:H D=some (.lst xs))(ho:s.heap.get? D=some (seqObj "list" vs.toArray n))(hv:aC xs vs) (hl:ks.length=xs.length) (hz:xs.length<=1000)(turn:∀(i:Nat)(x:V)(v:Value)(k:Int×Int)(H':Hp)(s':Shared),xs[i]?=some x->aR x v->ks[i]?=some k->Inv X LX σ H' s'->(∀b o,b≠D->H b=some o->H' b=some o)->wpAny (model X.prog X.w) A (call f [v]) (λu O4=>∃p M0,u=.ref p/\Inv X LX σ M0 O4/\ak H' M0/\M0 p=some (.tup (kpV k))) (λ_ _=>False) s')(h:∀(s':Shared)(H':Hp)(ts:List (V×(Int×Int))),Inv X LX σ H' s'->(∀b o,b≠D->H b=some o->H' b=some o)->H' D=some (.lst (ts.map (·.1)))->ts.Perm (xs.zip ks)->ts.Pairwise (λa b=>jz a.2 b.2)->P (.done (.ret .none)) s'):wpAny (model X.prog X.w) A (ksk_tree D f false) P E s:=by
 have lv:=hv.length;have l1000:=aG (n:=1000) (Hu _);obtain⟨e1,ho1⟩:∃e1,(s.heap.update D (Obj.mapSeq λ_=>(#[]:Array Value))).get? D=some (seqObj "list" #[] e1):=⟨_,get?_update_seq ho λ_=> #[]⟩;have I1:Inv X LX σ (upd H D (kt D e1)) {s with heap:=s.heap.update D (Obj.mapSeq λ_=>(#[]:Array Value)),toks:=s.toks}:=by refine I.write (x:=D) (e:=D) (by rw[hD];exact Jy) (.inl rfl) (λb' u hb hu=>(Jk _ _ (Ho hb)).trans hu) ⟨_,ho1⟩ ?_;exact⟨ho1,⟨_,ho1⟩,λh1 h2 e k=>k _ e⟩
 unfold ksk_tree;refine G7 (listItems_at ho rfl (G7 (LQ ho rfl ?_ (by rw[HP];omega) (HJ _))));refine G7 (seqEpoch_at ho1 rfl (G7 (wpAny_newTuple ?_ (by show vs.length<=_;omega))));have I2:=I1.kept (t':=s.toks) (h':=(s.heap.update D (Obj.mapSeq λ_=>(#[]:Array Value))).push {cls:=.type "tuple",data:=.seq vs.toArray}) λb o q=>Ha _ q;refine G7 (K1 ?_ (HJ _));refine Jg ?_;have I3:=I2.lnew (its:=[]) (ys:=[]) (t':=s.toks) .nil (HJ _);have fr:=I2.fresh;have nDk:=au (aa (H:=H) (a:=D) (o:=kt D e1)) fr;refine Bn I3 (by rw[ai nDk];exact aa) aa hv hl hz (λi x v k H' s' hx rv hk I' kp=>turn i x v k H' s' hx rv hk I' λb o nb eb=>?_) λs' H' ts I' kp NI tp tw=>h s' H' ts I' (λb o nb eb=>?_) NI tp tw
 .have e':(upd H D (kt D e1)) b=some o:=by rw[ai nb];exact eb
  have nk:=au e' fr;exact kp b o nk (by rw[ai nk];exact e')
 .have e':(upd H D (kt D e1)) b=some o:=by rw[ai nb];exact eb
  have nk:=au e' fr;exact kp b o nb nk (by rw[ai nk];exact e')
theorem C4(F:dE X.prog X.w X.K X.mg X.base CX0 k f fd ps sp)(hr:bC k A)(he:ij X.prog X.w X.K X.mg X.base A X.stack s H)(hb:dJ X.K fd ps [])(I:Inv X LX σ H s) (r:aC vs us) (h:sp vs H Q E0):wpAny (model X.prog X.w) A (call (.ref f) us) (EP X LX σ Q) E s:=by
 have hl:us.length=ps.length:=by rw[<-r.length];exact F.len _ _ _ _ h
 refine wpAny_call (Jb (F.run A X.stack s H ⟨us,[]⟩ us vs Q E0 hr he (by have b:=hb s us I.kIn (by rw[IU];exact hl);rw[IU]at b;exact b) r h) λr s' hq=>?_);cases r with
 |error e=>exact False.elim hq
 |ok fl=>
  cases fl with
  |ret u=>exact I.after hq
  |next=>exact False.elim hq
  |brk=>exact False.elim hq
  |cont=>exact False.elim hq
def Em(G:V->Hp->Prop):List V->Hp->Prop:=λvs H=>match vs with
 |[y]=>G y H
 |_=>False
end
def bN(z o a b:Addr)(h h':Heap):Prop:=∀c x,c≠z->c≠o->c≠a->c≠b->h.get? c=some x->h'.get? c=some x
structure gD(P:Program)(w:World)(it:Addr)(st:Nat->Heap->Prop)(G:Heap->Prop)(its:Nat->Option Value):Prop where
 item:∀(A:Around)(E:Value->Shared->Prop)(s:Shared)(i:Nat)(x:Value)(Q:Value->Shared->Prop),st i s.heap->G s.heap->its i=some x->
  (∀g,st (i+1) g->Heap.SameBut it s.heap g->Q x {s with heap:=g})->wpAny (model P w) A (nextOf (.ref it)) Q E s
 fin:∀(A:Around)(E:Value->Shared->Prop)(s:Shared)(i:Nat)(Q:Value->Shared->Prop),A.handled=none->st i s.heap->G s.heap->its i=none->
  (∀g e,ExtBut it s.heap g->(∃o,g.get? e=some o/\o.cls=.type "StopIteration")->E (.ref e) {s with heap:=g})->wpAny (model P w) A (nextOf (.ref it)) Q E s
 keep:∀i h h',st i h->(∀o,h.get? it=some o->h'.get? it=some o)->st i h'
 there:∀i h,st i h->∃o,h.get? it=some o/\∀v,o.data≠ .cell v
theorem o6{P:Program}{w:World}{it l:Addr}{xs:Array Value}:gD P w it (λi h=>h.IsListIter it l i) (λh=>h.IsList l xs) (λi=>xs[i]?)where
 item:=λA E s i x Q h1 h2 hx k=>wpAny_nextOf_list_item h1 h2 hx k
 fin:=λA E s i Q hh h1 h2 hx k=>wpAny_nextOf_list_end hh h1 h2 hx k
 keep:=λi h h' st k=>st.at k
 there:=λi h st=>by obtain⟨o,e,_,d⟩:=st;exact⟨o,e,λv q=>by rw[d]at q;cases q⟩
section
variable{prog:Program}{w:World}{A:Around}{E:Value->Shared->Prop}{s:Shared}
theorem rq(hit:s.heap.IsTupleIter it t i)(ht:s.heap.IsTuple t xs)(hx:xs[i]?=some x)(k:∀g,g.IsTupleIter it t (i+1)->Heap.SameBut it s.heap g->Q x {s with heap:=g}):wpAny (model prog w) A (nextOf (.ref it)) Q E s:=by obtain⟨oi,hoi,ci,di⟩:=id hit;obtain⟨ot,hot,_,nt,dt⟩:=ht;have ne:¬(Value.ref t==Value.none)=true:=Hm;unfold nextOf;refine G7 (IA (name:=Str.ofString "__next__") hit.typeIs JH (Ih JH hit.typeIs KO ?_ (KI _)));show wpAny (model prog w) _ (field (.ref it) 0>>=_) _ _ s;refine G7 (IT hoi di (x:=.ref t) rfl ?_);show wpAny (model prog w) _ (if(Value.ref t==Value.none)=true then _ else _) _ _ s;rw[G9 ne];show wpAny (model prog w) _ (field (.ref it) 1>>=_) _ _ s;refine G7 (IT hoi di (x:=.int i 0) rfl ?_);show wpAny (model prog w) _ (seqItems? (.ref t)>>=_) _ _ s;refine G7 (IP hot dt ?_);simp only[toNat_natCast,hx];refine G7 (KR hoi di (by simp) (G_ ⟨x,rfl,G_ (k _ ⟨_,J4 _ hoi (Obj.isFreed_of_fields (Ka di _)),(Obj.cls_mapFields ..).trans ci,?_⟩ (Jj ..))⟩));rw[Ka di];simp[rawInt]
theorem uk(hh:A.handled=none)(hit:s.heap.IsTupleIter it t i)(ht:s.heap.IsTuple t xs)(hx:xs[i]?=none)(k:∀g e,ExtBut it s.heap g->(∃o,g.get? e=some o/\o.cls=.type "StopIteration")->E (.ref e) {s with heap:=g}):wpAny (model prog w) A (nextOf (.ref it)) Q E s:=by obtain⟨oi,hoi,ci,di⟩:=id hit;obtain⟨ot,hot,_,nt,dt⟩:=ht;have ne:¬(Value.ref t==Value.none)=true:=Hm;unfold nextOf;refine G7 (IA (name:=Str.ofString "__next__") hit.typeIs JH (Ih JH hit.typeIs KO ?_ (KI _)));show wpAny (model prog w) _ (field (.ref it) 0>>=_) _ _ s;refine G7 (IT hoi di (x:=.ref t) rfl ?_);show wpAny (model prog w) _ (if(Value.ref t==Value.none)=true then _ else _) _ _ s;rw[G9 ne];show wpAny (model prog w) _ (field (.ref it) 1>>=_) _ _ s;refine G7 (IT hoi di (x:=.int i 0) rfl ?_);show wpAny (model prog w) _ (seqItems? (.ref t)>>=_) _ _ s;refine G7 (IP hot dt ?_);simp only[toNat_natCast,hx];refine G7 (JI (G7 (KR hoi di (by simp) ?_)));show wpAny (model prog w) _ (newExc (.type "StopIteration") []>>=_) _ _ _;refine G7 ?_;simp only[newExc,newTuple];refine G7 (HX ?_ (by size_fits));refine G7 (m:=firstArgMember _ _) (KS (a:=Value.none) (by first|rfl|(simp only[firstArgMember];rfl)) (HX ?_ (by size_fits)));simp only[raiseNew];refine G7 (KZ ?_);have hh1:A.in1.handled=none:=hh;rw[hh1];refine G7 (G_ (LC (k _ _ (((Jj ..).extBut.push _).push _) ⟨_,Hj _ rfl,rfl⟩)))
end
theorem qW{P:Program}{w:World}{it t:Addr}{xs:Array Value}:gD P w it (λi h=>h.IsTupleIter it t i) (λh=>h.IsTuple t xs) (λi=>xs[i]?)where
 item:=λA E s i x Q h1 h2 hx k=>rq h1 h2 hx k
 fin:=λA E s i Q hh h1 h2 hx k=>uk hh h1 h2 hx k
 keep:=λi h h' st k=>st.at k
 there:=λi h st=>by obtain⟨o,e,_,d⟩:=st;exact⟨o,e,λv q=>by rw[d]at q;cases q⟩
section
variable{prog:Program}{w:World}{A:Around}{E:Value->Shared->Prop}{s:Shared}{z TI TO i1 i2 l1 l2:Addr}{k:Nat}{x y a b:Value}{Og M5:Nat->Heap->Prop}{G1 G2:Heap->Prop}{Nz L9:Nat->Option Value}
theorem fT{z o a b c:Addr}{h g:Heap}(hs:Heap.SameBut c h g)(hc:c=z\/c=o\/c=a\/c=b):bN z o a b h g:=λd x n1 n2 n3 n4 e=>hs.extBut d x (by rcases hc with rfl|rfl|rfl|rfl<;>assumption) e
theorem gv{z o a b:Addr}{h g g':Heap}(p:bN z o a b h g)(q:bN z o a b g g'):bN z o a b h g':=λc x n1 n2 n3 n4 e=>q c x n1 n2 n3 n4 (p c x n1 n2 n3 n4 e)
theorem yq{Q:Value->Shared->Prop}(D1:gD prog w i1 Og G1 Nz)(D2:gD prog w i2 M5 G2 L9)(ap:ZipApart z TI TO i1 i2 l1 l2)(hz:IsZip s.heap z TI TO .none)(MI:IsPair s.heap TI (.ref i1) (.ref i2))(MN:IsPair s.heap TO a b)(h1:Og k s.heap) (h2:M5 k s.heap) (g1:∀g,bN z TO i1 i2 s.heap g->G1 g) (g2:∀g,bN z TO i1 i2 s.heap g->G2 g) (hx:Nz k=some x) (hy:L9 k=some y)(hQ:∀g,IsZip g z TI TO (rawInt s.heap.objs.size)->IsPair g TO x y->Og (k+1) g->M5 (k+1) g->IsPair g s.heap.objs.size x y->g.objs.size=s.heap.objs.size+1->bN z TO i1 i2 s.heap g->Q (.ref s.heap.objs.size) {s with heap:=g}):wpAny (model prog w) A (Builtin.«zip.__next__» ⟨[.ref z],[]⟩) (λfin s'=>∃v,fin=.done (.ret v)/\Q v s') E s:=by
 show wpAny (model prog w) A (field (.ref z) 2>>=_) _ _ _;refine G7 (IT hz rfl (x:=.bool false) rfl (show wpAny (model prog w) A (field (.ref z) 3>>=_) _ _ _ from G7 (IT hz rfl (x:=.ref TI) rfl (G7 (IP MI rfl ?_)))));show wpAny (model prog w) A (ownedTupleIsFree (.ref z)>>=_) _ _ _;refine G7 ?_;unfold ownedTupleIsFree;refine G7 (IT hz rfl (x:=.none) rfl (G_ ?_));simp only[if_true];refine G7 (JI (G7 (IT hz rfl (x:=.ref TO) rfl (G7 (Ie hz (by simp) λe1 z1 s1=>?_)))));replace z1:IsZip e1 z TI TO .ellipsis:=z1;have b1:bN z TO i1 i2 s.heap e1:=fT s1 (.inl rfl);refine G7 ?_;simp only[List.zipIdx_cons,List.zipIdx_nil,forIn_cons,forIn_nil];refine G7 (G7 (K0 ?_));show wpAny (model prog w) A (nextOf (.ref i1)>>=_) _ _ _;refine G7 (D1.item _ _ _ k x _ (D1.keep _ _ _ h1 λo e=>s1.extBut _ _ ap.i1z e) (g1 _ b1) hx λe2 t1 s2=>G_ ?_);have b2:=gv b1 (fT (z:=z) (o:=TO) (a:=i1) (b:=i2) s2 (.inr (.inr (.inl rfl))));have o2:IsPair e2 TO a b:=s2.extBut _ _ ap.TOi1 (s1.extBut _ _ ap.TOz MN);refine G7 (IP o2 rfl (G7 (KU o2 λe3 o3 s3=>?_)));replace o3:IsPair e3 TO x b:=o3;have b3:=gv b2 (fT (z:=z) (o:=TO) (a:=i1) (b:=i2) s3 (.inr (.inl rfl)));refine G7 (LD (G_ (G7 (G7 (K0 ?_)))));show wpAny (model prog w) A (nextOf (.ref i2)>>=_) _ _ _;refine G7 (D2.item _ _ _ k y _ (D2.keep _ _ _ h2 λo e=>s3.extBut _ _ ap.TOi2.symm (s2.extBut _ _ ap.i12.symm (s1.extBut _ _ ap.i2z e))) (g2 _ b3) hy λe4 t2 s4=>G_ ?_);have b4:=gv b3 (fT (z:=z) (o:=TO) (a:=i1) (b:=i2) s4 (.inr (.inr (.inr rfl))));have o4:IsPair e4 TO x b:=s4.extBut _ _ ap.TOi2 o3;refine G7 (IP o4 rfl (G7 (KU o4 λe5 o5 s5=>?_)));replace o5:IsPair e5 TO x y:=o5;have b5:=gv b4 (fT (z:=z) (o:=TO) (a:=i1) (b:=i2) s5 (.inr (.inl rfl)));refine G7 (LD (G_ (G_ ?_)));refine G7 (IP o5 rfl (G7 (wpAny_newTuple ?_)));have sz:e5.objs.size=s.heap.objs.size:=by rw[s5.1,s4.1,s3.1,s2.1,s1.1]
 have z5:IsZip e5 z TI TO .ellipsis:=s5.extBut _ _ ap.TOz.symm (s4.extBut _ _ ap.i2z.symm (s3.extBut _ _ ap.TOz.symm (s2.extBut _ _ ap.i1z.symm z1)));have q1:Og (k+1) e5:=D1.keep _ _ _ t1 λo e=>s5.extBut _ _ ap.TOi1.symm (s4.extBut _ _ ap.i12 (s3.extBut _ _ ap.TOi1.symm e));have q2:M5 (k+1) e5:=D2.keep _ _ _ t2 λo e=>s5.extBut _ _ ap.TOi2.symm e;have lz:z<e5.objs.size:=HB z5;show wpAny (model prog w) A (ownedTupleHandOut (.ref z) (.ref e5.objs.size)>>=_) _ _ _;refine G7 ?_;unfold ownedTupleHandOut;have z6:IsZip (e5.push {cls:=.type "tuple",data:=.seq #[x,y]}) z TI TO .ellipsis:=Ha _ z5;refine G7 (Ie z6 (by simp) λe7 z7 s7=>?_);replace z7:IsZip e7 z TI TO (rawInt e5.objs.size):=z7;refine Ie z7 (by simp) λe8 z8 s8=>?_;replace z8:IsZip e8 z TI TO (rawInt e5.objs.size):=z8;have up:∀c o,c≠z->e5.get? c=some o->e8.get? c=some o:=λc o n e=>s8.extBut _ _ n (s7.extBut _ _ n (Ha _ e));have t8:IsPair e8 e5.objs.size x y:=s8.extBut _ _ (Jt lz) (s7.extBut _ _ (Jt lz) (Hj _ rfl));have sz8:e8.objs.size=e5.objs.size+1:=by rw[s8.1,s7.1,Il]
 rw[sz]at z8 t8 sz8;refine G_ ⟨_,rfl,?_⟩;show Q (.ref e5.objs.size) _;rw[sz];exact hQ e8 z8 (up _ _ ap.TOz o5) (D1.keep _ _ _ q1 λo e=>up _ o ap.i1z e) (D2.keep _ _ _ q2 λo e=>up _ o ap.i2z e) t8 sz8 λc o n1 n2 n3 n4 e=>up c o n1 (b5 c o n1 n2 n3 n4 e)
theorem zD(hh:A.handled=none)(D1:gD prog w i1 Og G1 Nz)(D2:gD prog w i2 M5 G2 L9)(ap:ZipApart z TI TO i1 i2 l1 l2)(hz:IsZip s.heap z TI TO .none)(MI:IsPair s.heap TI (.ref i1) (.ref i2))(MN:IsPair s.heap TO a b)(h1:Og k s.heap) (h2:M5 k s.heap) (g1:∀g,bN z TO i1 i2 s.heap g->G1 g) (g2:∀g,bN z TO i1 i2 s.heap g->G2 g) (N0:Nz k=none\/L9 k=none)(hE:∀g e,bN z TO i1 i2 s.heap g->(∃o,g.get? e=some o/\o.cls=.type "StopIteration")->E (.ref e) {s with heap:=g}):wpAny (model prog w) A (Builtin.«zip.__next__» ⟨[.ref z],[]⟩) Q E s:=by
 show wpAny (model prog w) A (field (.ref z) 2>>=_) _ _ _;refine G7 (IT hz rfl (x:=.bool false) rfl (show wpAny (model prog w) A (field (.ref z) 3>>=_) _ _ _ from G7 (IT hz rfl (x:=.ref TI) rfl (G7 (IP MI rfl ?_)))));show wpAny (model prog w) A (ownedTupleIsFree (.ref z)>>=_) _ _ _;refine G7 ?_;unfold ownedTupleIsFree;refine G7 (IT hz rfl (x:=.none) rfl (G_ ?_));simp only[if_true];refine G7 (JI (G7 (IT hz rfl (x:=.ref TO) rfl (G7 (Ie hz (by simp) λe1 z1 s1=>?_)))));replace z1:IsZip e1 z TI TO .ellipsis:=z1;have b1:bN z TO i1 i2 s.heap e1:=fT s1 (.inl rfl);refine G7 ?_;simp only[List.zipIdx_cons,List.zipIdx_nil,forIn_cons,forIn_nil];refine G7 (G7 (K0 ?_));show wpAny (model prog w) A (nextOf (.ref i1)>>=_) _ _ _;cases hx:Nz k with
 |none=>
  refine G7 (D1.fin _ _ _ k _ hh (D1.keep _ _ _ h1 λo e=>s1.extBut _ _ ap.i1z e) (g1 _ b1) hx λe2 e s2 he=>?_);obtain⟨oe,hoe,ce⟩:=he;have z2:IsZip e2 z TI TO .ellipsis:=s2 _ _ ap.i1z.symm z1;have nez:e≠z:=λq=>by subst q;rw[z2]at hoe;cases hoe;simp at ce
  exact Ie z2 (by simp) λe3 _ s3=>hE e3 e (λc o n1 n2 n3 n4 q=>s3.extBut _ _ n1 (s2 _ _ n3 (b1 c o n1 n2 n3 n4 q))) ⟨oe,s3.extBut _ _ nez hoe,ce⟩
 |some x=>
  have hy:L9 k=none:=by
   rcases N0 with q|q
   .rw[hx]at q;cases q
   .exact q
  refine G7 (D1.item _ _ _ k x _ (D1.keep _ _ _ h1 λo e=>s1.extBut _ _ ap.i1z e) (g1 _ b1) hx λe2 t1 s2=>G_ ?_);have b2:=gv b1 (fT (z:=z) (o:=TO) (a:=i1) (b:=i2) s2 (.inr (.inr (.inl rfl))));have o2:IsPair e2 TO a b:=s2.extBut _ _ ap.TOi1 (s1.extBut _ _ ap.TOz MN);refine G7 (IP o2 rfl (G7 (KU o2 λe3 o3 s3=>?_)));have b3:=gv b2 (fT (z:=z) (o:=TO) (a:=i1) (b:=i2) s3 (.inr (.inl rfl)));refine G7 (LD (G_ (G7 (G7 (K0 ?_)))));show wpAny (model prog w) A (nextOf (.ref i2)>>=_) _ _ _;refine G7 (D2.fin _ _ _ k _ hh (D2.keep _ _ _ h2 λo e=>s3.extBut _ _ ap.TOi2.symm (s2.extBut _ _ ap.i12.symm (s1.extBut _ _ ap.i2z e))) (g2 _ b3) hy λe4 e s4 he=>?_);obtain⟨oe,hoe,ce⟩:=he;have z4:IsZip e4 z TI TO .ellipsis:=s4 _ _ ap.i2z.symm (s3.extBut _ _ ap.TOz.symm (s2.extBut _ _ ap.i1z.symm z1));have nez:e≠z:=λq=>by subst q;rw[z4]at hoe;cases hoe;simp at ce
  exact Ie z4 (by simp) λe5 _ s5=>hE e5 e (λc o n1 n2 n3 n4 q=>s5.extBut _ _ n1 (s4 _ _ n4 (b3 c o n1 n2 n3 n4 q))) ⟨oe,s5.extBut _ _ nez hoe,ce⟩
theorem yp{Q:Option Value->Shared->Prop}(D1:gD prog w i1 Og G1 Nz)(D2:gD prog w i2 M5 G2 L9)(ap:ZipApart z TI TO i1 i2 l1 l2)(hz:IsZip s.heap z TI TO .none)(MI:IsPair s.heap TI (.ref i1) (.ref i2))(MN:IsPair s.heap TO a b)(h1:Og k s.heap) (h2:M5 k s.heap) (g1:∀g,bN z TO i1 i2 s.heap g->G1 g) (g2:∀g,bN z TO i1 i2 s.heap g->G2 g) (hx:Nz k=some x) (hy:L9 k=some y)(hQ:∀g,IsZip g z TI TO (rawInt s.heap.objs.size)->IsPair g TO x y->Og (k+1) g->M5 (k+1) g->IsPair g s.heap.objs.size x y->g.objs.size=s.heap.objs.size+1->bN z TO i1 i2 s.heap g->Q (some (.ref s.heap.objs.size)) {s with heap:=g}):wpAny (model prog w) A (pyNext (.ref z)) Q E s:=by
 have ty:s.TypeIs (.ref z) "zip":=⟨_,hz,rfl⟩;unfold pyNext
 exact G7 (JU (IA (name:=Str.ofString "__next__") ty La (Ih La ty LN
  (yq D1 D2 ap hz MI MN h1 h2 g1 g2 hx hy λg p1 p2 p3 p4 p5 p6 p7=>G_ (hQ g p1 p2 p3 p4 p5 p6 p7)) (LB _))))
theorem yn{Q:Option Value->Shared->Prop}(hh:A.handled=none)(D1:gD prog w i1 Og G1 Nz)(D2:gD prog w i2 M5 G2 L9)(ap:ZipApart z TI TO i1 i2 l1 l2)(hz:IsZip s.heap z TI TO .none)(MI:IsPair s.heap TI (.ref i1) (.ref i2))(MN:IsPair s.heap TO a b)(h1:Og k s.heap) (h2:M5 k s.heap) (g1:∀g,bN z TO i1 i2 s.heap g->G1 g) (g2:∀g,bN z TO i1 i2 s.heap g->G2 g) (N0:Nz k=none\/L9 k=none)(hQ:∀g,bN z TO i1 i2 s.heap g->Q none {s with heap:=g}):wpAny (model prog w) A (pyNext (.ref z)) Q E s:=by
 have ty:s.TypeIs (.ref z) "zip":=⟨_,hz,rfl⟩;unfold pyNext
 refine G7 (JU (IA (name:=Str.ofString "__next__") ty La (Ih La ty LN
  (zD hh D1 D2 ap hz MI MN h1 h2 g1 g2 N0 λg e kb he=>?_) (LB _))))
 obtain⟨o,ho,co⟩:=he;exact G7 (Kt (T:="StopIteration") (b:=true) ⟨o,ho,co⟩ isSubtype_stop (G_ (hQ _ kb)))
end
abbrev zt1(h:Heap)(p:Addr):Heap:=h.push {cls:=.type "tuple_iterator",data:=.fields #[.ref p,.int 0 0]}
abbrev zt2(h:Heap)(p q:Addr):Heap:=(zt1 h p).push {cls:=.type "list_iterator",data:=.fields #[.ref q,.int 0 0]}
abbrev zt3(h:Heap)(p q:Addr):Heap:=(zt2 h p q).push {cls:=.type "tuple",data:=.seq #[.ref h.objs.size,.ref (zt1 h p).objs.size]}
abbrev zt4(h:Heap)(p q:Addr):Heap:=(zt3 h p q).push {cls:=.type "tuple",data:=.seq #[.none,.none]}
abbrev zt5(h:Heap)(p q:Addr):Heap:=(zt4 h p q).push {cls:=.type "zip",data:=.fields #[.none,.bool false,.bool false,.ref (zt2 h p q).objs.size,.ref (zt3 h p q).objs.size]}
theorem uR(p q:Addr)(xs ys:Array Value):Meets (Builtin.«zip.__new__» ⟨[.type "zip",.ref p,.ref q],[]⟩) (λ_ R s=>s.heap.IsTuple p xs/\s.heap.IsList q ys/\R (.ok (.ret (.ref (zt4 s.heap p q).objs.size))) {s with heap:=zt5 s.heap p q}):=
 .of_wp λprog w A R s h=>by
  obtain⟨hp,g,d,tk,os⟩:=s;obtain⟨h1,h2,h⟩:=h;have sz:=sub_zip;have t1:Heap.IsTuple (Shared.heap ⟨hp,g,d,tk,os⟩) p xs:=h1;have t2:IsList (Shared.heap ⟨hp.push {cls:=.type "tuple_iterator",data:=.fields #[.ref p,.int 0 0]},g,d,tk,os⟩) q ys:=IsList.push h2 _
  wp_walk using wpAny_pyIter_tuple t1,Kk t2
  exact⟨_,rfl,h⟩
section
variable{prog:Program}{w:World}{A:Around}{E:Value->Shared->Prop}{s:Shared}
theorem wZ{p q:Addr}{xs ys:Array Value}{Q:Value->Shared->Prop}(h1:s.heap.IsTuple p xs)(h2:s.heap.IsList q ys)(h:∀g,IsZip g (s.heap.objs.size+4) (s.heap.objs.size+2) (s.heap.objs.size+3) .none->IsPair g (s.heap.objs.size+2) (.ref s.heap.objs.size) (.ref (s.heap.objs.size+1))->IsPair g (s.heap.objs.size+3) .none .none->g.IsTupleIter s.heap.objs.size p 0->g.IsListIter (s.heap.objs.size+1) q 0->(∀c o,s.heap.get? c=some o->g.get? c=some o)->Q (.ref (s.heap.objs.size+4)) {s with heap:=g}):wpAny (model prog w) A (call (.type "zip") [.ref p,.ref q]) Q E s:=by
 refine callType_new PySem.F.called_zip (by decide) (PySem.F.typeCall_zip_2 _ _) (PySem.F.newCall_zip_2 _ _) (λobj=>PySem.F.args_object_init_3 obj _ _) PySem.F.entry_zip_new (uR p q xs ys) ⟨h1,h2,?_⟩;have n1:(zt1 s.heap p).objs.size=s.heap.objs.size+1:=Il ..;have n2:(zt2 s.heap p q).objs.size=s.heap.objs.size+2:=by rw[Il,n1]
 have n3:(zt3 s.heap p q).objs.size=s.heap.objs.size+3:=by rw[Il,n2]
 have n4:(zt4 s.heap p q).objs.size=s.heap.objs.size+4:=by rw[Il,n3]
 have a5:(zt5 s.heap p q).get? (zt4 s.heap p q).objs.size=some _:=Hj _ rfl;have a4:(zt5 s.heap p q).get? (zt3 s.heap p q).objs.size=some _:=Ha _ (Hj _ rfl);have a3:(zt5 s.heap p q).get? (zt2 s.heap p q).objs.size=some _:=Ha _ (Ha _ (Hj _ rfl));have a2:(zt5 s.heap p q).get? (zt1 s.heap p).objs.size=some _:=Ha _ (Ha _ (Ha _ (Hj _ rfl)));have a1:(zt5 s.heap p q).get? s.heap.objs.size=some _:=Ha _ (Ha _ (Ha _ (Ha _ (Hj _ rfl))));show _/\_;rw[n2,n3,n4]at a5;rw[n1,n2]at a3;rw[n3]at a4;rw[n1]at a2;rw[n4];exact⟨⟨_,a5,rfl⟩,h _ a5 a3 a4 ⟨_,a1,rfl,rfl⟩ ⟨_,a2,rfl,rfl⟩ λc o e=>Ha _ (Ha _ (Ha _ (Ha _ (Ha _ e))))⟩
end
def zB(K:LS)(a b:Addr):It:=
 ⟨λi H=>∃(xs ys:List V)(x y:V),SqT K H a xs/\SqL K H b ys/\xs[i]?=some x/\ys[i]?=some y,
  λi H v H'=>∃T x y,v=.ref T/\H T=none/\H'=upd H T (.tup [x,y])/\(∀xs,SqT K H a xs->xs[i]?=some x)/\∀ys,SqL K H b ys->ys[i]?=some y,
  λi H=>∃xs ys:List V,SqT K H a xs/\SqL K H b ys/\(xs.length<=i\/ys.length<=i)⟩
theorem kY{K:LS}{a b:Addr}{xs ys:List V}{G:Hp->Prop}(h:∀H,G H->SqT K H a xs/\SqL K H b ys):fg (zB K a b) (min xs.length ys.length) G (λi v H'=>∃T x y,v=.ref T/\H' T=some (.tup [x,y])/\xs[i]?=some x/\ys[i]?=some y)where
 go:=λi H g hi=>⟨xs,ys,xs[i]'(by omega),ys[i]'(by omega),(h H g).1,(h H g).2,by simp,by simp⟩
 stop:=λi H g hi=>⟨xs,ys,(h H g).1,(h H g).2,by omega⟩
 yld:=λi H x H' g hi y=>by obtain⟨T,u,v,rfl,hT,rfl,h1,h2⟩:=y;exact⟨ak.upd hT,T,u,v,rfl,aa,h1 xs (h H g).1,h2 ys (h H g).2⟩
theorem zw{z TI TO i1 i2 c:Addr}(h:c∈[z,TI,TO,i1,i2]):c=z\/c=TI\/c=TO\/c=i1\/c=i2:=by simpa using h
theorem yt{P:Program}{w:World}{K:LS}{MH:List Expr}{kk:Nat}{Mx:Pos}{a b z TI TO i1 i2:Addr}(D:ZipApart z TI TO i1 i2 a b):gn P w K (.Tuple MH kk Mx) (zB K a b) [z,TI,TO,i1,i2] z (λi h=>IsZip h z TI TO .none/\IsPair h TI (.ref i1) (.ref i2)/\(∃x y,IsPair h TO x y)/\h.IsTupleIter i1 a i/\h.IsListIter i2 b i)where
 mem:=by simp
 obj:=λi h st c hc=>by
  obtain⟨hz,MI,⟨x,y,MN⟩,⟨o1,e1,_,d1⟩,⟨o2,e2,_,d2⟩⟩:=st;rcases zw hc with rfl|rfl|rfl|rfl|rfl
  .exact⟨_,hz,λv q=>nomatch q⟩
  .exact⟨_,MI,λv q=>nomatch q⟩
  .exact⟨_,MN,λv q=>nomatch q⟩
  .exact⟨o1,e1,λv q=>by rw[d1]at q;cases q⟩
  .exact⟨o2,e2,λv q=>by rw[d2]at q;cases q⟩
 keep:=λi h h' st k=>by obtain⟨hz,MI,⟨x,y,MN⟩,h1,h2⟩:=st;exact⟨k z (by simp) _ hz,k TI (by simp) _ MI,⟨x,y,k TO (by simp) _ MN⟩,h1.at λo q=>k i1 (by simp) o q,h2.at λo q=>k i2 (by simp) o q⟩
 item:=by
  intro X hP hw hK hc i LX s σ H E I hf st hg;subst hP hw hK;obtain⟨hz,MI,⟨x0,y0,MN⟩,h1,h2⟩:=st;obtain⟨xs,ys,x,y,qx,qy,hx,hy⟩:=hg;obtain⟨its,rv,p1,_⟩:=I.tuple qx;obtain⟨L9,Po,p2,_⟩:=I.list qy;obtain⟨u,hu,ru⟩:=rv.get hx;obtain⟨u2,hu2,ru2⟩:=Po.get hy;have lz:z<s.heap.objs.size:=HB hz;have G1:∀g,bN z TO i1 i2 s.heap g->g.IsTuple a its.toArray:=λg kb=>by obtain⟨o,ho,r⟩:=p1;exact⟨o,kb a o D.l1z D.l1TO D.l1i1 D.l1i2 ho,r⟩
  have G2:∀g,bN z TO i1 i2 s.heap g->g.IsList b L9.toArray:=λg kb=>by obtain⟨o,ho,r⟩:=p2.isList;exact⟨o,kb b o D.l2z D.l2TO D.l2i1 D.l2i2 ho,r⟩
  refine yp qW o6 D hz MI MN h1 h2 G1 G2 (x:=u) (y:=u2) (by simpa using hu) (by simpa using hu2) λg z' TO' Ni MR hT hsz hk=>?_;refine⟨_,rfl,wpAny_letOwnedTupleGo_zip (s:={s with heap:=g}) z' λg2 OA sb=>?_⟩;have hT2:g2.get? s.heap.objs.size=some {cls:=.type "tuple",data:=.seq #[u,u2]}:=(sb.2 _ (Jt lz)).trans hT;have new:bZ X.prog X.w (upd H s.heap.objs.size (.tup [x,y])) g2 s.heap.objs.size (.tup [x,y]):=⟨by show 2<=sizeLine;decide,[u,u2],.cons ru (.cons ru2 .nil),⟨_,hT2,rfl,_,rfl⟩⟩;have kall:∀c o,c∉[z,TI,TO,i1,i2]->s.heap.get? c=some o->g2.get? c=some o:=λc o nc e=>
   (sb.2 c λq=>nc (by simp[q])).trans (hk c o (λq=>nc (by simp[q])) (λq=>nc (by simp[q])) (λq=>nc (by simp[q])) (λq=>nc (by simp[q])) e)
  have I1:Inv X LX σ (upd H s.heap.objs.size (.tup [x,y])) {s with heap:=g2}:=I.turnedNew (t':=s.toks) (ch:=[z,TI,TO,i1,i2]) kall hf (Hu _) new;refine⟨.ref s.heap.objs.size,_,I1,rfl,⟨_,x,y,rfl,I.hok.fresh (Hu _),rfl,λl hl=>by rw[I.tuple_inj hl qx];exact hx,λl hl=>by rw[I.list_inj hl qy];exact hy⟩,⟨OA,?_,⟨u,u2,?_⟩,?_,?_⟩,λc Pp=>?_⟩
  .exact(sb.2 _ D.TIz).trans (hk _ _ D.TIz D.TITO D.TIi1 D.TIi2 MI)
  .exact(sb.2 _ D.TOz).trans TO'
  .exact Ni.at λo q=>(sb.2 _ D.i1z).trans q
  .exact MR.at λo q=>(sb.2 _ D.i2z).trans q
  .have Mq:c<s.heap.objs.size:=by
    rcases zw Pp with rfl|rfl|rfl|rfl|rfl
    .exact lz
    .exact HB MI
    .exact HB MN
    .obtain⟨_,e1,_⟩:=h1;exact HB e1
    .obtain⟨_,e2,_⟩:=h2;exact HB e2
   rw[ai (HW Mq)];exact(hf c Pp).1
 done:=by
  intro X hP hw hK hc i LX s σ H E I hf st hg;subst hP hw hK;obtain⟨hz,MI,⟨x0,y0,MN⟩,h1,h2⟩:=st;obtain⟨xs,ys,qx,qy,N0⟩:=hg;obtain⟨its,rv,p1,_⟩:=I.tuple qx;obtain⟨L9,Po,p2,_⟩:=I.list qy;have n1:=rv.length;have n2:=Po.length;have G1:∀g,bN z TO i1 i2 s.heap g->g.IsTuple a its.toArray:=λg kb=>by obtain⟨o,ho,r⟩:=p1;exact⟨o,kb a o D.l1z D.l1TO D.l1i1 D.l1i2 ho,r⟩
  have G2:∀g,bN z TO i1 i2 s.heap g->g.IsList b L9.toArray:=λg kb=>by obtain⟨o,ho,r⟩:=p2.isList;exact⟨o,kb b o D.l2z D.l2TO D.l2i1 D.l2i2 ho,r⟩
  have he:its.toArray[i]?=none\/L9.toArray[i]?=none:=by
   rcases N0 with q|q
   .exact .inl (by simp;omega)
   .exact .inr (by simp;omega)
  exact yn (I.ok.hd hc) qW o6 D hz MI MN h1 h2 G1 G2 he λg hk=>⟨rfl,I.turnedL (t':=s.toks) (ch:=[z,TI,TO,i1,i2]) (λc o nc e=>hk c o (λq=>nc (by simp[q])) (λq=>nc (by simp[q])) (λq=>nc (by simp[q])) (λq=>nc (by simp[q])) e) hf⟩
 self:=λA i s Q E st h=>Ku st.1 h
inductive Co(K:LS)(H1:Hp)(vs:List V)(R:It->Hp->Prop):Prop|mk(a:_)(b:_)(xs:_)(ys:_)(_:vs=[.ref a,.ref b])(_:SqT K H1 a xs)(_:SqL K H1 b ys)(_:R (zB K a b) H1)
def Eo(K:LS)(ta:TA):TI:=λσ H R=>ta σ H λvs H1=>Co K H1 vs R
theorem nA{X:Cx}{e e2:Expr}{ta:TA}{p pos Mx:Pos}{MH:List Expr}{kk:Nat}(hg:Gl X "zip")(hm:X.mg "zip"=none)(ha:PA X [e,e2] ta)(hs:starEach [e,e2] X.env=(false,eval e X.env)::starEach [e2] X.env:=by rfl) (Ms:(backTo pos (starEach [e2] X.env)).any (·.1)=false:=by rfl):PI X (.Tuple MH kk Mx) (.Call (.Name "zip" p) [e,e2] [] pos) (Eo X.K ta):=by
 intro LX s σ H R I h;refine Call_ (gM I hg hm qZ (Iy (thn (ha pos LX s σ H _ I h) λus s1 ⟨vs,H1,I1,r1,a,b,xs,ys,ex,qx,qy,q⟩=>?_) hs Ms));subst ex;obtain⟨u,u2,rfl,ru,ru2⟩:=wP r1;cases ru;cases ru2;obtain⟨its,rv,p1,_⟩:=I1.tuple qx;obtain⟨L9,Po,p2,_⟩:=I1.list qy;have la:a<s1.heap.objs.size:=by obtain⟨_,e1,_⟩:=p1;exact HB e1
 have lb:b<s1.heap.objs.size:=p2.lt;refine wZ p1 p2.isList λg hz MI MN h1 h2 hk=>Ku hz ?_;have I2:Inv X LX σ H1 {s1 with heap:=g}:=I1.kept (t':=s1.toks) hk;refine⟨s1.heap.objs.size+4,[s1.heap.objs.size+4,s1.heap.objs.size+2,s1.heap.objs.size+3,s1.heap.objs.size,s1.heap.objs.size+1],_,_,H1,rfl,I2,yt (ktu_apart s1.heap.objs.size a b la lb),⟨hz,MI,⟨_,_,MN⟩,h1,h2⟩,λc Pp=>?_,q⟩;have Mo:s1.heap.objs.size<=c:=by rcases zw Pp with rfl|rfl|rfl|rfl|rfl<;>omega
 exact I1.fpOk Mo (I1.hok.fresh Mo)
section
variable{prog:Program}{w:World}{A:Around}{E:Value->Shared->Prop}{s:Shared}{T:String}{r d:Addr}{n:Nat}{P:Nat->Value->Prop}{OK:Heap->Prop}
theorem m9(S:KdlSrc prog w T r d n P OK)(hh:A.handled=none)(hok:OK s.heap)(hn:n<=sizeLine)(hQ:∀(g:Heap)(tk:Nat)(acc:Array Value),(∀b o,s.heap.get? b=some o->g.get? b=some o)->s.heap.objs.size<g.objs.size->ItemsOf P acc n->Q acc.toList {s with heap:=g,toks:=tk}):wpAny (model prog w) A (collect (.ref r)) Q E s:=by
 obtain⟨lr,ld⟩:=S.there _ hok;unfold collect;refine G7 (wpAny_runValue (I_ K8 ?_));rw[IN K9 _];show wpAny (model prog w) A.in1 (newList []>>=λl=>again (.builtin "list.__iadd__" ⟨[l,.ref r],[]⟩)) _ _ s;refine G7 (HX (G_ ⟨JT KL _,I_ Lw ?_⟩));rw[IN KL _];have e0:(s.heap.push {cls:=.type "list",data:=.seq ([]:List Value).toArray}).get? s.heap.objs.size=some {cls:=.type "list",data:=.seq ([]:List Value).toArray}:=Hj _ rfl;have ok1:OK (s.heap.push {cls:=.type "list",data:=.seq ([]:List Value).toArray}):=S.keep _ _ hok λb _ o e=>Ha _ e
 have Pq:∀(v:Value)(s':Shared),(v=.ref s.heap.objs.size/\∃(g:Heap)(tk:Nat)(acc:Array Value)(c:Nat),s'={s with heap:=g,toks:=tk}/\(∀b o,s.heap.get? b=some o->g.get? b=some o)/\
   g.get? s.heap.objs.size=some {cls:=.type "list",dict:=none,data:=.seq acc c,slots:= #[]}/\ItemsOf P acc n)->wpAny (model prog w) A (match v with
    | .ref a=>do
     match(<-load a).data with
     | .seq xs _=>pure xs.toList
     |_=>unsupported "internal:collect"
    |_=>unsupported "internal:collect") Q E s':=by
  rintro v s' ⟨rfl,g,tk,acc,c,rfl,kp,hS,Mj⟩;exact G7 (wpAny_load hS (G_ (hQ g tk acc kp (HB hS) Mj)))
 refine Iq (PySem.W.kdl_extend (s:={s with heap:=s.heap.push {cls:=.type "list",data:=.seq ([]:List Value).toArray}}) (R:=λr' s'=>∃v,r'=.ok (.ret v)/\(v=.ref s.heap.objs.size/\∃(g:Heap)(tk:Nat)(acc:Array Value)(c:Nat),s'={s with heap:=g,toks:=tk}/\(∀b o,s.heap.get? b=some o->g.get? b=some o)/\
   g.get? s.heap.objs.size=some {cls:=.type "list",dict:=none,data:=.seq acc c,slots:= #[]}/\ItemsOf P acc n)) S hh ok1 s.heap.objs.size (Jt lr) (Jt ld) (.ref s.heap.objs.size) _ e0
  (λg tk acc c kp hS Mj=>⟨_,rfl,rfl,g,tk,acc,c,rfl,λb o e=>kp b o (HW (HB e)) (Ha _ e),hS,Mj⟩) hn) (λfin s' h=>?_) λe s' h=>?_
 .cases fin with
  |done f=>obtain⟨v,e,q⟩:=h;injection e with e;subst e;exact Pq v s' q
  |again c'=>refine⟨h.1,Jb h.2 λr' s2 q=>?_⟩;obtain⟨v,e,q⟩:=q;subst e;exact Pq v s2 q
 .obtain⟨v,e',_⟩:=h;cases e'
theorem xn{ns:List Int}{Q:Value->Shared->Prop}(S:KdlSrc prog w T r d n P OK)(hh:A.handled=none)(hok:OK s.heap)(hn:n<=sizeLine)(hP:∀acc:Array Value,ItemsOf P acc n->∃ms:List Int,IntsAre acc.toList ms/\ms.Perm ns)(hQ:∀(g:Heap)(tk:Nat)(D:Addr)(out:List Value)(ms:List Int)(c:Nat),(∀b o,s.heap.get? b=some o->g.get? b=some o)->s.heap.objs.size<=D->g.get? D=some (seqObj "list" out.toArray c)->IntsAre out ms->ms.Perm ns->ms.Pairwise (·<=·)->Q (.ref D) {s with heap:=g,toks:=tk}):wpAny (model prog w) A (call (.builtin "sorted") [.ref r]) Q E s:=by refine Calls.call_function_entry kind_sorted plain_sorted entry_sorted (args_sorted1 _) ?_;unfold Builtin.«sorted»;refine G7 (m:=checkCount "sorted" 1 1 _) (G_ (G7 (m9 S hh hok hn λg tk acc kp lt Mj=>G7 (K1 ?_ (by rw[HR,Mj.1];exact hn)))));obtain⟨ms,hi,pm⟩:=hP acc Mj;have eD:(g.push (seqObj "list" acc.toList.toArray 0)).get? g.objs.size=some (seqObj "list" acc.toList.toArray 0):=Hj _ rfl;refine G7 (Jg (Ih slot_list_sort ⟨_,eD,rfl⟩ entry_list_sort (list_sort_treeAny eD hi (by rw[HR,Mj.1];exact hn) λout O5 h1 h2 h3=>⟨_,rfl,?_⟩) (args_list_sort _)));obtain⟨c,hc⟩:=sortedHeap_at (out:=out) eD;refine G_ ⟨_,rfl,hQ _ tk g.objs.size out.toList O5 c (λb o e=>?_) (Js lt) (by rw[toArray_toList];exact hc) h1 (h2.trans pm) h3⟩;have lb:=HB e;have e2:=Ha (seqObj "list" acc.toList.toArray 0) (kp b o e);exact(sortedHeap_old (HW (K3 lb lt)) (HB e2)).trans e2
end
theorem i8:∀{us:List Value}{ns:List Int},us.length=ns.length->(∀(j:Nat)(v:Value),us[j]?=some v->∃m t,ns[j]?=some m/\v=.int m t)->IntsAre us ns
 |[],[],_,_=>.nil
 |u::us,m::ns,hl,h=>by obtain⟨m',t,e,rfl⟩:=h 0 u rfl;have e':m=m':=Hg e;subst e';exact .cons m t (i8 (by simpa using hl) λj v hj=>h (j+1) v hj)
 |[],_::_,hl,_=>by simp at hl
 |_::_,[],hl,_=>by simp at hl
theorem i4:∀{us:List Value}{xs:List V},us.length=xs.length->(∀(j:Nat)(v:Value),us[j]?=some v->∃x,xs[j]?=some x/\aR x v)->aC xs us
 |[],[],_,_=>.nil
 |u::us,x::xs,hl,h=>by obtain⟨x',e,r⟩:=h 0 u rfl;have e':x=x':=Hg e;subst e';exact .cons r (i4 (by simpa using hl) λj v hj=>h (j+1) v hj)
 |[],_::_,hl,_=>by simp at hl
 |_::_,[],hl,_=>by simp at hl
section
variable{X:Cx}
theorem wm{kvs:List (Key×V)}{vs:List (Key×Value)}(r:KV kvs vs):vs.map (·.1)=kvs.map (·.1):=by
 induction r with
 |nil=>rfl
 |cons h t ih=>rw[Hf,Hf,ih,h.1]
theorem o8(hc:X.calm=true):eK X (.builtin "sorted") (λxs H Q=>∃(a:Addr)(kvs:List (Key×V))(ns:List Int),xs=[V.ref a]/\H a=some (.dK kvs)/\kvs.map (·.1)=ns.map Sum.inl/\ ∀(ms:List Int)(p:Addr),ms.Perm ns->ms.Pairwise (·<=·)->H p=none->Q (.ref p) (upd H p (.lst (ms.map V.int)))):=by
 intro LX s σ H xs us Q I r h;obtain⟨a,kvs,ns,rfl,ha,hk,q⟩:=h;obtain⟨u,rfl,ru⟩:=gz r;cases ru;obtain⟨z,hs,vs,Mb,dd⟩:=gC I.hok ha;obtain⟨ep,da⟩:=dd.dictAt;have lk:vs.map (·.1)=ns.map Sum.inl:=by rw[wm Mb,hk]
 have ll:vs.length=ns.length:=by have e:=HU length lk;rwa[G8,G8]at e
 have lz:kvs.length=vs.length:=HC Mb;refine xn (ns:=ns) (kdl_dict (knd:=ba X.prog X.w) (kvs:=vs) (ep:=ep) hs) (I.ok.hd hc) da (by omega) (λacc Mj=>⟨ns,?_,HS _⟩) λg tk D out ms c kp le hD hi pm sr=>?_
 .refine i8 (by rw[HR,Mj.1,ll]) λj v hj=>?_;obtain⟨k,x,e1,e2⟩:=Mj.2 j v (by rw[<-IZ];exact hj);have e3:(vs.map (·.1))[j]?=some k:=by rw[Hd,e1];rfl
  rw[lk,Hd]at e3;cases e4:ns[j]? with
  |none=>rw[e4]at e3;cases e3
  |some m=>
   rw[e4]at e3;have e5:(Sum.inl m:Key)=k:=Hg e3;subst e5;rcases ca (k:=Sum.inl m) (v:=v) e2 with⟨i,t,e6,e7⟩|⟨y,t,e6,e7⟩
   .injection e6 with e6;subst e6;exact⟨m,t,rfl,e7⟩
   .cases e6
 .refine⟨.ref D,upd H D (.lst (ms.map V.int)),I.laid kp le ⟨?_,out,c,iC hi,hD⟩,rfl,q ms D pm sr (I.hok.fresh le)⟩;rw[G8,pm.length_eq];omega
theorem uc(hc:X.calm=true):eK X (.type "list") (λxs H Q=>∃(a:Addr)(kvs:List (Key×V)),xs=[V.ref a]/\H a=some (.dK kvs)/\ ∀p,H p=none->Q (.ref p) (upd H p (.lst (kvs.map λkv=>kV kv.1)))):=by
 intro LX s σ H xs us Q I r h;obtain⟨a,kvs,rfl,ha,q⟩:=h;obtain⟨u,rfl,ru⟩:=gz r;cases ru;obtain⟨z,hs,vs,Mb,dd⟩:=gC I.hok ha;obtain⟨ep,da⟩:=dd.dictAt;have lk:vs.map (·.1)=kvs.map (·.1):=wm Mb;have lz:kvs.length=vs.length:=HC Mb;refine PySem.W.kdl_call (kdl_dict (knd:=ba X.prog X.w) (kvs:=vs) (ep:=ep) hs) (I.ok.hd hc) da (by omega) λg tk acc c kp hD Mj=>?_;refine⟨.ref s.heap.objs.size,upd H s.heap.objs.size (.lst (kvs.map λkv=>kV kv.1)),I.laid kp (Hu _) ⟨by rw[G8];exact z,acc.toList,c,?_,by rw[toArray_toList];exact hD⟩,rfl,q _ (I.hok.fresh (Hu _))⟩;refine i4 (by rw[HR,Mj.1,G8,lz]) λj v hj=>?_;obtain⟨k,x,e1,e2⟩:=Mj.2 j v (by rw[<-IZ];exact hj);have e3:(vs.map (·.1))[j]?=some k:=by rw[Hd,e1];rfl
 rw[lk,Hd]at e3;cases e4:kvs[j]? with
 |none=>rw[e4]at e3;cases e3
 |some kv=>
  rw[e4]at e3;have e5:kv.1=k:=Hg e3;refine⟨kV kv.1,by rw[Hd,e4];rfl,?_⟩;rw[e5];rcases ca (k:=k) (v:=v) e2 with⟨i,t,e6,e7⟩|⟨y,t,e6,e7⟩
  .subst e6;exact⟨t,e7⟩
  .subst e6;exact⟨t,e7⟩
end
def g7(xs:Array Nat):Prop:=∀i j:Nat,i<j->j<xs.size->xs.getD i 0<xs.getD j 0
theorem y6{xs:Array Nat}{i a b:Nat}(h:i<xs.size):xs.getD i a=xs.getD i b:=by simp[getD,h]
structure A9(xs:Array Nat)(j k:Nat):Prop where
 le:k<=xs.size
 lt:∀i,i<k->xs.getD i 0<j
 ge:∀i,k<=i->i<xs.size->j<=xs.getD i 0
theorem nR{xs:Array Nat}{j:Nat}(r:g7 xs):∀(f lo hi:Nat),hi-lo<=f->lo<=hi->hi<=xs.size->(∀i,i<lo->xs.getD i 0<j)->(∀i,hi<=i->i<xs.size->j<=xs.getD i 0)->A9 xs j (SetTable.below.go xs j f lo hi)
 |0,lo,hi,hf,hl,hh,h1,h2=>by
  have e:lo=hi:=by omega
  subst e;exact⟨hh,h1,h2⟩
 |f+1,lo,hi,hf,hl,hh,h1,h2=>by
  unfold SetTable.below.go;by_cases Mq:lo<hi
  .rw[Hc Mq];dsimp only;have hm:(lo+hi)/2<hi:=by omega
   have hm0:lo<=(lo+hi)/2:=by omega
   have es:xs.getD ((lo+hi)/2) j=xs.getD ((lo+hi)/2) 0:=y6 (by omega);rw[es];by_cases hc:xs.getD ((lo+hi)/2) 0<j
   .rw[Hc hc];refine nR r f _ _ (by omega) (by omega) hh (λi hi'=>?_) h2;by_cases e:i=(lo+hi)/2
    .subst e;exact hc
    .have:=r i ((lo+hi)/2) (by omega) (by omega);omega
   .rw[G9 hc];refine nR r f _ _ (by omega) (by omega) (by omega) h1 λi hi' hs=>?_;by_cases e:i=(lo+hi)/2
    .subst e;omega
    .have:=r ((lo+hi)/2) i (by omega) hs;omega
  .rw[G9 Mq];have e:lo=hi:=by omega
   subst e;exact⟨hh,h1,h2⟩
theorem nQ{xs:Array Nat}(r:g7 xs)(j:Nat):A9 xs j (SetTable.below xs j):=
 nR r xs.size 0 xs.size (by omega) (HJ _) (Hu _) (λi h=>by omega) λi h1 h2=>by omega
theorem xN(r:g7 xs)(h:i<xs.size):SetTable.below xs (xs.getD i 0+1)=i+1:=by
 have b:=nQ r (xs.getD i 0+1);have h1:i<SetTable.below xs (xs.getD i 0+1):=by apply Ii;intro q;have:=b.ge i (by omega) h;omega
 apply Ii;intro q;have h2:i+1<SetTable.below xs (xs.getD i 0+1):=by omega
 have h3:=b.lt (i+1) h2;have h4:=r i (i+1) (by omega) (by have:=b.le;omega);omega
theorem vN(r:g7 xs):SetTable.below xs 0=0:=by have b:=nQ r 0;apply Ii;intro q;have:=b.lt 0 (by omega);omega
theorem mX{xs:Array Nat}{p x i:Nat}(hp:p<=xs.size):(SetTable.insertAt xs p x).getD i 0=if i<p then xs.getD i 0 else if i=p then x else xs.getD (i-1) 0:=by
 have e:∀(ys:Array Nat)(k:Nat),ys.getD k 0=(ys.toList[k]?).getD 0:=λys k=>by rw[IZ,Array.getD_eq_getD_getElem?]
 rw[e,e,e,SetTable.toList_insertAt];have lt:(xs.toList.take p).length=p:=by rw[Iv,HR];omega
 by_cases h1:i<p
 .rw[Hc h1,J1 (by omega),Lo h1]
 .rw[G9 h1,JW (by omega),lt];by_cases h2:i=p
  .subst h2;simp
  .rw[G9 h2];obtain⟨k,hk⟩:∃k,i-p=k+1:=⟨i-p-1,by omega⟩;rw[hk,List.getElem?_cons_succ,List.getElem?_drop];have:p+k=i-1:=by omega
   rw[this]
theorem ve{α:Type}{xs:Array α}{p:Nat}{x:α}:(SetTable.insertAt xs p x).size=xs.size+1:=by have e:=(SetTable.insertAt_perm xs p x).length_eq;simpa using e
theorem uz{xs:Array Nat}{j:Nat}(r:g7 xs)(h:xs[SetTable.below xs j]?≠some j):g7 (SetTable.insertAt xs (SetTable.below xs j) j):=by
 have b:=nQ r j;intro i k hik hk;rw[ve]at hk;rw[mX b.le,mX b.le];have gt:∀q,SetTable.below xs j<=q->q<xs.size->j<xs.getD q 0:=λq h1 h2=>by
  have h3:=b.ge q h1 h2;by_cases e:q=SetTable.below xs j
  .have h4:xs.getD q 0≠j:=λe2=>h (by rw[<-e,J0 h2];congr 1;rw[<-e2];simp[getD,h2]);omega
  .have h4:=b.ge (SetTable.below xs j) (Hu _) (by omega);have h5:=r (SetTable.below xs j) q (by omega) h2;omega
 by_cases c1:i<SetTable.below xs j
 .rw[Hc c1];by_cases c2:k<SetTable.below xs j
  .rw[Hc c2];exact r i k hik (by have:=b.le;omega)
  .rw[G9 c2];by_cases c3:k=SetTable.below xs j
   .rw[Hc c3];exact b.lt i c1
   .rw[G9 c3];have h1:=b.lt i c1;have h2:=b.ge (k-1) (by omega) (by omega);omega
 .rw[G9 c1,G9 (show¬k<SetTable.below xs j by omega),G9 (show¬k=SetTable.below xs j by omega)];by_cases c3:i=SetTable.below xs j
  .rw[Hc c3];exact gt (k-1) (by omega) (by omega)
  .rw[G9 c3];exact r (i-1) (k-1) (by omega) (by omega)
theorem sY{l:List Nat}(h:l.Pairwise (·<·)):g7 l.toArray:=by
 intro i j hij hj;have hj':j<l.length:=by simpa using hj
 have e:∀k,k<l.length->(l.toArray).getD k 0=l[k]!:=λk hk=>by simp[getD,hk]
 rw[e i (by omega),e j hj',KQ l i (by omega),KQ l j hj'];exact List.pairwise_iff_getElem.mp h i j (by omega) hj' hij
theorem vg(n:Nat):g7 (Array.range n):=by
 have e:Array.range n=(List.range n).toArray:=by simp
 rw[e];exact sY LH
structure fI(t:SetTable):Prop where
 rise:g7 t.place
 nod:t.dummies= #[]
theorem yI{t:SetTable}{j:Nat}(h:t.slot j=.empty):t.place[SetTable.below t.place j]?≠some j:=by intro e;unfold SetTable.slot at h;dsimp only at h;rw[e]at h;simp at h
theorem zM{t:SetTable}(hd:t.dummies= #[])(j:Nat):t.slot j≠ .dummy:=by
 intro e;unfold SetTable.slot at e;dsimp only at e;have hh:SetTable.has t.dummies j=false:=by rw[hd];simp[SetTable.has]
 rw[hh]at e;split at e
 .cases e
 .simp at e
theorem oP{t:SetTable}(hd:t.dummies= #[]){OG:Nat->Int}{h:Int}:∀(f:Nat)(p:SetTable.Probe)(j:Nat)(d:Option Nat),p.dummy=none->SetTable.probe.go t OG h f p=some (.empty j d)->d=none/\t.slot j=.empty
 |0,p,j,d,_,e=>by simp[SetTable.probe.go]at e
 |f+1,p,j,d,hp,e=>by
  unfold SetTable.probe.go at e;cases hs:t.slot p.j with
  |empty=>rw[hs]at e;simp only[Option.some.injEq,SetTable.Met.empty.injEq]at e;obtain⟨rfl,rfl⟩:=e;exact⟨hp,hs⟩
  |dummy=>exact absurd hs (zM hd p.j)
  |live i=>
   rw[hs]at e;dsimp only at e;by_cases c:(OG i==h)=true
   .rw[Hc c]at e;simp at e
   .rw[G9 c]at e;refine oP hd f (t.advance p) j d ?_ e;unfold SetTable.advance;split<;>exact hp
theorem rY{t:SetTable}(hd:t.dummies= #[]){h:Int}{j:Nat}{b:Bool}(e:t.freeSlot h=some (j,b)):t.slot j=.empty:=by
 unfold SetTable.freeSlot at e;split at e
 .rename_i j' d hp;obtain⟨rfl,hs⟩:=oP hd _ _ j' d rfl hp;simp only[getD_none,Option.some.injEq,Prod.mk.injEq]at e;rw[<-e.1];exact hs
 .cases e
theorem g8(t:SetTable)(n:Nat):fI (t.standIn n):=⟨vg n,rfl⟩
theorem C5{t:SetTable}(ok:fI t){j:Nat}(h:t.slot j=.empty):fI (t.put j).1:=by
 refine⟨uz ok.rise (yI h),?_⟩;unfold SetTable.put;dsimp only;have hh:SetTable.has t.dummies j=false:=by rw[ok.nod];simp[SetTable.has]
 rw[hh];simp[ok.nod]
theorem uC(ok:fI t)(n:Nat):fI (t.orStandIn n):=by
 unfold SetTable.orStandIn;split
 .exact ok
 .exact g8 t n
theorem rH(t:SetTable)(n:Nat):(t.orStandIn n).led=t.led:=by unfold SetTable.orStandIn;split<;>rfl
theorem qI{t:SetTable}(ok:fI t)(es:Array (Int×Value))(h:Int)(x:Value):fI (layNew t es h x).2.1/\(layNew t es h x).2.1.led=t.led:=by
 unfold layNew;split
 .rename_i slot wd e;dsimp only;refine⟨uC (C5 ok (rY ok.nod e)) _,?_⟩;rw[rH];rfl
 .exact⟨g8 _ _,rfl⟩
theorem BO{mask finger moves:Nat}{led plain:Bool}{hs:Array Int}{t:SetTable}{o:Array Nat}(e:SetTable.laid mask finger moves led plain hs=some (t,o)):fI t/\t.led=led:=by
 unfold SetTable.laid at e;cases hl:SetTable.layClean mask hs with
 |none=>rw[hl]at e;cases e
 |some owner=>rw[hl]at e;have e':=Hg e;injection e' with e1 e2;subst e1;refine⟨⟨sY ?_,rfl⟩,rfl⟩;rw[IL];refine Pairwise.filterMap _ (λa a' Mq b hb b' MW=>?_) LH;obtain⟨x,hx,rfl⟩:=IQ.mp hb;obtain⟨y,hy,rfl⟩:=IQ.mp MW;exact Mq
theorem mP(t:SetTable)(es:Array (Int×Value))(n:Nat):fI (relayAll t es n).2.1/\(relayAll t es n).2.1.led=t.led:=by
 unfold relayAll;split
 .rename_i t' order e;dsimp only;split
  .exact BO e
  .exact⟨g8 _ _,rfl⟩
 .exact⟨g8 _ _,rfl⟩
abbrev SeT:=(Int×Value)×Int
structure CJ(prog:Program)(w:World)(q:SeT):Prop where
 hash:q.1.1=(intKind prog w).hash q.2
 val:∃t,q.1.2=.int q.2 t
abbrev bn(es:Array (Int×Value))(ep:Nat)(t:SetTable):Obj:={cls:=.type "set",dict:=none,data:=.set es ep t,slots:= #[]}
structure dI(prog:Program)(w:World)(es:Array (Int×Value))(t:SetTable)(Mp:List SeT):Prop where
 els:es.toList=Mp.map (·.1)
 each:∀q∈Mp,CJ prog w q
 nd:(Mp.map (·.2)).Nodup
 few:es.size<scanBound
 fits:t.fits es.size=true
 tab:fI t
 led:t.led=true\/w.params.followText "set-order"=true
def fe(prog:Program)(w:World)(h:Heap)(a:Addr)(ks:List Int):Prop:=∃es ep t Mp,h.get? a=some (bn es ep t)/\dI prog w es t Mp/\ks=Mp.map (·.2)
section
variable{prog:Program}{w:World}{A:Around}{E:Value->Shared->Prop}{s:Shared}{es:Array (Int×Value)}{t:SetTable}{Mp:List SeT}
theorem dI.elems(S:dI prog w es t Mp):ElemsOf (intKind prog w) es.toList:=by
 intro e he;rw[S.els]at he;obtain⟨q,hq,rfl⟩:=HA.mp he;obtain⟨t',e'⟩:=(S.each q hq).val;refine⟨⟨q.2,?_,(S.each q hq).hash⟩,?_⟩
 .rw[e'];exact intKind_is _ _ _ _
 .rw[e'];rfl
theorem dI.more(S:dI prog w es t Mp)(hk:k∉Mp.map (·.2))(hp:es'.toList.Perm (es.toList++[((intKind prog w).hash k,.int k u)]))(few:es.size+1<scanBound)(fits:t'.fits es'.size=true)(tab:fI t')(led:t'.led=t.led):∃Nj,dI prog w es' t' Nj/\(Nj.map (·.2)).Perm (Mp.map (·.2)++[k]):=by
 have e1:es.toList++[((intKind prog w).hash k,Value.int k u)]=(Mp++[((((intKind prog w).hash k,Value.int k u),k):SeT)]).map (λq:SeT=>q.1):=by rw[HL,S.els];rfl
 rw[e1]at hp;obtain⟨Nj,p',e'⟩:=ft (λq:SeT=>q.1) hp;have pk:(Nj.map (·.2)).Perm (Mp.map (·.2)++[k]):=by have:=p'.map (λq:SeT=>q.2);rwa[HL]at this
 refine⟨Nj,⟨e',λq hq=>?_,?_,?_,fits,tab,by rw[led];exact S.led⟩,pk⟩
 .rcases H_.mp (p'.mem_iff.mp hq)with m|m
  .exact S.each q m
  .rw[HH.mp m];exact⟨rfl,u,rfl⟩
 .rw[pk.nodup_iff];exact wc S.nd hk
 .have l1:=p'.length_eq;have l2:=HU length e';have l3:=HU length S.els;rw[HR,G8]at l2 l3;rw[Hx,IE]at l1;omega
theorem dI.same(S:dI prog w es t Mp)(hp:es'.toList.Perm es.toList)(fits:t'.fits es'.size=true)(tab:fI t')(led:t'.led=t.led):∃Nj,dI prog w es' t' Nj/\(Nj.map (·.2)).Perm (Mp.map (·.2)):=by rw[S.els]at hp;obtain⟨Nj,p',e'⟩:=ft (λq:SeT=>q.1) hp;have pk:=p'.map (λq:SeT=>q.2);refine⟨Nj,⟨e',λq hq=>S.each q (p'.mem_iff.mp hq),by rw[pk.nodup_iff];exact S.nd,?_,fits,tab,by rw[led];exact S.led⟩,pk⟩;have l1:=p'.length_eq;have l2:=HU length e';have l3:=HU length S.els;have l4:=S.few;rw[HR,G8]at l2 l3;omega
theorem dI.plain_off(S:dI prog w es t Mp):dI prog w es {t with plain:=false} Mp:=
 ⟨S.els,S.each,S.nd,S.few,SetTable.fits_plain_off S.fits,⟨S.tab.rise,S.tab.nod⟩,S.led⟩
theorem xT{h:Heap}{a:Addr}{ep:Nat}{es':Array (Int×Value)}{t':SetTable}(ho:h.get? a=some (bn es ep t)):(h.update a (Obj.putSet es' t')).get? a=some (bn es' (ep+1) t'):=by have:=J4 (Obj.putSet es' t') ho (by rw[putSet_of es' t' rfl];rfl);rw[putSet_of es' t' rfl]at this;exact this
theorem uj{g:Bool->Sem Unit}(hg:∀(b:Bool)(s₁:Shared)(Q':Unit->Shared->Prop),Q' () s₁->wpAny (model prog w) A (g b) Q' E s₁){a:Addr}{ep:Nat}(ho:s.heap.get? a=some (bn es ep t)){NA:Array (Int×Value)}{t2:SetTable}{trs1:List SeT} (S1:dI prog w NA t2 trs1) {wd:Bool} {R:Option Bool->Shared->Prop} (h:∀(g':Heap)(ks:List Int),Heap.SameBut a s.heap g'->fe prog w g' a ks->ks.Perm (trs1.map (·.2))->R (some true) {s with heap:=g'}):
  wpAny (model prog w) A (do
    storeSet a NA t2
    if(!wd&&t2.tooFull)=true then do
      g (relayAll t2 NA (SetTable.grown NA.size)).2.2
      storeSet a (relayAll t2 NA (SetTable.grown NA.size)).1 (relayAll t2 NA (SetTable.grown NA.size)).2.1
      pure (some true)
     else pure (some true)) R E s:=by
 have sb:=Jj s.heap a (Obj.putSet NA t2);have p1:=xT (es':=NA) (t':=t2) ho;refine G7 (wpAny_storeSet_of ho rfl ?_ (Km S1.few));split
 .obtain⟨trs2,S2,pk⟩:=S1.same (relayAll_perm t2 NA (SetTable.grown NA.size)) (relayAll_fits t2 NA (SetTable.grown NA.size)) (mP t2 NA (SetTable.grown NA.size)).1 (mP t2 NA (SetTable.grown NA.size)).2;refine G7 (hg _ _ _ (G7 (wpAny_storeSet_of p1 rfl (G_ ?_) (Km S2.few))));exact h _ (trs2.map (·.2)) (sb.trans (Jj _ a _)) ⟨_,_,_,trs2,xT p1,S2,rfl⟩ pk
 .exact G_ (h _ (trs1.map (·.2)) sb ⟨_,_,_,trs1,p1,S1,rfl⟩ (HS _))
def nn(ks:List Int)(k:Int):List Int:=if k∈ks then ks else ks++[k]
theorem zU(hS:fe prog w s.heap a ks)(room:ks.length+1<scanBound)(h:∀(g:Heap)(NJ:List Int)(b:Bool),Heap.SameBut a s.heap g->fe prog w g a NJ->NJ.Perm (nn ks k)->Q b {s with heap:=g}):wpAny (model prog w) A (setAddHashed a (.int k u) ((intKind prog w).hash k)) Q E s:=by
 obtain⟨es,ep,t,Mp,ho,S,rfl⟩:=hS;have lt:es.size=Mp.length:=by have l:=HU length S.els;rwa[HR,G8]at l
 rw[G8]at room;have isk:∀(q:SeT),q∈Mp->((intKind prog w).is k q.1.2=true↔k=q.2):=λq hq=>by obtain⟨t',e'⟩:=(S.each q hq).val;rw[KeyKind.is_eq_decide (knd:=intKind prog w) (k:=q.2) (by rw[e'];exact intKind_is _ _ _ _) k];exact Ht
 unfold setAddHashed setAddHashedIn;refine Jg (G7 (Jr ho rfl S.fits ?_));dsimp only;rw[byScan_of (knd:=intKind prog w) rfl S.few S.elems];simp only[↓reduceIte];unfold setAddByScan;refine G7 (G7 (JI (G7 (wpAny_setScan_of (knd:=intKind prog w) (intKind_is _ _ _ _) ho rfl S.fits S.elems ?_))));cases hr:List.findIdx? (λe=>(intKind prog w).is k e.2) es.toList with
 |some j=>
  dsimp only;obtain⟨hj,hpj,_⟩:=List.findIdx?_eq_some_iff_getElem.mp hr;have hm:k∈Mp.map (·.2):=by
   have me:es.toList[j]∈Mp.map (·.1):=by rw[<-S.els];exact List.getElem_mem hj
   obtain⟨q,hq,eq⟩:=HA.mp me;rw[<-eq]at hpj;exact HA.mpr ⟨q,hq,((isk q hq).mp hpj).symm⟩
  refine G_ (G_ ?_);exact h s.heap (Mp.map (·.2)) _ (Heap.SameBut.refl a s.heap) ⟨es,ep,t,Mp,ho,S,rfl⟩ (by unfold nn;rw[Hc hm])
 |none=>
  dsimp only;have hm:k∉Mp.map (·.2):=λm=>by
   obtain⟨q,hq,eq⟩:=HA.mp m;have me:q.1∈es.toList:=by rw[S.els];exact HA.mpr ⟨q,hq,rfl⟩
   have:=List.findIdx?_eq_none_iff.mp hr q.1 me;rw[(isk q hq).mpr eq.symm]at this;cases this
  have fin:∀(g:Heap)(NJ:List Int),Heap.SameBut a s.heap g->fe prog w g a NJ->NJ.Perm (Mp.map (·.2)++[k])->Q true {s with heap:=g}:=λg NJ sb OH hp=>h g NJ true sb OH (by unfold nn;rw[G9 hm];exact hp);have hgw:∀(b:Bool)(s₁:Shared)(Q':Unit->Shared->Prop),Q' () s₁->wpAny (model prog w) A (match b with|true=>rule "set.scan.the-table-gave-way"|false=>pure ()) Q' E s₁:=
   λb s₁ Q' hq=>by cases b<;>first|exact G_ hq|exact JI hq
  have hp0:=layNew_perm t es ((intKind prog w).hash k) (.int k u);rw[Array.toList_push]at hp0;obtain⟨tr1,S1,pk1⟩:=S.more hm hp0 (by omega) (layNew_fits t es ((intKind prog w).hash k) (.int k u)) (qI S.tab es _ _).1 (qI S.tab es _ _).2;generalize layNew t es ((intKind prog w).hash k) (.int k u)=L at S1⊢;obtain⟨NA,t1,wd,gave⟩:=L;dsimp only at S1⊢;refine G7 (hgw _ _ _ ?_);split
  .refine G7 ?_;rw[hashByValue_scannable 8 rfl];refine G_ ?_;refine uj (trs1:=tr1) ?_ ho ?_ ?_
   .intro b s₁ Q' hq;cases b<;>first|exact G_ hq|exact JI hq
   .split
    .exact S1
    .exact S1.plain_off
   .intro g NJ sb OH hp;dsimp only;exact G_ (fin g NJ sb OH (hp.trans pk1))
  .refine G7 (G_ ?_);simp only[↓reduceIte];refine uj (trs1:=tr1) ?_ ho S1 ?_
   .intro b s₁ Q' hq;cases b<;>first|exact G_ hq|exact JI hq
   .intro g NJ sb OH hp;dsimp only;exact G_ (fin g NJ sb OH (hp.trans pk1))
end
theorem fe.at_(S:fe prog w h a ks)(k:∀o,h.get? a=some o->h'.get? a=some o):fe prog w h' a ks:=by obtain⟨es,ep,t,Mp,ho,r⟩:=S;exact⟨es,ep,t,Mp,k _ ho,r⟩
theorem Ai:x∈nn ks k↔x∈ks\/k=x:=by
 unfold nn;split
 .constructor
  .exact .inl
  .rintro(h|rfl)<;>assumption
 .rw[H_,HH];exact⟨λh=>h.imp id Eq.symm,λh=>h.imp id Eq.symm⟩
theorem Al:(nn ks k).length<=ks.length+1:=by
 unfold nn;split
 .omega
 .rw[Hx,IE];omega
section
variable{prog:Program}{w:World}{A:Around}{R:Result->Shared->Prop}{I:Addr}{fp wr:List Addr}{G:Array GenState->Array GenState->Prop}{n:Nat}{P:Nat->Value->Prop}{St:Nat->Shared->Prop}
theorem zR(W:WalksS prog w A.in1 I fp wr G n P St)(S:Addr)(hSf:S∉fp)(val:Nat->Int)(hval:∀i v,P i v->∃t,v=.int (val i) t)(hb:n+1<scanBound):∀(k i:Nat)(s:Shared)(ks:List Int),n-i=k->i<=n->St i s->fe prog w s.heap S ks->ks.length<=i->(∀(s':Shared)(NJ:List Int),Moved (S::wr) G s s'->fe prog w s'.heap S NJ->NJ.length<=n->(∀x,x∈NJ↔x∈ks\/∃j,i<=j/\j<n/\val j=x)->R (.ok (.ret .none)) s')->codeAny (model prog w) A (.builtin "set.update.loop" ⟨[.ref S,.ref I],[]⟩) R s:=by
 have nw:S∉wr:=λh=>hSf (W.sub _ h);have sub:∀b∈wr,b∈S::wr:=λb h=>Hh _ h;intro k;induction k with
 |zero=>
  intro i s ks hk hi st hS hl hR;have e:i=n:=by omega
  subst e;refine I_ Kz ?_;rw[IN Ju _];show wpAny (model prog w) A.in1 (pyNext (.ref I)>>=_) _ _ s;refine G7 (W.done s _ _ st λs' hm=>?_);show wpAny (model prog w) A.in1 (ret Value.none) _ _ s';refine G_ (hR s' ks (hm.mono sub) (hS.at_ λo e=>hm.heap S _ nw e) hl λx=>?_);exact⟨.inl,λh=>h.elim id λ⟨j,h1,h2,_⟩=>absurd h1 (by omega)⟩
 |succ k ih=>
  intro i s ks hk hi st hS hl hR;have lt:i<n:=by omega
  refine I_ Kz ?_;rw[IN Ju _];show wpAny (model prog w) A.in1 (pyNext (.ref I)>>=_) _ _ s;refine G7 (W.item i s _ _ lt st λv s1 hP Og hm=>?_);obtain⟨t,rfl⟩:=hval i v hP;show wpAny (model prog w) A.in1 (holding [Value.int (val i) t] (setAdd S (.int (val i) t))>>=_) _ _ s1;refine G7 (Jg ?_);unfold setAdd;refine Jg (G7 ((intKind prog w).pyHash (k:=val i) (intKind_is _ _ _ _) ?_));refine zU (s:={s1 with toks:=s1.toks+1}) (hS.at_ λo e=>hm.heap S _ nw e) (by omega) λg ks1 b sb hS1 pm=>?_;have l1:ks1.length<=i+1:=by rw[pm.length_eq];exact Hv Al (by omega)
  refine G_ ⟨JT Ju _,ih (i+1) _ ks1 (by omega) lt (W.frame _ s1 _ _ Og (Lv _) λb hb o e=>?_) hS1 l1 λs2 ks2 hm2 hS2 l2 mem=>?_⟩
  .rw[sb.2 b (λq:b=S=>hSf (by rw[<-q];exact hb))];exact e
  .refine hR s2 ks2 (Moved.trans W.gtrans ((hm.mono sub).then_heap (Lv _) λb o hb e=>?_) hm2) hS2 l2 λx=>?_
   .rw[sb.2 b (λq:b=S=>hb (by rw[q];exact Hk))];exact e
   .rw[mem x,pm.mem_iff,Ai];constructor
    .rintro((h|h)|⟨j,h1,h2,h3⟩)
     .exact .inl h
     .exact .inr ⟨i,Hu _,lt,h⟩
     .exact .inr ⟨j,by omega,h2,h3⟩
    .rintro(h|⟨j,h1,h2,h3⟩)
     .exact .inl (.inl h)
     .by_cases e:j=i
      .subst e;exact .inl (.inr h3)
      .exact .inr ⟨j,by omega,h2,h3⟩
end
section
variable{prog:Program}{w:World}{A:Around}{E:Value->Shared->Prop}{s:Shared}
theorem Br(a:Value){Q₁:Value->Shared->Prop}(h:Q₁ (.ref s.heap.objs.size) {s with heap:=s.heap.push (bn #[] 0 (.fresh 0 0 (!w.params.followText "set-order")))}):codeAny (model prog w) A (.call (.builtin "set.__new__") ⟨[.type "set",a],[]⟩) (wants Q₁ E) s:=by
 refine codeAny_of_tree ?_;show wpAny (model prog w) A.in1 (do checkBuiltinCall "set.__new__" ⟨[.type "set",a],[]⟩;again (.builtin "set.__new__" ⟨[.type "set",a],[]⟩)) _ _ s;refine G7 (KS (PySem.F.newCall_set_1 a) (G_ ⟨JT plain_set_new _,I_ PySem.F.entry_set_new ?_⟩));rw[IN plain_set_new _];unfold Builtin.«set.__new__» Builtin.Frozenset.newClass;have ss:=sub_set_self;obtain⟨hp,g,d,tk,os⟩:=s;dsimp only
 wp_walk
 refine Ls (G_ ?_);dsimp only;simp only[newObj];refine G7 (wpAny_alloc (G_ (G_ ?_)));exact h
theorem zT{h:Heap}:fe prog w (h.push (bn #[] 0 (.fresh 0 0 (!w.params.followText "set-order")))) h.objs.size []:=by refine⟨#[],0,_,[],Hj _ rfl,⟨rfl,λq m=>by simp at m,List.nodup_nil,by decide,by rfl,⟨λi j hij hj=>absurd hj (by simp[SetTable.fresh]),rfl⟩,?_⟩,rfl⟩;show(!w.params.followText "set-order")=true\/w.params.followText "set-order"=true;cases w.params.followText "set-order"<;>simp
set_option maxHeartbeats 8000000 in
theorem vf{l:Addr}{items:Array Value}{ns:List Int}{Q:Value->Shared->Prop}(hh:A.handled=none)(hl:s.heap.IsList l items)(hi:IntsAre items.toList ns)(hb:items.size+1<scanBound)(h:∀(g:Heap)(tk:Nat)(ks:List Int),fe prog w g s.heap.objs.size ks->ks.length<=items.size->(∀x,x∈ks↔x∈ns)->(∀b o,s.heap.get? b=some o->g.get? b=some o)->Q (.ref s.heap.objs.size) {s with heap:=g,toks:=tk}):wpAny (model prog w) A (call (.type "set") [.ref l]) Q E s:=by
 obtain⟨mc,mt,hmro⟩:=JZ.mro;have hmade:=JZ.made;have MC:=JZ.sub;refine wpAny_call (codeAny_of_tree ?_);show wpAny (model prog w) _ (callAny (.type "set") _) _ _ _;refine G_ ⟨Code.quiet_builtin _ (by decide +kernel),I_ PySem.F.entry_type_call ?_⟩;rw[Around.under_plain (weight_type_call_type "set" [.ref l] []) rfl];have c1:=JZ.notType;have c2:=JZ.canCreate;have c3:=PySem.F.typeCall_set_1 (.ref l)
 repeat (any_goals (first|assumption|wp_step))
 refine Jb (Br (.ref l) (E:=E) (Q₁:=λobj s₁=>obj=.ref s.heap.objs.size/\s₁={s with heap:=s.heap.push (bn #[] 0 (.fresh 0 0 (!w.params.followText "set-order")))}) ⟨rfl,rfl⟩) λr s₁ hr=>?_;cases r with
 |error e=>exact hr
 |ok fl=>
  cases fl with
  |ret obj=>
   obtain⟨rfl,rfl⟩:=hr;have hS:(s.heap.push (bn #[] 0 (.fresh 0 0 (!w.params.followText "set-order")))).get? s.heap.objs.size=some (bn #[] 0 (.fresh 0 0 (!w.params.followText "set-order"))):=Hj _ rfl;have hT:Shared.TypeIs {s with heap:=s.heap.push (bn #[] 0 (.fresh 0 0 (!w.params.followText "set-order")))} (.ref s.heap.objs.size) "set":=⟨_,hS,rfl⟩;have i1:=JZ.init.lookup;have i2:=JZ.init.bind (.ref s.heap.objs.size)
   repeat (any_goals (first|assumption|wp_step))
   refine Jb (codeAny_call_builtin (R:=wants (λr s₂=>r=.none/\∃(g:Heap)(tk:Nat)(ks:List Int),s₂={s with heap:=g,toks:=tk}/\fe prog w g s.heap.objs.size ks/\ks.length<=items.size/\(∀x,x∈ks↔x∈ns)/\
     (∀b o,s.heap.get? b=some o->g.get? b=some o)) E) JZ.init.plain PySem.F.entry_set_init (check_set_init_1 hT ?_)) λr₂ s₂ hr₂=>?_
   .obtain⟨ol,hol,Of,nl,O7⟩:=hl;obtain⟨ocls,odict,odata,oslots⟩:=ol;simp only at Of O7;subst Of;subst O7;have hol':(s.heap.push (bn #[] 0 (.fresh 0 0 (!w.params.followText "set-order")))).get? l=some {cls:=.type "list",dict:=odict,data:=.seq items nl,slots:=oslots}:=Ha _ hol;have x1:=PySem.F.sub_list_set;have x2:=PySem.F.sub_list_frozenset;have x3:(Value.type "list"==Value.type "dict")=false:=by decide
    have Pr:(s.heap.push (bn #[] 0 (.fresh 0 0 (!w.params.followText "set-order")))).IsList l items:=⟨_,hol',rfl,nl,rfl⟩;unfold Builtin.«set.__init__» noKeywords Builtin.Frozenset.updateFrom;generalize hPI:pyIter=PI
    wp_walk
    subst hPI;refine Kk Pr (G7 (wpAny_runValue ?_));have lS:l<s.heap.objs.size:=HB hol;have hh3:A.in1.in1.in1.handled=none:=by simp[hh]
    have neI:l≠(s.heap.push (bn #[] 0 (.fresh 0 0 (!w.params.followText "set-order")))).objs.size:=by rw[Il];exact HW (JR lS)
    have nfp:s.heap.objs.size∉[(s.heap.push (bn #[] 0 (.fresh 0 0 (!w.params.followText "set-order")))).objs.size,l]:=by rw[Il];simp only[mem_cons,mem_singleton,List.not_mem_nil,or_false,not_or];exact⟨HW (IY _),Jt lS⟩
    have vl:∀(i:Nat)(v:Value),items[i]?=some v->∃t,v=.int ((λi=>ns.getD i 0) i) t:=λi v hv=>PyProof.Rows.IntsAre.int_at hi i v (by rw[IZ];exact hv);have ln:items.size=ns.length:=by rw[<-hi.length,HR]
    refine zR ((Walks.list hh3 _ l neI items).toS) s.heap.objs.size nfp (λi=>ns.getD i 0) vl hb (items.size-0) 0 _ [] (by omega) (HJ _) ⟨⟨_,Hj _ rfl,rfl,rfl⟩,(Pr.push _)⟩
     ((zT (prog:=prog) (w:=w) (h:=s.heap)).at_ λo e=>Ha _ e) (Hu _) λs' NJ hm OH L3 mem=>?_
    obtain⟨g,g',d',tk',os'⟩:=s';have eg:g'=s.gens:=hm.gens;have ed:d'=s.drawn:=hm.drawn;have eo:os'=s.os:=hm.os;subst eg;subst ed;subst eo;show wpAny (model prog w) _ _ _ _ _;refine G_ ?_;show wpAny (model prog w) _ (ret Value.none) _ _ _;refine G_ ⟨rfl,g,tk',NJ,rfl,OH,L3,λx=>?_,λb o e=>?_⟩
    .rw[mem x];constructor
     .rintro(q|⟨j,_,h2,rfl⟩)
      .simp at q
      .have hj:j<ns.length:=by omega
       show ns.getD j 0∈ns;rw[Iw,Hn hj];exact List.getElem_mem hj
     .intro q;obtain⟨j,hj,ej⟩:=List.getElem_of_mem q;refine .inr ⟨j,HJ _,by omega,?_⟩;show ns.getD j 0=x;rw[Iw,Hn hj];exact ej
    .have lb:=HB e;have n1:b≠s.heap.objs.size:=HW lb;have n2:b≠(s.heap.push (bn #[] 0 (.fresh 0 0 (!w.params.followText "set-order")))).objs.size:=by rw[Il];exact HW (JR lb)
     exact hm.heap b o (by simp only[mem_cons,mem_singleton,List.not_mem_nil,or_false,not_or];exact⟨n1,n2⟩) (Ha _ (Ha _ e))
   .cases r₂ with
    |error e=>exact hr₂
    |ok fl₂=>
     cases fl₂ with
     |ret r=>
      obtain⟨rfl,g,tk,ks,rfl,OH,L3,mem,ML⟩:=hr₂
      repeat (any_goals (first|assumption|wp_step))
      exact h g tk ks OH L3 mem ML
     |_=>exact hr₂.elim
  |_=>exact hr.elim
end
theorem h_:Slot "set_iterator" "__next__" "set_iterator.__next__":=
 .of (owner:="set_iterator") (n:="__next__") (by rw[typeLookup_type,builtinLookup_eq_fast];kernel_rfl) (by decide +kernel) (by decide +kernel) (by decide +kernel) (by first|exact .inl (by decide +kernel)|exact .inr (by decide +kernel)) (by rw[isSubtype_type];kernel_rfl)
theorem zQ:entryFor table "set_iterator.__next__"=some Builtin.«set_iterator.__next__»:=entryFor_of_tree (by kernel_rfl)
theorem sU:Manifest.owners.lookup (String.ofList ['r','o','t','a','r','e','t','i','_','t','e','s'].reverse)=some Manifest.sig_set_iterator:=by kernel_rfl
theorem Bq(a:Value):argsOk "set_iterator.__next__" ⟨[a],[]⟩:=by
 unfold argsOk;rw[signature?_of (id:="set_iterator.__next__") (n:=['_','_','t','x','e','n','_','_']) (o:=['r','o','t','a','r','e','t','i','_','t','e','s']) (by kernel_rfl) sU]
 kernel_rfl
theorem sV:Slot "set_iterator" "__iter__" "set_iterator.__iter__":=
 .of (owner:="set_iterator") (n:="__iter__") (by rw[typeLookup_type,builtinLookup_eq_fast];kernel_rfl) (by decide +kernel) (by decide +kernel) (by decide +kernel) (by first|exact .inl (by decide +kernel)|exact .inr (by decide +kernel)) (by rw[isSubtype_type];kernel_rfl)
theorem yJ:entryFor table "set_iterator.__iter__"=some Builtin.«dict_keyiterator.__iter__»:=
 entryFor_alias (id':="dict_keyiterator.__iter__") (by kernel_rfl) (by first|rfl|decide +kernel|(unfold String.splitOn;simp +decide [String.splitOnAux])) (by decide +kernel) (by kernel_rfl)
theorem zP(a:Value):argsOk "set_iterator.__iter__" ⟨[a],[]⟩:=by
 unfold argsOk;rw[signature?_of (id:="set_iterator.__iter__") (n:=['_','_','r','e','t','i','_','_']) (o:=['r','o','t','a','r','e','t','i','_','t','e','s']) (by kernel_rfl) sU]
 kernel_rfl
theorem yA:entryFor table "set.__iter__"=some Builtin.«frozenset.__iter__»:=
 entryFor_alias (id':="frozenset.__iter__") (by kernel_rfl) (by first|rfl|decide +kernel|(unfold String.splitOn;simp +decide [String.splitOnAux])) (by decide +kernel) (by kernel_rfl)
abbrev Eh(S:Addr)(first:Value)(i n ep:Nat):Obj:={cls:=.type "set_iterator",dict:=none,data:=.fields #[first,rawInt i,.ref S,rawInt n,rawInt ep],slots:= #[]}
abbrev cX(h:Heap)(I S:Addr)(first:Value)(i n ep:Nat):Prop:=h.get? I=some (Eh S first i n ep)
section
variable{prog:Program}{w:World}{A:Around}{E:Value->Shared->Prop}{s:Shared}{es:Array (Int×Value)}{t:SetTable}{ep:Nat}{I S T:Addr}
theorem Bo{i j sl:Nat}{x:Value}{Q:Value->Shared->Prop}(hi:cX s.heap I S (rawInt sl) i es.size ep)(hS:s.heap.get? S=some (bn es ep t))(hf:t.fits es.size=true)(hn:∀(A:Around)(E:Value->Shared->Prop)(Q:Option (Value×Nat)->Shared->Prop),Q (some (x,j)) s->wpAny (model prog w) A (setNext S sl i ep) Q E s)(h:∀g,cX g I S (rawInt j) (i+1) es.size ep->Heap.SameBut I s.heap g->Q x {s with heap:=g}):wpAny (model prog w) A (Builtin.«set_iterator.__next__» ⟨[.ref I],[]⟩) (λfin s'=>∃v,fin=.done (.ret v)/\Q v s') E s:=by
 unfold Builtin.«set_iterator.__next__»;refine G7 (m:=slotArgs "__next__" 0 _) (G_ (G7 (JP hi rfl ?_)));show wpAny (model prog w) A (setEntries S>>=_) _ _ s;refine G7 (JD hS rfl hf ?_);have c1:((es.size:Int) !=(es.size:Int))=false:=by simp
 simp only[c1,false_eq_true,if_false];show wpAny (model prog w) A (setNext S sl i ep>>=_) _ _ s;refine G7 (hn _ _ _ ?_);refine G7 (Ie hi (by simp) λg1 k1 s1=>?_);refine G7 (Ie k1 (by simp) λg2 k2 s2=>?_);refine G_ ⟨x,rfl,h g2 ?_ (s1.trans s2)⟩;exact k2
theorem C3{i sl:Nat}{Q:PySem.Fin->Shared->Prop}(hh:A.handled=none)(hi:cX s.heap I S (rawInt sl) i es.size ep)(hS:s.heap.get? S=some (bn es ep t))(hf:t.fits es.size=true)(hn:∀(A:Around)(E:Value->Shared->Prop)(Q:Option (Value×Nat)->Shared->Prop),Q none s->wpAny (model prog w) A (setNext S sl i ep) Q E s)(h:∀g e,ExtBut I s.heap g->(∃o,g.get? e=some o/\o.cls=.type "StopIteration")->E (.ref e) {s with heap:=g}):wpAny (model prog w) A (Builtin.«set_iterator.__next__» ⟨[.ref I],[]⟩) Q E s:=by
 unfold Builtin.«set_iterator.__next__»;refine G7 (m:=slotArgs "__next__" 0 _) (G_ (G7 (JP hi rfl ?_)));show wpAny (model prog w) A (setEntries S>>=_) _ _ s;refine G7 (JD hS rfl hf ?_);have c1:((es.size:Int) !=(es.size:Int))=false:=by simp
 simp only[c1,false_eq_true,if_false];show wpAny (model prog w) A (setNext S sl i ep>>=_) _ _ s;refine G7 (hn _ _ _ ?_);refine G7 (Ie hi (by simp) λg1 k1 s1=>?_);show wpAny (model prog w) A (newExc (.type "StopIteration") []>>=_) _ _ _;refine G7 ?_;simp only[newExc,newTuple];refine G7 (HX ?_ (by size_fits));refine G7 (m:=firstArgMember _ _) (KS (a:=Value.none) (by first|rfl|(simp only[firstArgMember];rfl)) (HX ?_ (by size_fits)));simp only[raiseNew];refine G7 (KZ ?_);rw[hh];refine G7 (G_ (LC (h _ _ ((s1.extBut.push _).push _) ⟨_,Hj _ rfl,rfl⟩)))
theorem zO{i p n:Nat}{c:Int}{x:Value}{ps:Array Value}{Q:Value->Shared->Prop}(hi:cX s.heap I S (.ref T) i es.size ep)(hS:s.heap.get? S=some (bn es ep t))(hf:t.fits es.size=true)(hT:s.heap.get? T=some {cls:=.type "tuple",data:=.seq ps n})(hp:ps[i]?=some (rawInt p)) (hx:es[p]?=some (c,x))(h:∀g,cX g I S (.ref T) (i+1) es.size ep->Heap.SameBut I s.heap g->Q x {s with heap:=g}):wpAny (model prog w) A (Builtin.«set_iterator.__next__» ⟨[.ref I],[]⟩) (λfin s'=>∃v,fin=.done (.ret v)/\Q v s') E s:=by
 unfold Builtin.«set_iterator.__next__»;refine G7 (m:=slotArgs "__next__" 0 _) (G_ (G7 (JP hi rfl ?_)));show wpAny (model prog w) A (setEntries S>>=_) _ _ s;refine G7 (JD hS rfl hf ?_);have c1:((es.size:Int) !=(es.size:Int))=false:=by simp
 simp only[c1,false_eq_true,if_false];show wpAny (model prog w) A (seqItems? (.ref T)>>=_) _ _ s;refine G7 (IP hT rfl ?_);simp only[toNat_natCast,hp,rawInt];refine G7 ?_;unfold setNextDrawn;refine G7 (Jr hS rfl hf ?_);have c2:(ep !=ep)=false:=by simp
 simp only[toNat_natCast,c2,false_eq_true,if_false,hx];refine G_ ?_;refine G7 (Ie hi (by simp) λg2 k2 s2=>G_ ⟨x,rfl,h g2 ?_ s2⟩);exact k2
theorem Bp(hh:A.handled=none)(hi:cX s.heap I S (.ref T) i es.size ep)(hS:s.heap.get? S=some (bn es ep t))(hf:t.fits es.size=true)(hT:s.heap.get? T=some {cls:=.type "tuple",data:=.seq ps n})(hp:ps[i]?=none) (h:∀g e,ExtBut I s.heap g->(∃o,g.get? e=some o/\o.cls=.type "StopIteration")->E (.ref e) {s with heap:=g}):wpAny (model prog w) A (Builtin.«set_iterator.__next__» ⟨[.ref I],[]⟩) Q E s:=by
 unfold Builtin.«set_iterator.__next__»;refine G7 (m:=slotArgs "__next__" 0 _) (G_ (G7 (JP hi rfl ?_)));show wpAny (model prog w) A (setEntries S>>=_) _ _ s;refine G7 (JD hS rfl hf ?_);have c1:((es.size:Int) !=(es.size:Int))=false:=by simp
 simp only[c1,false_eq_true,if_false];show wpAny (model prog w) A (seqItems? (.ref T)>>=_) _ _ s;refine G7 (IP hT rfl ?_);simp only[toNat_natCast,hp];refine G7 (Ie hi (by simp) λg1 k1 s1=>G7 (Ie k1 (by simp) λg2 k2 s2=>?_));show wpAny (model prog w) A (newExc (.type "StopIteration") []>>=_) _ _ _;refine G7 ?_;simp only[newExc,newTuple];refine G7 (HX ?_ (by size_fits));refine G7 (m:=firstArgMember _ _) (KS (a:=Value.none) (by first|rfl|(simp only[firstArgMember];rfl)) (HX ?_ (by size_fits)));simp only[raiseNew];refine G7 (KZ ?_);rw[hh];refine G7 (G_ (LC (h _ _ (((s1.trans s2).extBut.push _).push _) ⟨_,Hj _ rfl,rfl⟩)))
theorem iV(h:Q (w.params.followText "set-order") s):wpAny (model prog w) A setsByText Q E s:=by unfold setsByText;exact G7 (Ls (G_ h))
abbrev gQ(w:World)(S:Addr)(ep:Nat)(es:Array (Int×Value)):Array (Int×Value):=pickOrder (w.params.setOrder S ep) es
theorem qF(hb:w.params.followText "set-order"=true)(hS:s.heap.get? S=some (bn es ep t))(hf:t.fits es.size=true)(h:Q (((gQ w S ep es)[i]?).map λe=>(e.2,sl)) s):wpAny (model prog w) A (setNext S sl i ep) Q E s:=by
 unfold setNext;refine G7 (Jr hS rfl hf ?_);dsimp only;refine G7 (iV ?_);rw[hb];have c2:(ep !=ep)=false:=by simp
 simp only[if_true,c2,false_eq_true,if_false];refine G7 ?_;unfold setWalk;refine G7 (Jr hS rfl hf ?_);dsimp only;refine G7 (iV ?_);rw[hb];simp only[if_true];refine G7 (Ls (G_ (G_ ?_)));exact h
theorem oW(hb:w.params.followText "set-order"=false)(hS:s.heap.get? S=some (bn es ep t))(hf:t.fits es.size=true)(hd:(!t.plain&&decide (es.size>1))=false)(hl:t.led=true)
 (h:Q (match es[SetTable.below t.place sl]?,t.place[SetTable.below t.place sl]? with
 |some (_,x),some j=>some (x,j+1)
 |_,_=>none) s):wpAny (model prog w) A (setNext S sl i ep) Q E s:=by
 unfold setNext;refine G7 (Jr hS rfl hf ?_);dsimp only;refine G7 (iV ?_);rw[hb];simp only[false_eq_true,if_false];show wpAny (model prog w) A (if(!t.plain&&decide (es.size>1))=true then _ else _) _ _ s;rw[hd];simp only[false_eq_true,if_false];have c3:(!t.led&& !es.isEmpty)=false:=by rw[hl];rfl
 show wpAny (model prog w) A ((if(!t.led&& !es.isEmpty)=true then unsupported "set:maker-not-led"else pure ())>>=_) _ _ s;rw[c3];simp only[false_eq_true,if_false];refine G7 (G_ (G_ ?_));exact h
theorem AJ(hS:s.heap.get? S=some (bn es ep t))(hf:t.fits es.size=true)(h:Q (!w.params.followText "set-order"&&(!t.plain&&decide (es.size>1))) s):wpAny (model prog w) A (setDrawn S) Q E s:=by unfold setDrawn;refine G7 (Jr hS rfl hf ?_);dsimp only;refine G7 (iV (G_ ?_));exact h
theorem j7{α:Type}:∀(l:List α)(k:Nat)(h:k<l.length),(l[k]::l.eraseIdx k).Perm l
 |a::l,0,_=>HS _
 |a::l,k+1,h=>by have ih:=j7 l k (by simpa using h);exact(List.Perm.swap a _ _).trans (ih.cons a)
theorem lU{α:Type}:∀(n:Nat)(xs:List α)(s:Shared)(Q:List α->Shared->Prop),xs.length=n->(∀(ys:List α)(d:Drawn),ys.Perm xs->Q ys {s with drawn:=d})->wpAny (model prog w) A (drawOrder n xs) Q E s
 |0,xs,s,Q,hl,h=>by have e:xs=[]:=IF.mp hl;subst e;unfold drawOrder;exact G_ (h [] s.drawn (HS _))
 |n+1,[],s,Q,hl,h=>by simp at hl
 |n+1,x::xs,s,Q,hl,h=>by
  unfold drawOrder;refine G7 ?_;intro Γ p hΓ;show Sem.wp (model prog w) Γ (.choose .order (x::xs).length .pure) _ _ p s;rw[Sem.wp_choose];refine⟨by simp,?_⟩;generalize hk:(model prog w).w.draws .order (s.drawn.get .order)%(x::xs).length=k;have lk:k<(x::xs).length:=by rw[<-hk];exact Nat.mod_lt _ (by simp)
  rw[Sem.wp_pure]
  show wpAny (model prog w) A (match(x::xs)[k]? with
   |some y=>do return y::(<-drawOrder n ((x::xs).eraseIdx k))
   |none=>unsupported "internal:drawOrder") Q E _
  rw[Hn lk];dsimp only;refine G7 (lU n ((x::xs).eraseIdx k) _ _ (by rw[Le lk];omega) λys d pm=>G_ ?_);exact h _ d ((pm.cons _).trans (j7 _ _ lk))
theorem lN{α:Type}(f:Nat->Nat):∀(n k:Nat)(l:List α)(out:Array α),l.length=n->(pickOrder.go f n k l out).toList.Perm (out.toList++l)
 |0,k,l,out,hl=>by have e:l=[]:=IF.mp hl;subst e;unfold pickOrder.go;rw[IU]
 |n+1,k,l,out,hl=>by unfold pickOrder.go;have lk:f k%l.length<l.length:=Nat.mod_lt _ (by omega);rw[Hn lk];dsimp only;refine(lN f n (k+1) (l.eraseIdx (f k%l.length)) (out.push l[f k%l.length]) (by rw[Le lk];omega)).trans ?_;rw[Array.toList_push,Jz];exact List.Perm.append_left _ (j7 _ _ lk)
theorem qb{α:Type}(f:Nat->Nat)(xs:Array α):(pickOrder f xs).toList.Perm xs.toList:=by have:=lN f xs.size 0 xs.toList #[] (by simp);simpa[pickOrder]using this
theorem vX(hi:cX s.heap I S first i n ep)(h:Q (.ref I) s):wpAny (model prog w) A (pyIter (.ref I)) Q E s:=by have ty:s.TypeIs (.ref I) "set_iterator":=⟨_,hi,rfl⟩;refine Kl ty sV (Ih sV ty yJ ?_ (zP _));show wpAny (model prog w) _ (ret (.ref I)) _ _ s;exact G_ ⟨_,rfl,"set_iterator",_,ty,h_.lookup,h⟩
theorem mh{first x:Value}{i n:Nat}{Q:Option Value->Shared->Prop}(hi:cX s.heap I S first i n ep){C:Value->Shared->Prop} (hb:wpAny (model prog w) A.in1 (Builtin.«set_iterator.__next__» ⟨[.ref I],[]⟩) (λfin s'=>∃v,fin=.done (.ret v)/\Q (some v) s') (λe s'=>∃o a,e=.ref a/\s'.heap.get? a=some o/\o.cls=.type "StopIteration"/\Q none s') s):wpAny (model prog w) A (pyNext (.ref I)) Q E s:=by
 have ty:s.TypeIs (.ref I) "set_iterator":=⟨_,hi,rfl⟩;unfold pyNext;refine G7 (JU (IA (name:=Str.ofString "__next__") ty h_ (Ih h_ ty zQ ?_ (Bq _))));refine Iq hb (λfin s' h=>?_) λe s' h=>?_
 .obtain⟨v,rfl,q⟩:=h;exact⟨v,rfl,G_ q⟩
 .obtain⟨o,a,rfl,ho,co,q⟩:=h;exact G7 (Kt (T:="StopIteration") (b:=true) ⟨o,ho,co⟩ isSubtype_stop (G_ q))
theorem mL(hh:A.handled=none)(ne:S≠I)(hf:t.fits es.size=true)(L5:List Value)(hv:L5.length=es.size)(sl:Nat->Nat)(hi:∀(i:Nat)(x:Value),L5[i]?=some x->∀(A:Around)(E:Value->Shared->Prop)(s:Shared)(Q:Option (Value×Nat)->Shared->Prop),s.heap.get? S=some (bn es ep t)->Q (some (x,sl (i+1))) s->wpAny (model prog w) A (setNext S (sl i) i ep) Q E s)(he:∀(A:Around)(E:Value->Shared->Prop)(s:Shared)(Q:Option (Value×Nat)->Shared->Prop),s.heap.get? S=some (bn es ep t)->Q none s->wpAny (model prog w) A (setNext S (sl L5.length) L5.length ep) Q E s):Walks prog w A I [I,S] [I] L5.length (λi v=>L5[i]?=some v) (λi h=>cX h I S (rawInt (sl i)) i es.size ep/\h.get? S=some (bn es ep t))where
 sub:=λb hb=>by simp at hb;simp[hb]
 frame:=λi h h' st k=>⟨k I (by simp) _ st.1,k S (by simp) _ st.2⟩
 item:=λi s Q E Mq st hQ=>by
  have hx:L5[i]?=some L5[i]:=by simp[Mq]
  refine mh (x:=.none) (C:=λ_ _=>True) st.1 ?_;refine Bo st.1 st.2 hf (λA E Q q=>hi i L5[i] hx A E s Q st.2 q) λg hg sb=>?_;exact hQ L5[i] g s.toks hx ⟨hg,sb.extBut _ _ ne st.2⟩ λb o hb e=>sb.extBut _ _ (λq=>hb (by simp[q])) e
 done:=λs Q E st hQ=>by refine mh (x:=.none) (C:=λ_ _=>True) st.1 ?_;refine C3 (by simp[hh]) st.1 st.2 hf (λA E Q q=>he A E s Q st.2 q) λg e sb hx=>?_;obtain⟨o,ho,co⟩:=hx;exact⟨o,e,rfl,ho,co,hQ g s.toks λb o' hb q=>sb _ _ (λz=>hb (by simp[z])) q⟩
 self:=λi s Q E st h=>vX st.1 h
theorem uS(hh:A.handled=none)(neS:S≠I)(neT:T≠I)(hf:t.fits es.size=true)(L5:List Value)(ps:List Nat)(n0:Nat)(hv:L5.length=ps.length)(hi:∀(i:Nat)(x:Value),L5[i]?=some x->∃p c,ps[i]?=some p/\es[p]?=some (c,x)):Walks prog w A I [I,S,T] [I] L5.length (λi v=>L5[i]?=some v) (λi h=>cX h I S (.ref T) i es.size ep/\h.get? S=some (bn es ep t)/\h.get? T=some {cls:=.type "tuple",data:=.seq ((ps.map λ(i:Nat)=>rawInt i).toArray) n0})where
 sub:=λb hb=>by simp at hb;simp[hb]
 frame:=λi h h' st k=>⟨k I (by simp) _ st.1,k S (by simp) _ st.2.1,k T (by simp) _ st.2.2⟩
 item:=λi s Q E Mq st hQ=>by
  have hx:L5[i]?=some L5[i]:=by simp[Mq]
  obtain⟨p,c,hp,hc⟩:=hi i L5[i] hx;refine mh (x:=.none) (C:=λ_ _=>True) st.1 ?_;refine zO (p:=p) (c:=c) st.1 st.2.1 hf st.2.2 (by simp[hp]) hc λg hg sb=>?_;exact hQ L5[i] g s.toks hx ⟨hg,sb.extBut _ _ neS st.2.1,sb.extBut _ _ neT st.2.2⟩ λb o hb e=>sb.extBut _ _ (λq=>hb (by simp[q])) e
 done:=λs Q E st hQ=>by refine mh (x:=.none) (C:=λ_ _=>True) st.1 ?_;refine Bp (by simp[hh]) st.1 st.2.1 hf st.2.2 (by simp[hv]) λg e sb hx=>?_;obtain⟨o,ho,co⟩:=hx;exact⟨o,e,rfl,ho,co,hQ g s.toks λb o' hb q=>sb _ _ (λz=>hb (by simp[z])) q⟩
 self:=λi s Q E st h=>vX st.1 h
theorem dI.size(SA:dI prog w es t Mp):es.size=Mp.length:=by have l:=HU length SA.els;rwa[HR,G8]at l
theorem zS(hT:s.TypeIs (.ref S) "set")(h:Q false s):wpAny (model prog w) A (Builtin.List.listLengthHint (.ref S)) Q E s:=by
 unfold Builtin.List.listLengthHint;refine G7 (wpAny_specialOf hT PySem.F.slot_set_len.lookup ?_);generalize hid:("set.__len__":String)=nm
 wp_delta
 rw[show splitId nm=some ("set","__len__")from by subst hid;decide +kernel];subst hid;refine G7 (Kt (T:="set") (b:=true) hT (by rw[isSubtype_type];kernel_rfl) ?_);refine LR (λMP=>absurd MP (by decide)) (λ_=>LR (λ_=>?_) (λMP=>absurd (by decide +kernel) MP));exact G7 (wpAny_typeOf hT (G_ h))
def Cz(t:SetTable):Nat->Nat
 |0=>0
 |i+1=>t.place.getD i 0+1
theorem Ar(hS:s.heap.get? S=some (bn es ep t))(SA:dI prog w es t Mp)(h:∀(I:Addr)(g:Heap)(d:Drawn)(L5:List Value)(fp:List Addr)(St:Nat->Heap->Prop),L5.Perm (Mp.map (·.1.2))->(∀A:Around,A.handled=none->Walks prog w A I fp [I] L5.length (λi v=>L5[i]?=some v) St)->St 0 g->(∀b o,s.heap.get? b=some o->g.get? b=some o)->(∀b∈fp,b=S\/s.heap.objs.size<=b)->I∈fp->s.heap.objs.size<=I->I<g.objs.size->Q (.ref I) {s with heap:=g,drawn:=d}):wpAny (model prog w) A (pyIter (.ref S)) Q E s:=by
 have ty:s.TypeIs (.ref S) "set":=⟨_,hS,rfl⟩;have lS:S<s.heap.objs.size:=HB hS;have Nq:(es.toList.map (·.2))=Mp.map (·.1.2):=by rw[SA.els,HM];rfl
 refine Kl ty slot_set_iter (Ih slot_set_iter ty yA ?_ (PySem.F.args_set_iter_1 _));show wpAny (model prog w) _ (Builtin.Frozenset.sizeOf S>>=_) _ _ s;refine G7 ?_;unfold Builtin.Frozenset.sizeOf;refine G7 (JD hS rfl SA.fits (G_ ?_));refine G7 (AJ hS SA.fits ?_);cases hb:w.params.followText "set-order"with
 |true=>
  simp only[Bool.not_true,Bool.false_and,false_eq_true,if_false];refine G7 (G_ (G7 (Lg hS rfl SA.fits (G7 (HX (G_ ⟨_,rfl,"set_iterator",_,⟨_,Hj _ rfl,rfl⟩,h_.lookup,?_⟩) (by size_fits))))));have pt:=qb (w.params.setOrder S ep) es;have lt:((gQ w S ep es).toList.map (·.2)).length=es.size:=by rw[G8,pt.length_eq,HR]
  refine h s.heap.objs.size _ s.drawn ((gQ w S ep es).toList.map (·.2)) [s.heap.objs.size,S] _ (by rw[<-Nq];exact pt.map _)
   (λA hh=>mL (t:=t) (ep:=ep) hh (HW lS) SA.fits _ lt (λ_=>0) (λi x hx A E s' Q' h1 h2=>qF hb h1 SA.fits ?_) λA E s' Q' h1 h2=>qF hb h1 SA.fits ?_)
   ⟨Hj _ rfl,Ha _ hS⟩ (λb o e=>Ha _ e) (λb MW=>?_) (by simp) (Hu _) (by rw[Il];exact IY _)
  .rw[Hd,IZ]at hx;obtain⟨e,e1,e2⟩:=IQ.mp hx;rw[e1];rw[<-e2]at h2;exact h2
  .have en:(gQ w S ep es)[((gQ w S ep es).toList.map (·.2)).length]?=none:=by rw[G8];simp
   rw[en];exact h2
  .rcases Hi.mp MW with q|q
   .exact .inr (KD q.symm)
   .exact .inl (HH.mp q)
 |false=>
  have led:t.led=true:=SA.led.resolve_right (by rw[hb];exact Hm);cases hd:(!t.plain&&decide (es.size>1))with
  |false=>
   simp only[Bool.not_false,Bool.and_false,false_eq_true,if_false];refine G7 (G_ (G7 (Lg hS rfl SA.fits (G7 (HX (G_ ⟨_,rfl,"set_iterator",_,⟨_,Hj _ rfl,rfl⟩,h_.lookup,?_⟩) (by size_fits))))));have lt:(es.toList.map (·.2)).length=es.size:=by rw[G8,HR]
   have lp:t.place.size=es.size:=by have:=SA.fits;simp only[SetTable.fits,and_eq_true,beq_iff_eq]at this;exact this.1
   have bl:∀i,i<=es.size->SetTable.below t.place (Cz t i)=i:=λi hi=>by
    cases i with
    |zero=>exact vN SA.tab.rise
    |succ i=>exact xN SA.tab.rise (by omega)
   refine h s.heap.objs.size _ s.drawn (es.toList.map (·.2)) [s.heap.objs.size,S] _ (by rw[<-Nq])
    (λA hh=>mL (t:=t) (ep:=ep) hh (HW lS) SA.fits _ lt (Cz t) (λi x hx A E s' Q' h1 h2=>oW hb h1 SA.fits hd led ?_) λA E s' Q' h1 h2=>oW hb h1 SA.fits hd led ?_)
    ⟨Hj _ rfl,Ha _ hS⟩ (λb o e=>Ha _ e) (λb MW=>?_) (by simp) (Hu _) (by rw[Il];exact IY _)
   .rw[Hd,IZ]at hx;obtain⟨e,e1,e2⟩:=IQ.mp hx;have li:i<es.size:=(Lb.mp e1).1;have NS:t.place[i]?=some (t.place.getD i 0):=by rw[J0 (by omega)];simp[getD,show i<t.place.size by omega]
    rw[bl i (by omega),e1,NS];obtain⟨c,x'⟩:=e;have e3:x'=x:=e2;subst e3;exact h2
   .rw[lt,bl es.size (Hu _)];have en:es[es.size]?=none:=by simp
    rw[en];exact h2
   .rcases Hi.mp MW with q|q
    .exact .inr (KD q.symm)
    .exact .inl (HH.mp q)
  |true=>
   simp only[Bool.not_false,Bool.and_true,if_true];refine G7 (lU es.size (List.range es.size) s _ (by simp) λps d pm=>G7 (wpAny_newTuple ?_ ?_))
   .have hS1:(s.heap.push {cls:=.type "tuple",data:=.seq (ps.map λ(i:Nat)=>rawInt i).toArray}).get? S=some (bn es ep t):=Ha _ hS;refine G7 (Lg hS1 rfl SA.fits (G7 (HX (G_ ⟨_,rfl,"set_iterator",_,⟨_,Hj _ rfl,rfl⟩,h_.lookup,?_⟩) (by size_fits))));have z1:(s.heap.push {cls:=.type "tuple",data:=.seq (ps.map λ(i:Nat)=>rawInt i).toArray}).objs.size=s.heap.objs.size+1:=Il ..;have mem:∀p∈ps,p<es.size:=λp hp=>J5.mp (pm.mem_iff.mp hp);have ev:((List.range es.size).filterMap λp=>(es[p]?).map (·.2))=es.toList.map (·.2):=by have q:=filterMap_getElem?_range es;rw[<-q,List.map_filterMap]
    have fm:∀(l:List Nat),(∀p∈l,p<es.size)->∃vs:List Value,l.filterMap (λp=>(es[p]?).map (·.2))=vs/\vs.length=l.length/\∀(i:Nat)(x:Value),vs[i]?=some x->∃p c,l[i]?=some p/\es[p]?=some (c,x):=by
     intro l;induction l with
     |nil=>exact λ_=>⟨[],rfl,rfl,λi x q=>by simp at q⟩
     |cons p l ih=>
      intro hm;obtain⟨vs,e1,e2,e3⟩:=ih λq hq=>hm q (Hi.mpr (.inr hq));have hp:es[p]?=some es[p]!:=by have:=hm p (Hi.mpr (.inl rfl));rw[J0 this,KQ es p this]
      refine⟨es[p]!.2::vs,?_,by rw[Hr,Hr,e2],λi x q=>?_⟩
      .rw[Jv,hp];show es[p]!.2::_=_;rw[e1]
      .cases i with
       |zero=>have q':es[p]!.2=x:=Hg q;exact⟨p,es[p]!.1,rfl,by rw[hp,<-q']⟩
       |succ i=>exact e3 i x q
    obtain⟨vs,e1,e2,e3⟩:=fm ps mem;have nI:∀b,b<s.heap.objs.size+1->b≠(s.heap.push {cls:=.type "tuple",data:=.seq (ps.map λ(i:Nat)=>rawInt i).toArray}).objs.size:=λb MW=>by rw[z1];exact HW MW
    refine h _ _ d vs [(s.heap.push {cls:=.type "tuple",data:=.seq (ps.map λ(i:Nat)=>rawInt i).toArray}).objs.size,S,s.heap.objs.size] _ (by rw[<-Nq,<-ev,<-e1];exact pm.filterMap _)
     (λA hh=>uS (t:=t) (ep:=ep) hh (nI S (JR lS)) (nI s.heap.objs.size (IY _)) SA.fits vs ps 0 e2 e3) ⟨Hj _ rfl,Ha _ hS1,Ha _ (Hj _ rfl)⟩
     (λb o e=>Ha _ (Ha _ e)) (λb MW=>?_) (by simp) (by rw[z1];exact Lv _) (HB (Hj _ rfl))
    rcases Hi.mp MW with q|q
    .exact .inr (by rw[q,z1];exact Lv _)
    .rcases Hi.mp q with q|q
     .exact .inl q
     .exact .inr (KD (HH.mp q).symm)
   .rw[G8,pm.length_eq,Ic];exact Km SA.few
theorem vw{Mp:List SeT}(h:∀q∈Mp,CJ prog w q):IntsAre (Mp.map (·.1.2)) (Mp.map (·.2)):=by refine i8 (by rw[G8,G8]) λj v hj=>?_;rw[Hd]at hj;obtain⟨q,e1,e2⟩:=IQ.mp hj;obtain⟨t',e3⟩:=(h q (Hl e1)).val;exact⟨q.2,t',by rw[Hd,e1];rfl,by rw[<-e2];exact e3⟩
theorem yZ:∀{us vs:List Value}{ns:List Int},us.Perm vs->IntsAre vs ns->∃ms,IntsAre us ms/\ms.Perm ns:=by
 intro us vs ns p;induction p generalizing ns with
 |nil=>exact λh=>⟨ns,h,HS _⟩
 |cons x p ih=>
  intro h;cases h with
  |cons n t h'=>obtain⟨ms,h1,h2⟩:=ih h';exact⟨n::ms,.cons n t h1,h2.cons n⟩
 |swap x y l=>
  intro h;cases h with
  |cons n t h'=>
   cases h' with
   |cons m u N8=>exact⟨m::n::_,.cons m u (.cons n t N8),List.Perm.swap n m _⟩
 |trans p q ih1 ih2=>intro h;obtain⟨ms,h1,h2⟩:=ih2 h;obtain⟨ks,h3,h4⟩:=ih1 h1;exact⟨ks,h3,h4.trans h2⟩
theorem vJ{ks:List Int}{Q:List Value->Shared->Prop}(hh:A.handled=none)(hS:fe prog w s.heap S ks)(hQ:∀(g:Heap)(tk:Nat)(d:Drawn)(vs:List Value)(ms:List Int),(∀b o,s.heap.get? b=some o->g.get? b=some o)->s.heap.objs.size<g.objs.size->IntsAre vs ms->ms.Perm ks->Q vs {s with heap:=g,toks:=tk,drawn:=d}):wpAny (model prog w) A (collect (.ref S)) Q E s:=by
 obtain⟨es,ep,t,Mp,hO,SA,rfl⟩:=hS;have lS:S<s.heap.objs.size:=HB hO;have hn:Mp.length<=sizeLine:=by rw[<-SA.size];exact Km SA.few
 unfold collect;refine G7 (wpAny_runValue (I_ K8 ?_));rw[IN K9 _];show wpAny (model prog w) A.in1 (newList []>>=λl=>again (.builtin "list.__iadd__" ⟨[l,.ref S],[]⟩)) _ _ s;refine G7 (HX (G_ ⟨JT KL _,I_ Lw ?_⟩));rw[IN KL _];have e0:(s.heap.push {cls:=.type "list",data:=.seq ([]:List Value).toArray}).get? s.heap.objs.size=some {cls:=.type "list",data:=.seq ([]:List Value).toArray}:=Hj _ rfl;have o1:(s.heap.push {cls:=.type "list",data:=.seq ([]:List Value).toArray}).get? S=some (bn es ep t):=Ha _ hO;show wpAny (model prog w) A.in1 (Builtin.List.listExtendWith (.ref s.heap.objs.size) (.ref S) (.ref s.heap.objs.size)) _ _ _;unfold Builtin.List.listExtendWith;refine G7 (wpAny_typeOf (T:="set") ⟨_,o1,rfl⟩ ?_);have h1:Builtin.List.listSameRef (.ref s.heap.objs.size) (.ref S)=false:=by simp[Builtin.List.listSameRef,ne_of_gt lS]
 have h2:(Value.type "set"==Value.type "list")=false:=by decide
 have h3:(Value.type "set"==Value.type "tuple")=false:=by decide
 simp only[h1,h2,h3,Bool.or_false,false_eq_true,if_false];refine G7 (Ar (s:={s with heap:=s.heap.push {cls:=.type "list",data:=.seq ([]:List Value).toArray}}) o1 SA λI g d L5 fp St pv W st kp hfp mI le lt=>?_);have zp:(s.heap.push {cls:=.type "list",data:=.seq ([]:List Value).toArray}).objs.size=s.heap.objs.size+1:=Il ..;have le':s.heap.objs.size+1<=I:=by rw[<-zp];exact le
 have lv:L5.length=Mp.length:=by rw[pv.length_eq,G8]
 have nfp:s.heap.objs.size∉fp:=λm=>by
  rcases hfp _ m with q|q
  .exact absurd q (Jt lS)
  .have q':s.heap.objs.size+1<=s.heap.objs.size:=by rw[<-zp];exact q
   omega
 obtain⟨ms,im,pm⟩:=yZ pv (vw SA.each);have key:∀(h:Heap)(c tk:Nat),St 0 h->(∀b o,s.heap.get? b=some o->h.get? b=some o)->h.get? s.heap.objs.size=some {cls:=.type "list",data:=.seq #[] c}->
   codeAny (model prog w) A (.builtin "list.extend.loop" ⟨[.ref s.heap.objs.size,.ref I,.ref s.heap.objs.size],[]⟩) (λr' s'=>∃v,r'=.ok (.ret v)/\v=.ref s.heap.objs.size/\∃(g2:Heap)(tk2:Nat)(acc:Array Value)(c2:Nat),s'={s with heap:=g2,toks:=tk2,drawn:=d}/\
    (∀b o,s.heap.get? b=some o->g2.get? b=some o)/\g2.get? s.heap.objs.size=some {cls:=.type "list",dict:=none,data:=.seq acc c2,slots:= #[]}/\acc.toList=L5) {s with heap:=h,toks:=tk,drawn:=d}:=by
  intro h c tk st0 kp0 hl;refine codeAny_extend_loopS (W A.in1 hh).toS (by omega) _ nfp _ L5.length 0 _ #[] c rfl (HJ _) st0 hl (ItemsOf.nil _) λs' acc c' hm OH Mj=>?_;refine⟨_,rfl,rfl,s'.heap,s'.toks,acc,c',?_,λb o e=>?_,OH,?_⟩
  .rw[Moved.eq_with hm]
  .refine hm.heap b o (λMf=>?_) (kp0 b o e);have lb:=HB e;rcases Hi.mp Mf with q|q
   .exact HW lb q
   .exact HW (HY lb (Hv (Lv _) le')) (HH.mp q)
  .apply List.ext_getElem?;intro i;by_cases hi:i<L5.length
   .have ha:acc.toList[i]?=some acc.toList[i]!:=by
     have l:i<acc.toList.length:=by rw[HR,Mj.1];exact hi
     rw[Hn l,KQ acc.toList i l]
    rw[ha];exact(Mj.2 i _ (by rw[<-IZ];exact ha)).symm
   .rw[IH (by rw[HR,Mj.1];omega),IH (by omega)]
 have Pq:∀(v:Value)(s':Shared),(v=.ref s.heap.objs.size/\∃(g2:Heap)(tk2:Nat)(acc:Array Value)(c2:Nat),s'={s with heap:=g2,toks:=tk2,drawn:=d}/\(∀b o,s.heap.get? b=some o->g2.get? b=some o)/\
   g2.get? s.heap.objs.size=some {cls:=.type "list",dict:=none,data:=.seq acc c2,slots:= #[]}/\acc.toList=L5)->wpAny (model prog w) A (match v with
    | .ref a=>do
     match(<-load a).data with
     | .seq xs _=>pure xs.toList
     |_=>unsupported "internal:collect"
    |_=>unsupported "internal:collect") Q E s':=by
  rintro v s' ⟨rfl,g2,tk2,acc,c2,rfl,kp2,hl,ea⟩;refine G7 (wpAny_load hl (G_ ?_));show Q acc.toList _;rw[ea];exact hQ g2 tk2 d L5 ms kp2 (HB hl) im pm
 have oI:g.get? s.heap.objs.size=some {cls:=.type "list",data:=.seq ([]:List Value).toArray}:=kp _ _ e0;have oS:g.get? S=some (bn es ep t):=kp _ _ o1;have kps:∀b o,s.heap.get? b=some o->g.get? b=some o:=λb o e=>kp b o (Ha _ e)
 have OI:∀{r':Result}{s':Shared},(∃v,r'=.ok (.ret v)/\v=.ref s.heap.objs.size/\∃(g2:Heap)(tk2:Nat)(acc:Array Value)(c2:Nat),s'={s with heap:=g2,toks:=tk2,drawn:=d}/\(∀b o,s.heap.get? b=some o->g2.get? b=some o)/\
   g2.get? s.heap.objs.size=some {cls:=.type "list",dict:=none,data:=.seq acc c2,slots:= #[]}/\acc.toList=L5)->∃v,r'=.ok (.ret v)/\wpAny (model prog w) A (match v with
    | .ref a=>do
     match(<-load a).data with
     | .seq xs _=>pure xs.toList
     |_=>unsupported "internal:collect"
    |_=>unsupported "internal:collect") Q E s':=λ⟨v,e,q⟩=>⟨v,e,Pq v _ q⟩
 refine G7 (Jg (zS ⟨_,oS,rfl⟩ ?_));refine LR (λ_=>G7 (JI (G7 ?_))) λ_=>G_ ⟨JT Lk _,Jb (key g 0 s.toks st kps oI) λr' s' q=>?_⟩
 .show wpAny (model prog w) _ (updateSeq s.heap.objs.size (·.push .none)>>=λ_=>updateSeq s.heap.objs.size (·.pop)) _ _ _;have n1:=J4 (Obj.mapSeq (·.push Value.none)) oI rfl;have n2:=J4 (Obj.mapSeq (·.pop)) n1 rfl;refine G7 (wpAny_updateSeq oI rfl (wpAny_updateSeq (hz:=by seq_fits) n1 rfl (G_ ⟨JT Lk _,Jb (key _ _ s.toks ?_ ?_ n2) λr' s' q=>?_⟩)))
  .exact(W A.in1 hh).frame 0 _ _ st λb hb o e=>(Jk _ _ (λq:s.heap.objs.size=b=>nfp (by rw[q];exact hb))).trans ((Jk _ _ (λq:s.heap.objs.size=b=>nfp (by rw[q];exact hb))).trans e)
  .exact λb o e=>(Jk _ _ (Jt (HB e))).trans ((Jk _ _ (Jt (HB e))).trans (kps b o e))
  .obtain⟨v,e,q2⟩:=OI q;subst e;exact q2
 .obtain⟨v,e,q2⟩:=OI q;subst e;exact q2
end
section
variable{prog:Program}{w:World}{A:Around}{E:Value->Shared->Prop}{s:Shared}{S:Addr}
theorem xo(hh:A.handled=none)(hS:fe prog w s.heap S ks)(hn:ks.length<=4096)(hQ:∀(g:Heap)(tk:Nat)(d:Drawn)(D:Addr)(out:List Value)(ms:List Int)(c:Nat),(∀b o,s.heap.get? b=some o->g.get? b=some o)->s.heap.objs.size<=D->g.get? D=some (seqObj "list" out.toArray c)->IntsAre out ms->ms.Perm ks->ms.Pairwise (·<=·)->Q (.ref D) {s with heap:=g,toks:=tk,drawn:=d}):wpAny (model prog w) A (call (.builtin "sorted") [.ref S]) Q E s:=by
 have lz:ks.length<=sizeLine:=by rw[Kj];omega
 refine Calls.call_function_entry kind_sorted plain_sorted entry_sorted (args_sorted1 _) ?_;unfold Builtin.«sorted»;refine G7 (m:=checkCount "sorted" 1 1 _) (G_ (G7 (vJ (by simp[hh]) hS λg tk d vs ms kp lt hi pm=>?_)));have lv:vs.length=ks.length:=by rw[hi.length,pm.length_eq]
 refine G7 (K1 ?_ (by omega));have eD:(g.push (seqObj "list" vs.toArray 0)).get? g.objs.size=some (seqObj "list" vs.toArray 0):=Hj _ rfl;refine G7 (Jg (Ih slot_list_sort ⟨_,eD,rfl⟩ entry_list_sort (list_sort_treeAny eD hi (by omega) λout O5 h1 h2 h3=>⟨_,rfl,?_⟩) (args_list_sort _)));obtain⟨c,hc⟩:=sortedHeap_at (out:=out) eD;refine G_ ⟨_,rfl,hQ _ tk d g.objs.size out.toList O5 c (λb o e=>?_) (Js lt) (by rw[toArray_toList];exact hc) h1 (h2.trans pm) h3⟩;have lb:=HB e;have e2:=Ha (seqObj "list" vs.toArray 0) (kp b o e);exact(sortedHeap_old (HW (K3 lb lt)) (HB e2)).trans e2
end
def wO(P:Program)(w:World)(a:Addr)(ks:List Int):HO:=.ext λh=>fe P w h a ks
section
variable{X:Cx}{LX:List (Addr×Obj)}{σ:L2.St}{H:Hp}{s:Shared}
theorem yY(I:Inv X LX σ H s)(d:Drawn):Inv X LX σ H {s with drawn:=d}:=⟨I.ok,I.os,I.bare,I.base,I.loc,I.cell,I.free,I.freeC,I.pin,I.hok,I.len⟩
theorem q_:bootBuiltins "set"=some (.type "set"):=by decide +kernel
theorem wE(hc:X.calm=true):eK X (.type "set") (λxs H Q=>∃(a:Addr)(ns:List Int),xs=[V.ref a]/\SqL X.K H a (ns.map V.int)/\ns.length<=4000/\ ∀(p:Addr)(ks:List Int),H p=none->ks.Nodup->(∀x,x∈ks↔x∈ns)->ks.length<=4000->Q (.ref p) (upd H p (wO X.prog X.w p ks))):=by intro LX s σ H xs us Q I r h;obtain⟨a,ns,rfl,ha,hz,q⟩:=h;obtain⟨u,rfl,ru⟩:=gz r;cases ru;obtain⟨its,rv,pl,_⟩:=I.list ha;have hi:IntsAre its ns:=rv.ints;have li:its.length=ns.length:=hi.length;refine vf (I.ok.hd hc) pl.isList (by simpa using hi) (by rw[HP,li];show ns.length+1<4096;omega) λg tk ks hS hl mem kp=>?_;obtain⟨es,ep,t,Mp,hO,SA,rfl⟩:=id hS;refine⟨.ref s.heap.objs.size,upd H s.heap.objs.size (wO X.prog X.w s.heap.objs.size (Mp.map (·.2))),I.laid kp (Hu _) ⟨hS,⟨_,hO⟩,λh1 h2 e k=>fe.at_ e k⟩,rfl,q _ _ (I.hok.fresh (Hu _)) SA.nd mem ?_⟩;rw[HP,li]at hl;omega
theorem lV(hc:X.calm=true):eK X (.builtin "sorted") (λxs H Q=>∃(a:Addr)(ks:List Int),xs=[V.ref a]/\H a=some (wO X.prog X.w a ks)/\ks.length<=4000/\ ∀(ms:List Int)(p:Addr),ms.Perm ks->ms.Pairwise (·<=·)->H p=none->Q (.ref p) (upd H p (.lst (ms.map V.int)))):=by
 intro LX s σ H xs us Q I r h;obtain⟨a,ks,rfl,ha,hz,q⟩:=h;obtain⟨u,rfl,ru⟩:=gz r;cases ru;obtain⟨hS,_,_⟩:=I.hok a _ ha;refine xo (I.ok.hd hc) hS (by omega) λg tk d D out ms c kp le hD hi pm sr=>?_;have I2:Inv X LX σ (upd H D (.lst (ms.map V.int))) {s with heap:=g,toks:=tk}:=I.laid kp le ⟨?_,out,c,iC hi,hD⟩
 .exact⟨.ref D,upd H D (.lst (ms.map V.int)),yY I2 d,rfl,q ms D pm sr (I.hok.fresh le)⟩
 .rw[G8,pm.length_eq,Kj];omega
end
def Ee(td ty tx:TE):TE:=λσ H Q=>td σ H λx H1=>∃a,x=.ref a/\IsD H1 a/\ty σ H1 λy H2=>tx σ H2 λz H3=>∃kvs k,H3 a=some (.dK kvs)/\y=kV k/\
 (∀v,aQ kvs k=some v->Q v H3)/\(aQ kvs k=none->kvs.length<sizeLine/\Q z (upd H3 a (.dK (bG kvs k z))))
section
variable{X:Cx}{LX:List (Addr×Obj)}{σ:L2.St}{H:Hp}{s:Shared}{a:Addr}{kvs:List (Key×V)}{k:Key}{u r:Value}{z:V}{A:Around}{E:Value->Shared->Prop}
theorem AL(I:Inv X LX σ H s)(e:H a=some (.dK kvs))(ry:aR (kV k) u)(rz:aR z r)(h1:∀v w' s',aQ kvs k=some v->Inv X LX σ H s'->aR v w'->Q w' s') (h2:aQ kvs k=none->kvs.length<sizeLine/\∀s',Inv X LX σ (upd H a (.dK (bG kvs k z))) s'->Q r s'):wpAny (model X.prog X.w) A (call (.builtin "dict.setdefault") [.ref a,u,r]) Q E s:=by
 obtain⟨zz,hd,vs,Mb,dd⟩:=gC I.hok e;have hz:vs.length<=sizeLine:=by rw[<-Mb.length];exact zz
 refine Ky K4 dd.typeIs PySem.F.entry_dict_setdefault (PySem.F.args_dict_setdefault_3 _ _ _) (kt_meets_setdefault (ba X.prog X.w) a (fH ry) hd r) ⟨vs,dd,hz,λv hv=>?_,λhn h' Oz hs=>?_⟩
 .have q:=Mb.val k;rw[hv]at q;cases hk:aQ kvs k with
  |none=>rw[hk]at q;exact q.elim
  |some x=>rw[hk]at q;exact h1 x v _ hk (I.tok _) q
 .have q:=Mb.val k;rw[hn]at q;cases hk:aQ kvs k with
  |some x=>rw[hk]at q;exact q.elim
  |none=>
   obtain⟨l,h2⟩:=h2 hk;have hl:(bG kvs k z).length<=sizeLine:=by have:=fu kvs k z;omega
   have he:∃q,h'.get? a=some q:=let⟨q,_,_,hq,_⟩:=Oz;⟨q,hq⟩;exact h2 _ (mo I (by rw[e];exact True.intro) hs he (oB hl hd (Mb.put k rz) Oz))
end
section
variable{X:Cx}{o e f:Expr}{Mc L6:Pos}{td ty tx:TE}
theorem xq(ho:PE X o td)(he:PE X e ty)(hf:PE X f tx)(m:M2 X o "setdefault" Mc e f L6):PE X (.Call (.Attribute o "setdefault" Mc) [e,f] [] L6) (Ee td ty tx):=by
 intro LX s σ H Q I h;refine Ja m.base m.few m.line Jn K4 PySem.F.type_dict_setdefault (thn (ho LX s σ H _ I h) λu s1 ⟨x,H1,I1,rx,a,ex,d,q1⟩=>?_);subst ex;obtain rfl:u=Value.ref a:=rx;obtain⟨t1,t2,_⟩:=oy I1 d;refine⟨t1,t2,?_⟩;rw[m.trees]
 refine Jp rfl (Jx (II (thn (he LX s1 σ H1 _ I1 q1) λiv s2 ⟨y,H2,I2,ry,q2⟩=>
  II (thn (hf LX s2 σ H2 _ I2 q2) λfv s3 ⟨z,H3,I3,rz,kvs,k,ea,ey,q3,q4⟩=>JO ?_))))
 subst ey;exact AL I3 ea ry rz (λv w' s4 hv I4 r4=>⟨v,H3,I4,r4,q3 v hv⟩) λhn=>⟨(q4 hn).1,λs4 I4=>⟨z,_,I4,rz,(q4 hn).2⟩⟩
end
def wV(H:Hp)(row:List Int)(u:Value):Bool:=match u with
 | .ref a=>(match H a with
  |some (.lst xs)=>decide (xs=row.map V.int)
  |_=>false)
 |_=>false
theorem vp{a b:List Int}:a.map V.int=b.map V.int↔a=b:=by
 constructor
 .intro h;induction a generalizing b with
  |nil=>cases b with
   |nil=>rfl
   |cons y b=>simp at h
  |cons x a ih=>cases b with
   |nil=>simp at h
   |cons y b=>rw[Hf,Hf]at h;injection h with h1 h2;injection h1 with h1;rw[h1,ih h2]
 .rintro rfl;rfl
theorem i_:∀(a b:List Int),PyData.eqvAll (a.map PyData.int) (b.map PyData.int)=decide (a=b)
 |[],[]=>rfl
 |[],y::b=>by simp[PyData.eqvAll]
 |x::a,[]=>by simp[PyData.eqvAll]
 |x::a,y::b=>by rw[Hf,Hf];simp only[PyData.eqvAll,PyData.eqv,i_ a b];by_cases h1:x=y<;>by_cases h2:a=b<;>simp[h1,h2]
theorem jc:∀a:List Int,PyData.canLay0 (.list (a.map PyData.int))=true:=by
 intro a;induction a with
 |nil=>rfl
 |cons x a ih=>
  rw[Hf];simp only[PyData.canLay0,PyData.canLayAll0,Bool.true_and]at ih⊢
  first|exact ih|simpa using ih
theorem o7:∀a:List Int,PyData.depth (.list (a.map PyData.int))<=1:=by
 intro a;have h:∀a:List Int,PyData.depthAll (a.map PyData.int)=0:=by
  intro a;induction a with
  |nil=>rfl
  |cons x a ih=>rw[Hf];simp[PyData.depthAll,PyData.depth,ih]
 simp[PyData.depth,h a]
inductive zn(H:Hp)(x:V)(xs:List V)(Q:VK):Prop|mk(a:Addr)(rs:List Addr)(rows:List (List Int))(y:Addr)(row:List Int)(j:Nat)(_:x=V.ref a)(_:xs=[V.ref y])(_:H a=some (.lst (rs.map V.ref)))(_:Paired (λr row=>H r=some (.lst (row.map V.int))) rs rows)(_:H y=some (.lst (row.map V.int)))(_:rows[j]?=some row)(_:(∀m,m<j->rows[m]?≠some row))(_:Q (.int (j:Nat)) H)
def By:V->List V->Hp->VK->Prop:=λx xs H Q=>zn H x xs Q
theorem pS(K:LS)(H:Hp):∀(a:List Int),DpAll K H (a.map V.int) (a.map PyData.int)
 |[]=>.nil
 |x::a=>.cons (.int x) (pS K H a)
theorem dA{α β:Type}{F:α->β->Prop}{l:List α}{m:List β}{i:Nat}{b:β}(p:Paired F l m)(h:m[i]?=some b):∃a,l[i]?=some a/\F a b:=by
 induction p generalizing i with
 |nil=>simp at h
 |cons r t ih=>
  cases i with
  |zero=>cases h;exact⟨_,rfl,r⟩
  |succ i=>exact ih h
theorem gg{α β:Type}{F:α->β->Prop}{l:List α}{m:List β}{i:Nat}{a:α}(p:Paired F l m)(h:l[i]?=some a):∃b,m[i]?=some b/\F a b:=by
 induction p generalizing i with
 |nil=>simp at h
 |cons r t ih=>
  cases i with
  |zero=>cases h;exact⟨_,rfl,r⟩
  |succ i=>exact ih h
section
variable{X:Cx}
theorem qt{LX:List (Addr×Obj)}{σ:L2.St}{H:Hp}{s:Shared}(I:Inv X LX σ H s){a:Addr}{row:List Int}(h:H a=some (.lst (row.map V.int))):∃as,Reads s.heap (.ref a) (.list (row.map PyData.int)) as:=
 Dp.reads I (.list (row.map PyData.int)) (.ref a) (.ref a) (.lst (SqL.of h) (pS X.K H row)) rfl
theorem yQ(hu:X.A.units+64<cLine):MtR X "list.index" By:=by
 intro LX s σ H x xs v us Q I rx rxs h;obtain⟨a,rs,rows,y,row,j,rfl,rfl,ha,pr,hy,hj,Mi,q⟩:=h;cases rx;obtain⟨uy,rfl,ry⟩:=rxs.one;cases ry;obtain⟨its,rv,⟨⟨cls,dd,data,sl⟩,n,ho,hc,M9,hd⟩,L3⟩:=I.list (SqL.of (K:=X.K) ha);simp only at hc hd;subst hc hd;have eits:its=rs.map Value.ref:=pM rv;subst eits;obtain⟨r,hr,MJ⟩:=dA pr hj;obtain⟨hjl,hje⟩:=HQ.mp hr;have hjs:j<(rs.map Value.ref).toArray.size:=by simpa using hjl
 have hsl:=Kj;have hlrs:rs.length<=sizeLine:=by have z:=(I.hok a _ ha).1;rwa[G8]at z
 have eqr:∀r' M_,H r'=some (.lst (M_.map V.int))->wV H row (.ref r')=decide (M_=row):=λr' M_ h'=>by unfold wV;dsimp only;rw[h'];dsimp only;exact JK.mpr vp
 refine call_meets LA ⟨_,ho,rfl⟩ PySem.F.entry_list_index (PySem.F.args_list_index_2 _ _)
  (SeqAt.list_indexAt a (rs.map Value.ref).toArray n dd sl (.ref y) (wV H row) j hjs (by omega) ?_ ?_) ⟨ho,λu' hu'=>?_,?_⟩
 .have e1:(rs.map Value.ref).toArray[j]=.ref r:=by simp[hje]
  rw[e1,eqr r row MJ];simp
 .intro m hm hmj;have hml:m<rs.length:=by simpa using hm
  have hrm:rs[m]?=some rs[m]:=Hn hml;obtain⟨M_,hrow',hh⟩:=gg pr hrm;have e1:(rs.map Value.ref).toArray[m]=.ref rs[m]:=by simp
  rw[e1,eqr _ M_ hh];have ne:M_≠row:=λe=>Mi m hmj (by rw[hrow',e]);simp[ne]
 .have hm:u'∈rs.map Value.ref:=by simpa using hu'
  obtain⟨r',Oh,rfl⟩:=HA.mp hm;obtain⟨i,hi,hri⟩:=List.getElem_of_mem Oh;have hrm:rs[i]?=some r':=by rw[Hn hi,hri]
  obtain⟨M_,hrow',hh⟩:=gg pr hrm;obtain⟨as,r1⟩:=qt I hh;obtain⟨bs,r2⟩:=qt I hy;rw[eqr _ M_ hh,<-i_];have d1:=o7 M_;refine SeqAt.eqAt_reads (.list (M_.map PyData.int)) (.list (row.map PyData.int)) _ _ _ _ as bs r1 r2 (jc _) (jc _) ?_;have hin:X.A.in1.units=X.A.units+1:=rfl;omega
 .exact⟨.int (j:Nat),H,I.tok _,⟨_,rfl⟩,q⟩
inductive AU(K:LS)(H:Hp)(x:V)(xs:List V)(Q:VK):Prop|mk(a:Addr)(ys:List V)(y:V)(_:x=V.ref a)(_:xs=[y])(_:SqL K H a ys)(_:eJ y=true)(_:ys.all eJ=true)(_:Q (.int (ys.countP λz=>eqV z y:Nat)) H)
def oj(K:LS):V->List V->Hp->VK->Prop:=λx xs H Q=>AU K H x xs Q
theorem qX:∀{xs:List V}{us:List Value},aC xs us->xs.all eJ=true->us.countP (eqU x)=xs.countP λy=>eqV y x
 |[],_,.nil,_=>rfl
 |y::xs,_,.cons r t,f=>by rw[Ji,Hq]at f;rw[List.countP_cons,List.countP_cons,sM r f.1,qX t f.2]
theorem kU:MtR X "list.count" (oj X.K):=by
 intro LX s σ H x xs v us Q I rx rxs h;obtain⟨a,ys,y,rfl,rfl,hs,fy,fys,q⟩:=h;cases rx;obtain⟨uy,rfl,ry⟩:=rxs.one;obtain⟨its,rv,⟨⟨cls,dd,data,sl⟩,n,ho,hc,M9,hd⟩,L3⟩:=I.list hs;simp only at hc hd;subst hc hd;refine call_meets KN ⟨_,ho,rfl⟩ PySem.F.entry_list_count (PySem.F.args_list_count_2 _ _)
  (SeqAt.list_countAt a its.toArray n dd sl uy (eqU y)) ⟨ho,λu' hu'=>jP ry fy rv fys u' (by simpa using hu'),?_⟩
 refine⟨.int (ys.countP λz=>eqV z y:Nat),H,I.tok _,⟨s.toks,?_⟩,q⟩;rw[<-qX rv fys]
def pI(ps:List (Int×Int)):List (Key×V):=ps.map λp=>(Sum.inl p.1,V.int p.2)
def iL(qs:List (Int×Int)):List (Int×Int)->Bool
 |[]=>true
 |p::r=>match qs.lookup p.1 with
  |none=>false
  |some y=>decide (p.2=y)&&iL qs r
theorem A_(qs:List (Int×Int))(k:Int):aQ (pI qs) (Sum.inl k)=(qs.lookup k).map V.int:=by
 induction qs with
 |nil=>rfl
 |cons p r ih=>
  obtain⟨a,b⟩:=p;unfold pI at ih⊢;rw[Hf,JF];by_cases h:k=a
  .subst h;simp[aQ]
  .have h':(k==a)=false:=by simpa using h
   rw[h'];have:(Sum.inl a:Key)≠Sum.inl k:=λe=>h (by injection e with e;exact e.symm);simp only[aQ]at ih⊢;rw[Jc];simp only[this,decide_false]
   first|exact ih|simpa using ih
theorem tN(rb:KV (pI qs) vb):∀{ps:List (Int×Int)}{va:List (Key×Value)},KV (pI ps) va->PySem.W.KeqHits A s vb va (iL qs ps)
 |[],_,.nil=>.nil
 |p::r,_,.cons (b:=q) h t=>by
  obtain⟨k,v⟩:=q;obtain⟨h1,h2⟩:=h;dsimp only at h1 h2;subst h1;have ih:=tN (A:=A) (s:=s) rb (ps:=r) t;have rv:=rb.val (Sum.inl p.1);rw[A_]at rv;unfold iL;cases hl:qs.lookup p.1 with
  |none=>
   rw[hl]at rv;refine .miss ?_;cases hv:valueAt vb (Sum.inl p.1)with
   |none=>rfl
   |some z=>rw[hv]at rv;exact rv.elim
  |some y=>
   rw[hl]at rv;cases hv:valueAt vb (Sum.inl p.1)with
   |none=>rw[hv]at rv;exact rv.elim
   |some z=>rw[hv]at rv;have rz:aR (.int y) z:=rv;have e:=yh (A:=A) (s:=s) h2 rz rfl rfl;have e':eqV (.int p.2) (.int y)=decide (p.2=y):=HD.mpr (by simp[eqV]);rw[e']at e;exact .hit hv e ih
theorem BH(hu:X.A.units+1<cLine):OpR X (compareOp .NotEq) (λx y H Q=>∃a b ps qs,x=V.ref a/\y=V.ref b/\H a=some (.dK (pI ps))/\H b=some (.dK (pI qs))/\Q (.bl (!(ps.length==qs.length&&iL qs ps))) H):=by
 intro LX s σ H x y v u Q I rx ry h;obtain⟨a,b,ps,qs,rfl,rfl,ha,hb,q⟩:=h;cases rx;cases ry;obtain⟨_,sa,va,ra,da⟩:=gC I.hok ha;obtain⟨_,sb,vb,rb,db⟩:=gC I.hok hb;have la:ps.length=va.length:=by have:=ra.length;rwa[pI,G8]at this
 have lb:qs.length=vb.length:=by have:=rb.length;rwa[pI,G8]at this
 refine PySem.W.keq_ne sa sb da db (by omega) (λ_=>tN rb ra) ⟨.bl _,H,I,rfl,?_⟩;rw[<-la,<-lb];exact q
def VwE(v d:Addr):HO:=.ext λh=>h.IsValuesView v d
inductive Cg(H1:Hp)(x:V)(Q:VK):Prop|mk(d:_)(kvs:_)(_:x=.ref d)(_:H1 d=some (.dK kvs))(_:∀p,H1 p=none->Q (.ref p) (upd H1 p (VwE p d)))
def Ea(td:TE):TE:=λσ H Q=>td σ H λx H1=>Cg H1 x Q
theorem BE(he:PE X e td)(M7:attributeBase e "values" X.env (eval e X.env)=eval e X.env:=by rfl)(M8:(Mc.endLine==L6.line)=true:=by rfl):PE X (.Call (.Attribute e "values" Mc) [] [] L6) (Ea td):=by
 intro LX s σ H Q I h;refine Ja (T:="dict") (id:="dict.values") M7 rfl M8 Jn Kb F.type_dict_values (thn (he LX s σ H _ I h) λu s1 ⟨x,H1,I1,rx,d,kvs,ex,hd,q⟩=>?_);subst ex;obtain rfl:u=Value.ref d:=rx;obtain⟨_,hs,vs,Mb,dd⟩:=gC I1.hok hd;refine⟨dd.typeIs,dd.mapOf.noDict,?_⟩;have fr:H1 s1.heap.objs.size=none:=I1.hok.fresh (Hu _);have I2:Inv X LX σ (upd H1 s1.heap.objs.size (VwE s1.heap.objs.size d)) {s1 with heap:=s1.heap.push {cls:=.type "dict_values",data:=.fields #[.ref d]},toks:=s1.toks}:=
  I1.laid (λb ob q=>Ha _ q) (Hu _) ⟨⟨_,Hj _ rfl,rfl,rfl⟩,⟨_,Hj _ rfl⟩,λh1 h2 ⟨o,ho,e⟩ k=>⟨o,k _ ho,e⟩⟩
 show wpAny _ _ (callWith L6 (.builtin "dict.values") [.ref d] [] []) _ X.xe s1;exact method_meetsIn Kb F.entry_dict_values rfl (Kx ⟨rfl,dd.typeIs,F.args_dict_values_1 _,_,meets_dict_values (ba X.prog X.w) d hs,⟨vs,dd⟩,⟨.ref s1.heap.objs.size,_,I2,rfl,q _ fr⟩⟩)
theorem vd{LX:List (Addr×Obj)}{σ:L2.St}{H:Hp}{s:Shared}{A:Around}{E:Value->Shared->Prop}{l d q:Addr}{kvs:List (Key×V)}{ks:List (Int×Int)}{Q:Value->Shared->Prop}(I:Inv X LX σ H s)(hh:A.in1.handled=none)(hv:H l=some (VwE l d))(hd:H d=some (.dK kvs))(hl:ks.length=kvs.length)(hz:kvs.length<=1000)(turn:∀(i:Nat)(x:V)(v:Value)(k:Int×Int)(H':Hp)(s':Shared),(kvs.map (·.2))[i]?=some x->aR x v->ks[i]?=some k->Inv X LX σ H' s'->ak H H'->wpAny (model X.prog X.w) A.in1.in1 (call (.ref q) [v]) (λu O4=>∃p M0,u=.ref p/\Inv X LX σ M0 O4/\ak H' M0/\M0 p=some (.tup (kpV k))) (λ_ _=>False) s')(h:∀(s':Shared)(H':Hp)(D:Addr)(ts:List (V×(Int×Int))),Inv X LX σ H' s'->ak H H'->H D=none->H' D=some (.lst (ts.map (·.1)))->ts.Perm ((kvs.map (·.2)).zip ks)->ts.Pairwise (λa b=>jz a.2 b.2)->Q (.ref D) s'):wpAny (model X.prog X.w) A (call (.builtin "sorted") [.ref l] [(Str.ofString "key",.ref q)]) Q E s:=by
 obtain⟨_,hs,vs,Mb,dd⟩:=gC I.hok hd;obtain⟨ep,da⟩:=dd.dictAt;have hvw:s.heap.IsValuesView l d:=(I.hok l _ hv).1;have lz:kvs.length=vs.length:=HC Mb;have l1000:=aG (n:=1000) (Hu _);refine call_function_entry_kw kind_sorted plain_sorted entry_sorted (ksk_s1 _ _) ?_;unfold Builtin.«sorted»;refine G7 (m:=checkCount "sorted" 1 1 _) (G_ (G7 (m9 (PySem.W.kdl_values (knd:=ba X.prog X.w) (kvs:=vs) (ep:=ep) (r:=l) (d:=d)) hh ⟨hvw,da⟩ (by omega) λg tk acc kp lt Mj=>G7 (K1 ?_ (by rw[HR,Mj.1];omega)))));have Nq:aC (kvs.map (·.2)) acc.toList:=by refine i4 (by rw[HR,Mj.1,G8,lz]) λj v hj=>?_;obtain⟨k,e1⟩:=Mj.2 j v (by rw[<-IZ];exact hj);obtain⟨kv,e2,e3,e4⟩:=dA Mb e1;exact⟨kv.2,by rw[Hd,e2];rfl,e4⟩
 have kept:∀b o,s.heap.get? b=some o->(g.push (seqObj "list" acc.toList.toArray 0)).get? b=some o:=λb o e=>Ha _ (kp b o e);have hoD:(g.push (seqObj "list" acc.toList.toArray 0)).get? g.objs.size=some (seqObj "list" acc.toList.toArray 0):=Hj _ rfl;have I2:Inv X LX σ (upd H g.objs.size (.lst (kvs.map (·.2)))) {s with heap:=g.push (seqObj "list" acc.toList.toArray 0),toks:=tk}:=
  I.laid kept (Js lt) ⟨by rw[G8];omega,acc.toList,0,Nq,hoD⟩
 have fr:H g.objs.size=none:=I.hok.fresh (Js lt);refine G7 (Jg (wpAny_call_entry_kw slot_list_sort ⟨_,hoD,rfl⟩ entry_list_sort ?_ (ksk_l1 _ _)));rw[ksk_t1];refine Bl I2 aa hoD Nq (by rw[G8];exact hl) (by rw[G8];exact hz) (λi x v k H' s' hx rv hk I' kp'=>turn i x v k H' s' hx rv hk I' λb o eb=>?_) λs' H' ts I' kp' NI tp tw=>⟨_,rfl,G_ ⟨_,rfl,h s' H' _ ts I' (λb o eb=>?_) fr NI tp tw⟩⟩
 .have nb:=au eb fr;exact kp' b o nb (by rw[ai nb];exact eb)
 .have nb:=au eb fr;exact kp' b o nb (by rw[ai nb];exact eb)
def sO(sp:Sp)(Q:VK)(y:V)(H1:Hp):Prop:=∃(l d:Addr)(kvs:List (Key×V))(ks:List (Int×Int)),y=.ref l/\H1 l=some (VwE l d)/\H1 d=some (.dK kvs)/\ks.length=kvs.length/\kvs.length<=1000/\
 (∀(i:Nat)(x:V)(k:Int×Int)(H':Hp),(kvs.map (·.2))[i]?=some x->ks[i]?=some k->ak H1 H'->∀R:VK,(∀p M0,ak H' M0->M0 p=some (.tup (kpV k))->R (.ref p) M0)->sp [x] H' R E0)/\
 ∀(H':Hp)(D:Addr)(ts:List (V×(Int×Int))),ak H1 H'->H1 D=none->H' D=some (.lst (ts.map (·.1)))->ts.Perm ((kvs.map (·.2)).zip ks)->ts.Pairwise (λa b=>jz a.2 b.2)->Q (.ref D) H'
def CS(sp:Sp)(t:TE):TE:=λσ H Q=>t σ H λy H1=>sO sp Q y H1
theorem Ac(hc:X.calm=true)(h:Has X.prog X.w X.K X.mg X.base k x [q] sp)(hr:bC (k+2) X.A)(hg:Gl X "sorted")(hm:X.mg "sorted"=none)(hgx:Gl X x)(he:PE X e t)(hdx:(x==("__debug__":Str))=false:=by decide) (hs:backTo pos (starEach [e] X.env)=(false,eval e X.env)::backTo pos (starEach [] X.env):=by rfl) (Ms:(backTo pos (starEach [e] X.env)).any (·.1)=false:=by rfl) (Mr:starEach [e] X.env=(false,eval e X.env)::starEach [] X.env:=by rfl):PE X (.Call (.Name "sorted" p) [e] [⟨some "key",.Name x kp,kpos⟩] pos) (CS sp t):=by
 obtain⟨f,fd,m,kf,b,F⟩:=h;intro LX s σ H Q I hw;have pa:PA X [e] (br t c9):=ag he aq Mr;have pk:PK X [⟨some "key",.Name x kp,kpos⟩] (br (tC (.ref f)) c9):=BC (fC hgx m hdx) C8;refine IW (gM I hg hm Lm ?_);refine callWith_kw (thn (pa pos LX s σ H (Em (sO sp Q)) I hw) λus s1 ⟨vs,H1,I1,r,q1⟩=>?_) hs Ms
 match vs,r,q1 with
 |[y],r,q1=>refine thn (pk pos LX s1 σ H1 (λzs H2=>zs=[.ref f]/\H2=H1) I1 ⟨rfl,rfl⟩) λzs s2 ⟨ws,H2,I2,rz,e2,e3⟩=>?_;obtain⟨l,d,kvs,ks,e4,hl,hd,L3,hz,Ox,fin⟩:=(show sO sp Q y H1 from q1);subst e2;subst e3;subst e4;obtain⟨u,rfl,ru⟩:=gz r;obtain⟨u2,rfl,ru2⟩:=gz rz;cases ru;cases ru2;show wpAny _ _ (call (.builtin "sorted") [.ref l] [(Str.ofString "key",.ref f)]) _ _ _;refine vd I2 (I2.ok.hd hc) hl hd L3 hz (λi x v k' H' s' hx rv hk I' sm=>?_) λs' H' D ts I' sm hD NI tp tw=>⟨.ref D,H',I',rfl,fin H' D ts sm hD NI tp tw⟩;refine thn (C4 (E:=λ_ _=>False) F hr.in1.in1 (I'.env0.in1.in1) b I' (.cons rv .nil) (Ox i x k' H' hx hk sm (λv' M0=>∃p,v'=.ref p/\ak H' M0/\M0 p=some (.tup (kpV k'))) λp M0 s2 hp=>⟨p,rfl,s2,hp⟩)) λu s3 ⟨v',H3,I3,r3,p,e5,s4,hp⟩=>?_;subst e5;cases r3;exact⟨p,H3,rfl,I3,s4,hp⟩
end
theorem BI{X:Cx}{K:LS}(hK:X.K=K)(hu:X.A.units<cLine):OpR X (compareOp .Lt) (CD K):=by subst hK;exact Dd hu
theorem iK(hg:Gl X x)(h:∃t,X.mg x=some (.str v t))(hd:(x==("__debug__":Str))=false:=by decide):PE X (.Name x pos) (tC (.str v)):=by obtain⟨t,h⟩:=h;exact pP hg h ⟨t,rfl⟩ hd
noncomputable def top(i:Nat):Stmt:=PySem.Challenge.pw_whohaswhat_s01_answers.main.body.getD i (.Pass ⟨0,0,0,0⟩)
noncomputable def gw:List Str:=["len","zip","all","any","range","sorted","list","dict","set","sum","min","max","tuple","enumerate","reversed"]
structure Blt(mg:Str->Option Value):Prop where
 no:∀x∈gw,mg x=none
theorem Blt.q{mg:Str->Option Value}{x:Str}(B:Blt mg)(h:x∈gw:=by decide):mg x=none:=B.no x h
abbrev xR:Stmt:=bj (top 3) 0
theorem Bt:dk ["self","number","wholes","rows","end"] ["self","number","wholes","rows","end"] (aE xR):=scG
abbrev mO:Stmt:=top 4
theorem c6:dk ["numbers","start","number","end","wholes","rows","begin"] ["numbers","start"] (aE mO):=scG
abbrev kj:Stmt:=top 5
theorem dR:dk ["numbers","found","start","call"] ["numbers"] (aE kj):=scG
abbrev kz:Stmt:=top 80
abbrev kx:Stmt:=top 126
abbrev kO:Stmt:=top 129
theorem gc:dk ["calls","ledger","told","call","answer"] ["calls"] (aE kO):=scG
structure Cs where
 Call:Addr
 Right:Addr
 Deed:Addr
 Ledger:Addr
 Lock:Addr
 Cell:Addr
def KT(K:LS)(a:Addr)(xs:List V):Prop:=∀H:Hp,SqT K H a xs
def n9(K:LS)(a:Addr)(tab:List (List Str)):Prop:=∃bs:List Addr,KT K a (bs.map V.ref)/\Paired (λb xs=>KT K b (xs.map V.str)) bs tab
def wY(P:Program)(w:World)(K:LS)(a:Addr)(tab:List (Str×List Int)):Prop:=∃bs:List (Str×Addr),DkT P w K a (bs.map λp=>(p.1,V.ref p.2))/\Paired (λp e=>p.1=e.1/\KT K p.2 (e.2.map V.int)) bs tab
noncomputable def cW:List (List Str):=[[],["new right","day","day","lands"],["new deed","day","day","right","person","person","parts","lands"],["new deed","day","day","right","person","person","sole","day","day","lands"],["new deed","day","day","right","person","person","parts","lands"],["new deed","day","day","pledge"],["new deed","day","day","pledge"],["new deed","day","day","no annulment"],["right","land","day","day"],["person","land","day","day"],["person","land","day","day"],["right","person","land","day","day"],["grant","day"],["land","day"],["right","land","day","day"],["right","land","day","day"],[],["deed"],["right","day","day","day","day"],["land","day","day"]]
noncomputable def cP:List (List Str):=[["leaves"],["boxes","owners"],["box"],["box"],["box"],[],[],[],["variant"],["variant"],[],[],[],["variant"],["variant"],["variant"],[],[],[],["variant"]]
noncomputable def d4:List (Str×List Int):=[("new right",[1,99]),("new deed",[1,999]),("day",[0,100000]),("land",[0,3]),("lands",[1,15]),("person",[1,20]),("parts",[1,120]),("sole",[0,1])]
noncomputable def dC:List (Str×List Int):=[("pledge",[2]),("no annulment",[0,1,2,3,4]),("grant",[0,1,2]),("deed",[0,1,2,3,4,5])]
structure Txt(P:Program)(w:World)(K:LS)(mg:Str->Option Value)(c:Cs):Prop where
 B:Blt mg
 Call:dq K mg "Call" "Call.__init__" xR ["self","number","wholes","rows","end"] ["number","wholes","rows","end"] c.Call
 Right:dq K mg "Right" "Right.__init__" (bj (top 20) 0) ["self","number","first","last","lands"] ["number","first","last","lands","covered","owners"] c.Right
 Deed:dq K mg "Deed" "Deed.__init__" (bj (top 21) 0) ["self","kind","number","known","recorded"] ["kind","number","known","recorded","right","giver","taker","parts","sole","begin","to","lands","about","box","covered"] c.Deed
 Ledger:dq K mg "Ledger" "Ledger.__init__" (bj (top 22) 0) ["self"] ["field","variants","rights","deeds"] c.Ledger
 Lock:dq K mg "Lock" "Lock.__init__" (bj (top 85) 0) ["self","giver","taker","parts"] ["giver","taker","parts"] c.Lock
 Cell:dq K mg "Cell" "Cell.__init__" (bj (top 86) 0) ["self","owners"] ["held","locks","bonds","bound"] c.Cell
 E_:aJ K mg "take_call" mO ["numbers","start"]
 Fa:aJ K mg "split_calls" kj ["numbers"]
 Fb:aJ K mg "has_bit" (top 7) ["bits","place"]
 Fc:aJ K mg "in_box" (top 8) ["box","variant"]
 Fd:aJ K mg "in_some_box" (top 9) ["boxes","variant"]
 Fe:aJ K mg "cut_boxes" (top 10) ["features","row"]
 Ff:aJ K mg "variants_of" (top 11) ["field"]
 Fg:aJ K mg "lands_of" (top 23) ["right"]
 Fh:aJ K mg "places_of" (top 24) ["right"]
 Fi:aJ K mg "is_cell" (top 25) ["right","land","place"]
 Fj:aJ K mg "rights_in_force" (top 26) ["ledger","land","place","day"]
 Fk:aJ K mg "work_order" (top 27) ["deed"]
 Fl:aJ K mg "deeds_in_order" (top 28) ["ledger"]
 Fm:aJ K mg "annulled_deeds" (top 29) ["ledger","known"]
 Fn:aJ K mg "counted_deeds" (top 30) ["ledger","known"]
 Fo:aJ K mg "worked_deeds" (top 31) ["ledger","day","known"]
 Fp:aJ K mg "deeds_before" (top 32) ["deeds","last"]
 Fq:aJ K mg "deeds_on_parts" (top 33) ["deeds"]
 Fs:aJ K mg "ground_deed" (top 34) ["ledger","deed"]
 Ft:aJ K mg "covers" (top 35) ["ledger","deed","right","land","place"]
 Fu:aJ K mg "covering_deeds" (top 36) ["ledger","deeds","right","land","place"]
 Fv:aJ K mg "in_range" (top 45) ["name","number"]
 Fw:aJ K mg "is_leaves" (top 46) ["row"]
 Fx:aJ K mg "is_box" (top 47) ["field","row"]
 Fy:aJ K mg "is_boxes" (top 48) ["field","row"]
 Fz:aJ K mg "is_owners" (top 49) ["row"]
 FA:aJ K mg "is_variant" (top 50) ["field","row"]
 FC:aJ K mg "has_form" (top 51) ["name","field","row"]
 FD:aJ K mg "is_there" (top 60) ["ledger","name","number"]
 FE:aJ K mg "shared_refusal" (top 61) ["ledger","call"]
 FF:aJ K mg "set_field" (top 65) ["ledger","call"]
 FG:aJ K mg "right_of" (top 66) ["ledger","call"]
 FH:aJ K mg "add_right" (top 67) ["ledger","call"]
 FI:aJ K mg "add_deed" (top 68) ["ledger","deed"]
 FJ:aJ K mg "deed_of" (top 69) ["kind","call"]
 FK:aJ K mg "grant_of" (top 70) ["kind","ledger","call"]
 FL:aJ K mg "parts_deed_of" (top 71) ["kind","ledger","call"]
 FM:aJ K mg "deed_about_of" (top 72) ["kind","call"]
 FN:aJ K mg "add_transfer" (top 73) ["ledger","call"]
 FO:aJ K mg "add_licence" (top 74) ["ledger","call"]
 FP:aJ K mg "add_pledge" (top 75) ["ledger","call"]
 FQ:aJ K mg "add_release" (top 76) ["ledger","call"]
 FR:aJ K mg "add_seizure" (top 77) ["ledger","call"]
 FS:aJ K mg "add_annulment" (top 78) ["ledger","call"]
 FT:aJ K mg "keep" kz ["ledger","call"]
 FU:aJ K mg "free_parts" (top 87) ["cell","person"]
 FV:aJ K mg "licences_on" (top 88) ["cell","person"]
 FW:aJ K mg "bind" (top 89) ["cell","person","licence"]
 FX:aJ K mg "move_parts" (top 90) ["cell","giver","taker","parts"]
 FY:aJ K mg "lock_parts" (top 91) ["cell","pledge"]
 FZ:aJ K mg "seize_parts" (top 92) ["cell","pledge"]
 F0:aJ K mg "work" (top 93) ["cell","deed"]
 F1:aJ K mg "cell_behind" (top 94) ["right","deeds"]
 F2:aJ K mg "cell_at" (top 95) ["ledger","deeds","right","land","place"]
 F3:aJ K mg "effect_on" (top 96) ["cell","deed"]
 F4:aJ K mg "licences_of_day" (top 98) ["deeds","day"]
 F5:aJ K mg "licences_behind" (top 99) ["licences","sole"]
 F6:aJ K mg "early_licences" (top 100) ["licences"]
 F7:aJ K mg "asked_for" (top 101) ["person","holder","among","licences"]
 F8:aJ K mg "may_use_own" (top 102) ["person","cell","binding"]
 F9:aJ K mg "binding_licences" (top 103) ["cell","person","licences"]
 F_:aJ K mg "asked_of_right" (top 104) ["person","right","deeds","day"]
 Ga:aJ K mg "leave_needed" (top 105) ["ledger","deeds","person","land","place","day"]
 Gb:aJ K mg "place_of" (top 108) ["ledger","variant"]
 Gc:aJ K mg "asked_cell" (top 109) ["ledger","call"]
 Gd:aJ K mg "parts_deeds" (top 110) ["ledger","day","known"]
 Ge:aJ K mg "held_in" (top 111) ["ledger","deeds","right","land","place"]
 Gf:aJ K mg "tell_holders" (top 112) ["ledger","call"]
 Gg:aJ K mg "tell_leave" (top 113) ["ledger","call"]
 Gh:aJ K mg "tell_free" (top 114) ["ledger","call"]
 Gi:aJ K mg "tell_parts" (top 115) ["ledger","call"]
 Gj:aJ K mg "effects_of" (top 116) ["ledger","deed","counted"]
 Gk:aJ K mg "tell_effect" (top 117) ["ledger","call"]
 Gm:aJ K mg "tell_force" (top 118) ["ledger","call"]
 Gn:aJ K mg "tell_locks" (top 119) ["ledger","call"]
 Go:aJ K mg "tell_bound" (top 120) ["ledger","call"]
 Gp:aJ K mg "tell_deeds" (top 121) ["ledger","call"]
 Gq:aJ K mg "tell_told" (top 122) ["ledger","call"]
 Gr:aJ K mg "tell_same" (top 123) ["ledger","call"]
 Gs:aJ K mg "tell_owners" (top 124) ["ledger","call"]
 Gu:aJ K mg "tell" kx ["ledger","call"]
 Gv:aJ K mg "answer_call" (top 128) ["ledger","call"]
 Gw:aJ K mg "answers" kO ["calls"]
 Gx:∃a,mg "WHOLES"=some (.ref a)/\n9 K a cW
 Gy:∃a,mg "LISTS"=some (.ref a)/\n9 K a cP
 Gz:∃t,mg "TRANSFER"=some (.int (0) t)
 GA:∃t,mg "LICENCE"=some (.int (1) t)
 GB:∃t,mg "PLEDGE"=some (.int (2) t)
 GC:∃t,mg "RELEASE"=some (.int (3) t)
 GD:∃t,mg "SEIZURE"=some (.int (4) t)
 GF:∃t,mg "ANNULMENT"=some (.int (5) t)
 GG:∃a,mg "LANDS"=some (.ref a)/\KT K a (([0,1,2,3]:List Int).map V.int)
 GH:∃t,mg "MOST_FEATURES"=some (.int (6) t)
 GI:∃t,mg "MOST_LEAVES"=some (.int (8) t)
 GJ:∃t,mg "MOST_VARIANTS"=some (.int (64) t)
 GK:∃t,mg "MOST_BOXES"=some (.int (8) t)
 GL:∃t,mg "LAST_PERSON"=some (.int (20) t)
 GN:∃t,mg "ALL_PARTS"=some (.int (120) t)
 GO:∃a,mg "RANGES"=some (.ref a)/\wY P w K a d4
 GP:∃t,mg "OUT_OF_RANGE"=some (.int (-3) t)
 GQ:∃t,mg "WRONG_FORM"=some (.int (-4) t)
 GR:∃t,mg "NOT_THERE"=some (.int (-5) t)
 GS:∃t,mg "THERE_ALREADY"=some (.int (-6) t)
 GU:∃t,mg "NOT_FITTING"=some (.int (-7) t)
 GV:∃t,mg "TOO_MANY"=some (.int (-9) t)
 GW:∃a,mg "KINDS_MEANT"=some (.ref a)/\wY P w K a dC
 GX:∃t,mg "MOST_RIGHTS"=some (.int (8) t)
 GY:∃t,mg "MOST_DEEDS"=some (.int (60) t)
 GZ:∃a bs,mg "KEEPERS"=some (.ref a)/\KT K a (bs.map V.ref)/\Paired (λb x=>mg x=some (.ref b)) bs (["set_field","add_right","add_transfer","add_licence","add_pledge","add_release","add_seizure","add_annulment"]:List Str)
 G0:∃t,mg "WHOLLY"=some (.str "wholly" t)
 G3:∃t,mg "IN_PART"=some (.str "in part" t)
 G4:∃t,mg "NOT_AT_ALL"=some (.str "not at all" t)
 G5:∃t,mg "FIRST_TELLING"=some (.int (8) t)
 G6:∃a bs,mg "TELLERS"=some (.ref a)/\KT K a (bs.map V.ref)/\Paired (λb x=>mg x=some (.ref b)) bs (["tell_holders","tell_leave","tell_free","tell_parts","tell_effect","tell_force","tell_locks","tell_bound","tell_deeds","tell_told","tell_same","tell_owners"]:List Str)
end Wh
namespace Wh
open PySem PySem.Spec PyProof.Rows L2
open PySem.W (Frag nsIn findIn codeIn keepIn isFn makesIn plainGet hasDictIn plainOver fnOf mg_of mg_none_of BT SharedT absHeap)
open PySem.W.Fast (sEq)
noncomputable section
noncomputable def fn0:List (Str×Nat):=[("take_call",4),("split_calls",5),("has_bit",7),("in_box",8),("in_some_box",9),("cut_boxes",10),("variants_of",11),("lands_of",23),("places_of",24),("is_cell",25),("rights_in_force",26),("work_order",27),("deeds_in_order",28),("annulled_deeds",29),("counted_deeds",30),("worked_deeds",31)]
noncomputable def fn1:List (Str×Nat):=[("deeds_before",32),("deeds_on_parts",33),("ground_deed",34),("covers",35),("covering_deeds",36),("in_range",45),("is_leaves",46),("is_box",47),("is_boxes",48),("is_owners",49),("is_variant",50),("has_form",51),("is_there",60),("shared_refusal",61),("set_field",65),("right_of",66)]
noncomputable def fn2:List (Str×Nat):=[("add_right",67),("add_deed",68),("deed_of",69),("grant_of",70),("parts_deed_of",71),("deed_about_of",72),("add_transfer",73),("add_licence",74),("add_pledge",75),("add_release",76),("add_seizure",77),("add_annulment",78),("keep",80),("free_parts",87),("licences_on",88),("bind",89)]
noncomputable def fn3:List (Str×Nat):=[("move_parts",90),("lock_parts",91),("seize_parts",92),("work",93),("cell_behind",94),("cell_at",95),("effect_on",96),("licences_of_day",98),("licences_behind",99),("early_licences",100),("asked_for",101),("may_use_own",102),("binding_licences",103),("asked_of_right",104),("leave_needed",105),("place_of",108)]
noncomputable def fn4:List (Str×Nat):=[("asked_cell",109),("parts_deeds",110),("held_in",111),("tell_holders",112),("tell_leave",113),("tell_free",114),("tell_parts",115),("effects_of",116),("tell_effect",117),("tell_force",118),("tell_locks",119),("tell_bound",120),("tell_deeds",121),("tell_told",122),("tell_same",123),("tell_owners",124)]
noncomputable def fn5:List (Str×Nat):=[("tell",126),("answer_call",128),("answers",129)]
def fnL:List (Str×Nat):=fn0++fn1++fn2++fn3++fn4++fn5
noncomputable def cl0:List (Str×Str×Nat×List Str):=[("Call","Call.__init__",3,["number","wholes","rows","end"]),("Right","Right.__init__",20,["number","first","last","lands","covered","owners"]),("Deed","Deed.__init__",21,["kind","number","known","recorded","right","giver","taker","parts","sole","begin","to","lands","about","box","covered"]),("Ledger","Ledger.__init__",22,["field","variants","rights","deeds"]),("Lock","Lock.__init__",85,["giver","taker","parts"]),("Cell","Cell.__init__",86,["held","locks","bonds","bound"])]
def clL:List (Str×Str×Nat×List Str):=cl0
noncomputable def in0:List (Str×Int):=[("TRANSFER",0),("LICENCE",1),("PLEDGE",2),("RELEASE",3),("SEIZURE",4),("ANNULMENT",5),("MOST_FEATURES",6),("MOST_LEAVES",8),("MOST_VARIANTS",64),("MOST_BOXES",8),("LAST_PERSON",20),("ALL_PARTS",120),("OUT_OF_RANGE",-3),("WRONG_FORM",-4),("NOT_THERE",-5),("THERE_ALREADY",-6)]
noncomputable def in1:List (Str×Int):=[("NOT_FITTING",-7),("TOO_MANY",-9),("MOST_RIGHTS",8),("MOST_DEEDS",60),("FIRST_TELLING",8)]
def inL:List (Str×Int):=in0++in1
noncomputable def st0:List (Str×Str):=[("WHOLLY","wholly"),("IN_PART","in part"),("NOT_AT_ALL","not at all")]
def stL:List (Str×Str):=st0
abbrev Gt:=Addr->Option Obj
def kEq(v:Value)(x:Str):Bool:=match v with
 | .str s _=>sEq s x
 |_=>false
def nsG(f:Gt)(x:Str):Option (Option Value):=match f mainGlobals with
 |some ⟨_,_,.dict es _,_⟩=>match es.toList.find? (λe=>kEq e.key x)with
  |some e=>some (some e.val)
  |none=>if es.toList.any (λe=>e.refKey)=true then none else some none
 |_=>none
def cdG(f:Gt)(cd:Value)(x:Str):Bool:=match cd with
 | .ref c=>match f c with
  |some ⟨_,_,.fields vs,_⟩=>match vs.toList with
   |_:: .str n _::_=>sEq n x
   |_=>false
  |_=>false
 |_=>false
def adr(f:Gt)(x:Str):Addr:=match nsG f x with
 |some (some (.ref a))=>a
 |_=>0
def ez(f:Gt)(x:Str):Bool:=match nsG f x with
 |some (some (.ref _))=>true
 |_=>false
abbrev FSh:=Str×Str×Arguments×FuncBody×Scope×Addr×List (Str×Addr)×Value×Addr
def shF(fd:FuncData):FSh:=(fd.name,fd.qualname,fd.params,fd.body,fd.scope,fd.globals,fd.closure,fd.defaults,fd.builtins)
def shX(x L0:Str)(st:Stmt):FSh:=(x,L0,cf st,.stmts (bI st),aE st,mainGlobals,[],.none,builtinsNs)
def obF(f:Gt)(a:Addr)(L0:Str):Option (FSh×Bool):=match f a with
 |some ⟨_,_,.func fd,_⟩=>some (shF fd,cdG f fd.code L0)
 |_=>none
def obC(f:Gt)(K:Frag)(x L0:Str)(L4:List Str):Option (Option (FSh×Bool)×Bool×Bool×Bool×Bool×Bool×Bool×Option (Option Value)×List (Option (Option Value))):=match findIn K (.ref (adr f x)) "__init__"with
 |some (some (.ref a))=>some (obF f a L0,isFn K (.ref a),makesIn K (adr f x),keepIn K (.ref (adr f x)),plainGet K (adr f x) Str.empty,hasDictIn K (adr f x),plainOver K (adr f x),findIn K (.ref (adr f x)) "__setattr__",L4.map (findIn K (.ref (adr f x))))
 |_=>none
def obI(f:Gt)(x:Str):Option Int:=match nsG f x with
 |some (some (.int n _))=>some n
 |_=>none
def obS(f:Gt)(x:Str):Option Str:=match nsG f x with
 |some (some (.str n _))=>some n
 |_=>none
def obT(f:Gt)(a:Addr):Option (Value×Bool×List (Option V)):=match f a with
 |some ⟨c,_,.seq us _,_⟩=>some (c,Nat.ble us.toList.length 1000,us.toList.map pF)
 |_=>none
def wJ:Value->Addr
 | .ref a=>a
 |_=>0
def wL:Value->Bool
 | .ref _=>true
 |_=>false
def rfs(f:Gt)(a:Addr):List Addr:=match f a with
 |some ⟨_,_,.seq us _,_⟩=>us.toList.map wJ
 |_=>[]
def obR(f:Gt)(a:Addr):Option (Value×Bool×Bool):=match f a with
 |some ⟨c,_,.seq us _,_⟩=>some (c,Nat.ble us.toList.length 1000,us.toList.all wL)
 |_=>none
def obD(f:Gt)(a:Addr):Option (Value×Option Addr×Array (Option Value)×List (Int×Option V×Bool)):=match f a with
 |some ⟨c,d,.dict es _,sl⟩=>some (c,d,sl,es.toList.map λe=>(e.hash,pF e.key,wL e.val))
 |_=>none
def drf(f:Gt)(a:Addr):List Addr:=match f a with
 |some ⟨_,_,.dict es _,_⟩=>es.toList.map λe=>wJ e.val
 |_=>[]
def exT(xs:List V):Option (Value×Bool×List (Option V)):=some (.type "tuple",true,xs.map some)
def exR:Option (Value×Bool×Bool):=some (.type "tuple",true,true)
def frg(n:Nat)(f:Gt):Frag:=(List.range n).filterMap λa=>(f a).map λo=>(a,o)
def gtT(s:SharedT):Gt:=λa=>match(match Nat.blt a s.n with|true=>some ((s.tree.get a).getD default)|false=>none)with
 |some ⟨_,_,.freed,_⟩=>none
 |o=>o
def oF(f:Gt):=fnL.map λp=>(ez f p.1,obF f (adr f p.1) p.1)
def eF:=fnL.map λp=>(true,some (shX p.1 p.1 (top p.2),true))
def oC(f:Gt)(K:Frag):=clL.map λp=>(ez f p.1,obC f K p.1 p.2.1 p.2.2.2)
noncomputable def eC:=clL.map λp=>(true,some (some (shX "__init__" p.2.1 (bj (top p.2.2.1) 0),true),true,true,true,true,true,true,some (some (Value.builtin "object.__setattr__")),p.2.2.2.map λ_=>(some none:Option (Option Value))))
def oA(f:Gt):=(inL.map λp=>obI f p.1,stL.map λp=>obS f p.1,gw.map (nsG f),ez f "WHOLES",obR f (adr f "WHOLES"),(rfs f (adr f "WHOLES")).map (obT f),ez f "LISTS",obR f (adr f "LISTS"),(rfs f (adr f "LISTS")).map (obT f),ez f "RANGES",obD f (adr f "RANGES"),(drf f (adr f "RANGES")).map (obT f),adr f "RANGES"==sysModules,ez f "KINDS_MEANT",obD f (adr f "KINDS_MEANT"),(drf f (adr f "KINDS_MEANT")).map (obT f),adr f "KINDS_MEANT"==sysModules,ez f "LANDS",obT f (adr f "LANDS"),ez f "KEEPERS",obR f (adr f "KEEPERS"),rfs f (adr f "KEEPERS")==(["set_field","add_right","add_transfer","add_licence","add_pledge","add_release","add_seizure","add_annulment"]:List Str).map (adr f),(["set_field","add_right","add_transfer","add_licence","add_pledge","add_release","add_seizure","add_annulment"]:List Str).all (ez f),ez f "TELLERS",obR f (adr f "TELLERS"),rfs f (adr f "TELLERS")==(["tell_holders","tell_leave","tell_free","tell_parts","tell_effect","tell_force","tell_locks","tell_bound","tell_deeds","tell_told","tell_same","tell_owners"]:List Str).map (adr f),(["tell_holders","tell_leave","tell_free","tell_parts","tell_effect","tell_force","tell_locks","tell_bound","tell_deeds","tell_told","tell_same","tell_owners"]:List Str).all (ez f))
noncomputable def eA(w:World):=(inL.map λp=>some p.2,stL.map λp=>some p.2,gw.map λ_=>(some none:Option (Option Value)),true,exR,cW.map λxs=>exT (xs.map V.str),true,exR,cP.map λxs=>exT (xs.map V.str),true,some (Value.type "dict",(none:Option Addr),(#[]:Array (Option Value)),d4.map λp=>(PyData.keyHash w.params p.1,some (V.str p.1),true)),d4.map λp=>exT (p.2.map V.int),false,true,some (Value.type "dict",(none:Option Addr),(#[]:Array (Option Value)),dC.map λp=>(PyData.keyHash w.params p.1,some (V.str p.1),true)),dC.map λp=>exT (p.2.map V.int),false,true,exT (([0,1,2,3]:List Int).map V.int),true,exR,true,true,true,exR,true,true)
end
end Wh
namespace Wh
open PySem PySem.Spec PyProof.Rows L2
open PySem.W
noncomputable section
abbrev pwp:Program:=PySem.Challenge.pw_whohaswhat_s01_answers
def qq:Program:={pwp with main:={pwp.main with body:=[top 129]}}
noncomputable def lo0:List Str:=["take_call","split_calls","has_bit","in_box","in_some_box","cut_boxes","variants_of","lands_of","places_of","is_cell","rights_in_force","work_order","deeds_in_order","annulled_deeds","counted_deeds","worked_deeds"]
noncomputable def lo1:List Str:=["deeds_before","deeds_on_parts","ground_deed","covers","covering_deeds","in_range","is_leaves","is_box","is_boxes","is_owners","is_variant","has_form","is_there","shared_refusal","set_field","right_of"]
noncomputable def lo2:List Str:=["add_right","add_deed","deed_of","grant_of","parts_deed_of","deed_about_of","add_transfer","add_licence","add_pledge","add_release","add_seizure","add_annulment","keep","free_parts","licences_on","bind"]
noncomputable def lo3:List Str:=["move_parts","lock_parts","seize_parts","work","cell_behind","cell_at","effect_on","licences_of_day","licences_behind","early_licences","asked_for","may_use_own","binding_licences","asked_of_right","leave_needed","place_of"]
noncomputable def lo4:List Str:=["asked_cell","parts_deeds","held_in","tell_holders","tell_leave","tell_free","tell_parts","effects_of","tell_effect","tell_force","tell_locks","tell_bound","tell_deeds","tell_told","tell_same","tell_owners"]
noncomputable def lo5:List Str:=["tell","answer_call","Call","Right","Deed","Ledger","Lock","Cell","WHOLES","LISTS","TRANSFER","LICENCE","PLEDGE","RELEASE","SEIZURE","ANNULMENT"]
noncomputable def lo6:List Str:=["LANDS","MOST_FEATURES","MOST_LEAVES","MOST_VARIANTS","MOST_BOXES","LAST_PERSON","ALL_PARTS","RANGES","OUT_OF_RANGE","WRONG_FORM","NOT_THERE","THERE_ALREADY","NOT_FITTING","TOO_MANY","KINDS_MEANT","MOST_RIGHTS"]
noncomputable def lo7:List Str:=["MOST_DEEDS","KEEPERS","WHOLLY","IN_PART","NOT_AT_ALL","FIRST_TELLING","TELLERS"]
def loL:List Str:=lo0++lo1++lo2++lo3++lo4++lo5++lo6++lo7
noncomputable def o13:Obj:=⟨.type "code",none,.fields #[.str (Str.ofString "<module>") 182,.str (Str.ofString "<module>") 183,.str (Str.ofString "/claim/cut.py") 184,.int 1 0,.int 0 0,.int 0 0,.int 0 0,.int 0 0,.ref 11,.bool false,.int 181 0,.ref 12,.none,.none,.none,.none,.int 185 0,.int 1 0,.str (Str.ofString "/claim/cut.py") 186], #[]⟩
noncomputable def o14:Obj:=⟨.type "frame",none,.plain, #[some (.ref 13),some (.ref 3),some (.ref 3),none,some (.str (Str.ofString "__main__") 164),none,some (.ref 0)]⟩
def CG:BT->Nat->List Obj->BT
 |t,_,[]=>t
 |t,n,o::r=>CG (t.ins n o) (n+1) r
def EB(P:Params):BT:=CG .nil 0 ((boot_heap P).objs.toList++[{cls:=Value.type "tuple",data:=Data.seq #[]},{cls:=Value.none,data:=Data.fields #[]},o13,o14])
def p00:Pos:=⟨0,0,0,0⟩
def p44:Pos:=⟨130,0,130,6⟩
def p59:Pos:=⟨186,0,186,11⟩
def pEn:Pos:=⟨510,0,517,15⟩
def pB:Env:={scope:=pwp.main.scope,locals:=mainNs,globals:=mainNs,cells:=[],code:=.ref 13,frame:=some 14}
def bdy:List Stmt:=behindTheImports pwp
def bd1:List Stmt:=bdy.take 45
def bd2:List Stmt:=(bdy.drop 45).take 15
def bd3:List Stmt:=bdy.drop 60
def cdE:Code:=.body bdy pB
def nj:Option Value:=some (.ref 6)
def sB(w:World)(os:OsState):SharedT:=⟨EB w.params,15,(boot_heap w.params).life,Array.mk [],boot_drawn,187,os⟩
def e9:String:="special-get-raises"
def fN(N:Nat)(l:List Stmt)(p:Pos)(w:World)(s:SharedT):=Fast.tw10110043849684766642 Fast.tw14364793385576792824 pwp w 11 nj 1 N s (piecesOf l pB cdE p [topFrame p00])
def zt(s:SharedT)(r:Option (Flow×SharedT×Code×Pos)):SharedT:=match r with
 |some (_,s',_,_)=>s'
 |none=>s
def s1T(w:World)(os:OsState):SharedT:=zt (sB w os) (fN 2020 bd1 p00 (w.withFollow e9 false) (sB w os))
def s2T(w:World)(os:OsState):SharedT:=zt (sB w os) (fN 386 bd2 p44 (w.withFollow e9 false) (s1T w os))
def s3T(w:World)(os:OsState):SharedT:=zt (sB w os) (fN 2300 bd3 p59 w (s2T w os))
def mds:List Str:=importedModules pwp.main.body
def XtF(s:Shared):Bool:=xlAt qq [] s&&recOk [] s
end
theorem Ao:∀(w:World)(os:OsState),fN 2020 bd1 p00 (w.withFollow e9 false) (sB (w.withFollow e9 false) os)=some (.next,s1T (w.withFollow e9 false) os,cdE,p44):=λw os=>by kernel_rfl
theorem BS:∀(w:World)(os:OsState),fN 2020 bd1 p00 (w.withFollow e9 true) (sB (w.withFollow e9 true) os)=some (.next,s1T (w.withFollow e9 true) os,cdE,p44):=λw os=>by kernel_rfl
theorem An:∀(w:World)(os:OsState),fN 386 bd2 p44 (w.withFollow e9 false) (s1T (w.withFollow e9 false) os)=some (.next,s2T (w.withFollow e9 false) os,cdE,p59):=λw os=>by kernel_rfl
theorem BR:∀(w:World)(os:OsState),fN 386 bd2 p44 (w.withFollow e9 true) (s1T (w.withFollow e9 true) os)=some (.next,s2T (w.withFollow e9 true) os,cdE,p59):=λw os=>by kernel_rfl
theorem kA:∀(w:World)(os:OsState),(fN 2300 bd3 p59 w (s2T w os),(staticsOk mds (boot_heap w.params) (s3T w os).abs.heap&&namesBound pwp (s3T w os).abs.heap&&gensDone (s3T w os).abs&&laidKept (boot_heap w.params) (s3T w os).abs.heap),oF (gtT (s3T w os)),(s3T w os).n,oA (gtT (s3T w os)))=(some (.next,s3T w os,cdE,pEn),true,eF,723,eA w):=λw os=>by kernel_rfl
theorem kB:∀(w:World)(os:OsState),(Fast.tw4187177175401517315 qq loL mds XtF true (s3T w os).abs,oC (gtT (s3T w os)) (frg 723 (gtT (s3T w os))))=(openGood qq loL,eC):=λw os=>by kernel_rfl
end Wh
namespace Wh
open PySem PySem.Spec PyProof.Rows L2
section
variable{P:Program}{w:World}{K:LS}{mg:Str->Option Value}{base:Heap}{c:Cs}
noncomputable def sg(n:Int)(aw ar:Addr)(e:Int):List (Str×V):=[("number",.int n),("wholes",.ref aw),("rows",.ref ar),("end",.int e)]
def bm(x:Addr)(H H':Hp):Prop:=∀b o,H b=some o->b≠x->H' b=some o
def Bk(c:Cs):Sp:=λvs H Q E=>∃x dx n aw ar e,vs=[.ref x,.int n,.ref aw,.ref ar,.int e]/\H x=some (.ins c.Call dx [])/\∀H',H' x=some (.ins c.Call dx (sg n aw ar e))->bm x H H'->Q .non H'
theorem Dv(T:Txt P w K mg c):iZ P w K mg base 1 "Call" c.Call ["self","number","wholes","rows","end"] (Bk c):=by
 refine we T.Call Bt (λvs H Q E h=>?_) (λf L1 A outer s H vs Q E hr h=>?_)
 .obtain⟨x,dx,n,aw,ar,e,rfl,_⟩:=h;rfl
 .obtain⟨x,dx,n,aw,ar,e,rfl,hx,k⟩:=h;refine⟨_,(aj (aU (pv 0) (pv 1) rfl) (aj (aU (pv 0) (pv 2) rfl) (aj (aU (pv 0) (pv 3) rfl) (aL (aU (pv 0) (pv 4) rfl))))),?_⟩;refine⟨_,rfl,_,rfl,rfl,hx,T.Call.o,rfl,?_⟩;refine⟨_,rfl,_,rfl,rfl,aa,T.Call.o,rfl,?_⟩;refine⟨_,rfl,_,rfl,rfl,aa,T.Call.o,rfl,?_⟩;refine⟨_,rfl,_,rfl,rfl,aa,T.Call.o,rfl,?_⟩;refine k _ ?_ λb o e nb=>by rw[ai nb,ai nb,ai nb,ai nb];exact e
  rw[aa];rfl
theorem n9.at_{a:Addr}{tab:List (List Str)}(h:n9 K a tab):∃bs:List Addr,KT K a (bs.map V.ref)/\∀(i:Nat)(xs:List Str),tab[i]?=some xs->∃b,bs[i]?=some b/\KT K b (xs.map V.str):=by
 obtain⟨bs,h1,h2⟩:=h;refine⟨bs,h1,λi xs hx=>?_⟩;clear h1;induction h2 generalizing i with
 |nil=>simp at hx
 |cons r t ih=>
  cases i with
  |zero=>cases hx;exact⟨_,rfl,r⟩
  |succ i=>exact ih i hx
theorem xh:∀i,i<20->shape (i:Nat)=(cW[i]?).bind λxs=>(cP[i]?).map λys=>(xs.length,ys.length):=by decide +kernel
theorem kN{p:Int}{n k:Nat}(h:shape p=some (n,k)):∃i:Nat,p=i/\i<20/\∃xs ys,cW[i]?=some xs/\xs.length=n/\cP[i]?=some ys/\ys.length=k:=by
 have hi:∃i:Nat,i<20/\p=i:=by apply Ii;intro hn;have ne:∀i:Nat,i<20->p≠(i:Int):=λi hi e=>hn ⟨i,hi,e⟩;unfold shape at h;rw[G9 (show¬p=0 from ne 0 (by decide)),G9 (show¬p=1 from ne 1 (by decide)),G9 (show¬p=2 from ne 2 (by decide)),G9 (show¬p=3 from ne 3 (by decide)),G9 (show¬p=4 from ne 4 (by decide)),G9 (show¬p=5 from ne 5 (by decide)),G9 (show¬p=6 from ne 6 (by decide)),G9 (show¬p=7 from ne 7 (by decide)),G9 (show¬p=8 from ne 8 (by decide)),G9 (show¬p=9 from ne 9 (by decide)),G9 (show¬p=10 from ne 10 (by decide)),G9 (show¬p=11 from ne 11 (by decide)),G9 (show¬p=12 from ne 12 (by decide)),G9 (show¬p=13 from ne 13 (by decide)),G9 (show¬p=14 from ne 14 (by decide)),G9 (show¬p=15 from ne 15 (by decide)),G9 (show¬p=16 from ne 16 (by decide)),G9 (show¬p=17 from ne 17 (by decide)),G9 (show¬p=18 from ne 18 (by decide)),G9 (show¬p=19 from ne 19 (by decide))]at h;cases h
 obtain⟨i,hi,rfl⟩:=hi;rw[xh i hi]at h;cases h1:cW[i]? with
 |none=>rw[h1]at h;cases h
 |some xs=>
  cases h2:cP[i]? with
  |none=>rw[h1,h2]at h;cases h
  |some ys=>rw[h1,h2]at h;have e:=Hg h;injection e with e1 e2;exact⟨i,rfl,hi,xs,ys,h1,e1,h2,e2⟩
theorem wD{xs:List V}{a b:Nat}(h1:a<=b)(h2:b<=xs.length):jB xs (some (a:Int)) (some (b:Int))=(xs.drop a).take (b-a):=by unfold jB;rw[HT.sIx_nat,HT.sIx_nat,KH h2,KH (Hv h1 h2)]
theorem qV{l:List Int}{i:Nat}{n:Int}{r:List Int}(h:l.drop i=n::r):l[i]?=some n/\l.drop (i+1)=r/\i<l.length:=by
 have hi:i<l.length:=by apply Ii;intro q;rw[LF (by omega)]at h;cases h
 rw[J3 hi]at h;injection h with h1 h2;exact⟨by rw[Hn hi,h1],h2,hi⟩
theorem ym{l:List Int}{i:Nat}{n:Int}(h:l[i]?=some n):atI (l.map V.int) (i:Int)=some (V.int n):=aN rfl (by rw[Hd,h];rfl)
structure kI(c:Cs)(N:Addr->Prop)(H:Hp)(x:Addr)(n:Int)(ws:List Int)(rows:List (List Int))(e:Nat):Prop where
 ex:∃dx aw ar rs,H x=some (.ins c.Call dx (sg n aw ar e))/\H aw=some (.lst (ws.map V.int))/\N aw/\H ar=some (.lst (rs.map V.ref))/\N ar/\Paired (λr row=>H r=some (.lst (row.map V.int))/\N r) rs rows
theorem kI.keep{N M:Addr->Prop}{H H':Hp}{x:Addr}{n:Int}{ws:List Int}{rows:List (List Int)}{e:Nat}(h:kI c N H x n ws rows e)(s:∀b o,H b=some o->(N b\/∃C dx fs,o=.ins C dx fs)->H' b=some o)(m:∀b,N b->M b):kI c M H' x n ws rows e:=by obtain⟨dx,aw,ar,rs,h1,h2,n2,h3,n3,h4⟩:=h.ex;exact⟨dx,aw,ar,rs,s _ _ h1 (.inr ⟨_,_,_,rfl⟩),s _ _ h2 (.inl n2),m _ n2,s _ _ h3 (.inl n3),m _ n3,Paired.mapP h4 λ_ _ q=>⟨s _ _ q.1 (.inl q.2),m _ q.2⟩⟩
inductive ul(K:LS)(c:Cs)(vs:List V)(H:Hp)(Q:VK)(E:XK):Prop|mk(a:Addr)(l:List Int)(st:Nat)(n:Int)(ws:List Int)(rows:List (List Int))(t:List Int)(_:vs=[.ref a,.int st])(_:SqL K H a (l.map V.int))(_:l.length<=16000)(_:PyFlat.call shape (l.drop st)=some ((n::ws)::rows,t))(_:∀H' x,ak H H'->H x=none->kI c (λb=>H b=none) H' x n ws rows (l.length-t.length)->Q (.ref x) H')
theorem o_{r:List Int}{n:Int}{ws:List Int}{rows:List (List Int)}{t:List Int}(h:PyFlat.call shape r=some ((n::ws)::rows,t)):∃r' m k,r=n::r'/\shape n=some (m,k)/\m<=r'.length/\ws=r'.take m/\PyFlat.rows k (r'.drop m)=some (rows,t):=by
 cases r with
 |nil=>simp[PyFlat.call]at h
 |cons p r'=>
  unfold PyFlat.call at h;dsimp only at h;cases hs:shape p with
  |none=>rw[hs]at h;cases h
  |some nk=>
   obtain⟨m,k⟩:=nk;rw[hs]at h;dsimp only at h;by_cases hl:r'.length<m
   .rw[Hc hl]at h;cases h
   .rw[G9 hl]at h;cases hr:PyFlat.rows k (r'.drop m)with
    |none=>rw[hr]at h;cases h
    |some q=>obtain⟨xs,t'⟩:=q;rw[hr]at h;simp only[Option.some.injEq,Prod.mk.injEq,List.cons.injEq]at h;obtain⟨⟨⟨rfl,rfl⟩,rfl⟩,rfl⟩:=h;exact⟨r',m,k,rfl,hs,by omega,rfl,hr⟩
theorem ir:∀{k:Nat}{r:List Int}{xs:List (List Int)}{t:List Int},PyFlat.rows k r=some (xs,t)->xs.length=k/\t.length<=r.length/\∃pre,r=pre++t
 |0,r,xs,t,h=>by simp only[PyFlat.rows,Option.some.injEq,Prod.mk.injEq]at h;obtain⟨rfl,rfl⟩:=h;exact⟨rfl,Hu _,[],rfl⟩
 |k+1,r,xs,t,h=>by
  unfold PyFlat.rows at h;cases hr:PyFlat.row r with
  |none=>rw[hr]at h;cases h
  |some q=>
   obtain⟨x,s⟩:=q;rw[hr]at h;dsimp only at h;cases hk:PyFlat.rows k s with
   |none=>rw[hk]at h;cases h
   |some q2=>
    obtain⟨ys,t'⟩:=q2;rw[hk]at h;simp only[Option.some.injEq,Prod.mk.injEq]at h;obtain⟨rfl,rfl⟩:=h;obtain⟨h1,h2,pre,h3⟩:=ir hk;cases r with
    |nil=>simp[PyFlat.row]at hr
    |cons n r'=>
     simp only[PyFlat.row]at hr;split at hr
     .rename_i hc;simp only[Option.some.injEq,Prod.mk.injEq]at hr;obtain⟨rfl,rfl⟩:=hr;refine⟨by rw[Hr,h1],?_,n::(r'.take n.toNat++pre),?_⟩
      .rw[IC]at h2;rw[Hr];omega
      .rw[cons_append,Jz,<-h3,JA]
     .cases hr
theorem yK{k:Nat}{l:List Int}{e:Nat}{xs:List (List Int)}{t:List Int}(h:PyFlat.rows (k+1) (l.drop e)=some (xs,t)):∃(n:Nat)(row:List Int)(ys:List (List Int)),l[e]?=some (n:Int)/\e+1+n<=l.length/\row=(l.drop (e+1)).take n/\xs=row::ys/\PyFlat.rows k (l.drop (e+1+n))=some (ys,t):=by
 unfold PyFlat.rows at h;cases hr:PyFlat.row (l.drop e)with
 |none=>rw[hr]at h;cases h
 |some q=>
  obtain⟨x,s⟩:=q;rw[hr]at h;dsimp only at h;cases hk:PyFlat.rows k s with
  |none=>rw[hk]at h;cases h
  |some q2=>
   obtain⟨ys,t'⟩:=q2;rw[hk]at h;simp only[Option.some.injEq,Prod.mk.injEq]at h;obtain⟨rfl,rfl⟩:=h;cases hd:l.drop e with
   |nil=>rw[hd]at hr;simp[PyFlat.row]at hr
   |cons n r'=>
    rw[hd]at hr;obtain⟨h1,h2,h3⟩:=qV hd;simp only[PyFlat.row]at hr;split at hr
    .rename_i hc;simp only[Option.some.injEq,Prod.mk.injEq]at hr;obtain⟨rfl,rfl⟩:=hr;have hl:r'.length=l.length-(e+1):=by rw[<-h2,IC]
     refine⟨n.toNat,_,ys,by rw[h1];congr 1;omega,by omega,by rw[h2],rfl,?_⟩;rw[<-hk,<-h2,Li]
    .cases hr
theorem Paired.snoc{α β:Type}{F:α->β->Prop}{l:List α}{m:List β}{a:α}{b:β}(h:Paired F l m)(r:F a b):Paired F (l++[a]) (m++[b]):=Paired.app h (.cons r .nil)
theorem Dg{i:Nat}{ys:List Str}(h:cP[i]?=some ys):ys.length<=2:=by
 have q:(cP.all λys=>decide (ys.length<=2))=true:=by decide
 exact Hb (Ij.mp q ys (Hl h))
theorem vA(T:Txt P w K mg c):T.E_.H P w base 3 (ul K c):=by
 have G_Call:=Dv (base:=base) T;have B:=T.B;obtain⟨a_W,Na,tW⟩:=T.Gx;obtain⟨a_L,NB,tL⟩:=T.Gy;obtain⟨bW,kW,atW⟩:=tW.at_;obtain⟨bL,kL,atL⟩:=tL.at_;refine sI T.E_ c6 (λvs H Q E h=>?_) (λf L1 A outer s H vs Q E hr h=>?_)
 .obtain⟨a,l,st,n,ws,rows,t,rfl,_⟩:=h;rfl
 .obtain⟨a,l,st,n,ws,rows,t,rfl,ha,hz,hc,k⟩:=h;obtain⟨r',m,kk,hd,hsh,hm,rfl,Mz⟩:=o_ hc;obtain⟨i,rfl,hi,xs,ys,hxs,lx,hys,ly⟩:=kN hsh;obtain⟨h1,h2,h3⟩:=qV hd;obtain⟨b1,hb1,kb1⟩:=atW i xs hxs;obtain⟨b2,OJ,kb2⟩:=atL i ys hys;have lr:r'.length=l.length-(st+1):=by rw[<-h2,IC]
  refine⟨_,(aj (du (i:=2) c6.nd rfl (by first|exact Or.inl rfl|exact Or.inr rfl) (cr cD (pv 0) (pv 1) (λ_ _=>rfl)))
 (aj (du (i:=3) c6.nd rfl (by first|exact Or.inl rfl|exact Or.inr rfl) (bH d6 (bH d6 (pv 1) aI) (aK aV (by rfl) B.q Ig (ag (cr gO (fC rfl Na) (pv 2) (λ_ _=>rfl)) aq))))
 (aj (du (i:=4) c6.nd rfl (by first|exact Or.inl rfl|exact Or.inr rfl) (nB pK (pv 0) (ib (bH d6 (pv 1) aI)) (ib (pv 3))))
 (aj (du (i:=5) c6.nd rfl (by first|exact Or.inl rfl|exact Or.inr rfl) (aW aq))
 (aj (nz HI (aA gB (aK aV (by rfl) B.q Ig (p1 5)) (aK aV (by rfl) B.q Ig (ag (cr gO (fC rfl NB) (pv 2) (λ_ _=>rfl)) aq)) (aD _))
  (aj (du (i:=6) c6.nd rfl (by first|exact Or.inl rfl|exact Or.inr rfl) (bH d6 (pv 3) aI))
 (aj (du (i:=3) c6.nd rfl (by first|exact Or.inl rfl|exact Or.inr rfl) (bH d6 (pv 6) (cr cD (pv 0) (pv 3) (λ_ _=>rfl))))
 (aL (bU (dG Ib Ix ID fZ (pv 5) (ag (nB pK (pv 0) (ib (pv 6)) (ib (pv 3))) aq)))))))
 (rt (iy G_Call (hr.mono (by decide)) rfl (ag (pv 2) (ag (pv 4) (p2 5 3)))))))))),?_⟩
  refine⟨_,rfl,_,rfl,a,_,_,_,rfl,rfl,ha,ym h1,?_⟩;refine⟨_,rfl,_,_,rfl,rfl,_,rfl,a_W,_,_,_,rfl,rfl,kW H,aN rfl (by rw[Hd,hb1];rfl),b1,_,rfl,.inr (kb1 H),_,_,rfl,rfl,?_⟩;refine⟨_,rfl,_,rfl,_,_,rfl,rfl,_,rfl,_,rfl,_,rfl,a,_,rfl,ha,λaw hw=>?_⟩;have e0:(st:Int)+1+((xs.map V.str).length:Int)=((st+1+m:Nat):Int):=by rw[G8,lx];omega
  have ew:jB (l.map V.int) (some ((st:Int)+1)) (some ((st:Int)+1+((xs.map V.str).length:Int)))=(r'.take m).map V.int:=by rw[e0,show(st:Int)+1=((st+1:Nat):Int) by omega,wD (by omega) (by rw[G8];omega),<-map_drop,<-map_take,h2];congr 2;omega
  refine⟨HJ _,λar Mu=>?_⟩;have nra:aw≠ar:=au aa Mu;have s0:=(ak.upd hw).trans (ak.upd (o:=.lst []) Mu);have fr:H ar=none:=ak.free (ak.upd hw) Mu
  refine⟨λmm σ H'=>∃(rs:List Addr)(dn rest:List (List Int))(e:Nat)(v6:Option V),mm=rest.length/\σ=[some (.ref a),some (.int st),some (.int (i:Nat)),some (.int (e:Nat)),some (.ref aw),some (.ref ar),v6]/\ak H H'/\H' aw=some (.lst ((r'.take m).map V.int))/\
    H' ar=some (.lst (rs.map V.ref))/\Paired (λr row=>H' r=some (.lst (row.map V.int))/\r≠ar/\H r=none) rs dn/\dn++rest=rows/\PyFlat.rows rest.length (l.drop e)=some (rest,t)/\e<=l.length,
   ⟨_,[],[],rows,st+1+m,none,rfl,by rw[<-e0];rfl,s0,by rw[ai nra,aa];exact HU (λz=>some (HO.lst z)) ew,aa,.nil,rfl,?_,by omega⟩,?_⟩
  .rw[(ir Mz).1,<-Mz,<-h2,Li]
  .rintro mm σ H' ⟨rs,dn,rest,e,v6,rfl,rfl,sm,L7,har',pr,M9,O8,hel⟩;have lrs:rs.length=dn.length:=HC pr;have lrows:=(ir Mz).1;have ldn:=HU length M9;rw[Hx]at ldn;refine⟨_,rfl,ar,_,rfl,.inl (SqL.of har'),_,rfl,a_L,_,_,_,rfl,rfl,kL H',aN rfl (by rw[Hd,OJ];rfl),b2,_,rfl,.inr (kb2 H'),_,_,rfl,rfl,_,rfl,aP (λMq=>?_) λhge=>?_⟩
   .have Pl:rs.length<kk:=by have q:=Hb Mq;rw[G8,G8,ly]at q;omega
    obtain⟨k',ML⟩:∃k',rest.length=k'+1:=⟨rest.length-1,by omega⟩;rw[ML]at O8;obtain⟨q,row,zs,e1,e2,e3,e4,e5⟩:=yK O8;subst e4;have lz:zs.length=k':=by simpa using ML
    refine⟨λσ' H2=>∃(rs:List Addr)(dn rest:List (List Int))(e:Nat)(v6:Option V),rest.length<(row::zs).length/\σ'=[some (.ref a),some (.int st),some (.int (i:Nat)),some (.int (e:Nat)),some (.ref aw),some (.ref ar),v6]/\ak H H2/\H2 aw=some (.lst ((r'.take m).map V.int))/\
     H2 ar=some (.lst (rs.map V.ref))/\Paired (λr row=>H2 r=some (.lst (row.map V.int))/\r≠ar/\H r=none) rs dn/\dn++rest=rows/\PyFlat.rows rest.length (l.drop e)=some (rest,t)/\e<=l.length,λσ' H2 ⟨rs,dn,rest,e,v6,hl,r⟩=>⟨_,hl,rs,dn,rest,e,v6,rfl,r⟩,?_⟩
    refine⟨_,rfl,_,_,rfl,rfl,?_⟩;refine⟨_,rfl,_,rfl,_,rfl,a,_,_,_,rfl,rfl,sm.seq ha,ym e1,_,_,rfl,rfl,?_⟩;refine⟨_,rfl,.inl ⟨rfl,_,SqL.of har'⟩,_,rfl,_,rfl,_,rfl,_,rfl,_,rfl,a,_,rfl,sm.seq ha,λp hp=>?_⟩;have npa:ar≠p:=au har' hp;have er:jB (l.map V.int) (some ((e:Int)+1)) (some ((e:Int)+1+(q:Int)))=row.map V.int:=by rw[show(e:Int)+1=((e+1:Nat):Int) by omega,show((e+1:Nat):Int)+(q:Int)=((e+1+q:Nat):Int) by omega,wD (by omega) (by rw[G8];exact e2),<-map_drop,<-map_take,e3];congr 2;omega
    rw[er];have har2:(upd H' p (.lst (row.map V.int))) ar=some (.lst (rs.map V.ref)):=by rw[ai npa];exact har'
    refine⟨ar,_,_,rfl,rfl,har2,by rw[G8];exact aG (by have:=Dg hys;omega),?_⟩;refine⟨rs++[p],dn++[row],zs,e+1+q,some (.int ((e:Int)+1)),by rw[Hr];exact IY _,(by rw[<-show(e:Int)+1+(q:Int)=((e+1+q:Nat):Int) by omega];rfl),λb o eb=>?_,?_,?_,?_,by rw[Jz];exact M9,by rw[lz];exact e5,e2⟩
    .rw[ai (au eb fr),ai (au (sm _ _ eb) hp)];exact sm _ _ eb
    .rw[ai nra,ai (au L7 hp)];exact L7
    .rw[aa,HL];rfl
    .refine Paired.snoc (Paired.mapP pr λr M_ hq=>⟨?_,hq.2⟩) ⟨by rw[ai npa.symm];exact aa,npa.symm,sm.free hp⟩;rw[ai hq.2.1,ai (au hq.1 hp)];exact hq.1
   .have hge':¬rs.length<kk:=λq=>hge (He (by rw[G8,G8,ly];omega));have er:rest=[]:=IF.mp (by omega);subst er;rw[IU]at M9;subst M9;have et:l.drop e=t:=by simp only[length_nil,PyFlat.rows,Option.some.injEq,Prod.mk.injEq]at O8;exact O8.2
    have le:e=l.length-t.length:=by rw[<-et,IC];omega
    refine⟨_,rfl,_,rfl,_,rfl,_,rfl,λx dx hx hdx ne=>?_⟩;have sH:ak H' (upd (upd H' dx (.own x)) x (.ins c.Call dx [])):=λb o eb=>by rw[ai (au eb hx),ai (au eb hdx)];exact eb
    refine⟨x,dx,_,aw,ar,_,rfl,aa,λH3 h3 kp=>⟨rfl,?_⟩⟩;have s3:ak H' H3:=λb o eb=>kp b o (sH b o eb) (au eb hx);refine k H3 x (sm.trans s3) (sm.free hx) ⟨dx,aw,ar,rs,?_,s3 _ _ L7,hw,s3 _ _ har',fr,Paired.mapP pr λ_ _ q=>⟨s3 _ _ q.1,q.2.2⟩⟩;rw[h3,le]
def cU(c:Cs)(N:Addr->Prop)(H:Hp)(x:Addr)(cl:List (List Int)):Prop:=∃n ws rows e,cl=(n::ws)::rows/\kI c N H x n ws rows e
theorem cU.keep{N M:Addr->Prop}{H H':Hp}{x:Addr}{cl:List (List Int)}(h:cU c N H x cl)(s:∀b o,H b=some o->(N b\/∃C dx fs,o=.ins C dx fs)->H' b=some o)(m:∀b,N b->M b):cU c M H' x cl:=by obtain⟨n,ws,rows,e,h1,h2⟩:=h;exact⟨n,ws,rows,e,h1,h2.keep s m⟩
inductive pX(K:LS)(c:Cs)(vs:List V)(H:Hp)(Q:VK)(E:XK):Prop|mk(a:Addr)(l:List Int)(f:Nat)(cs:List (List (List Int)))(_:vs=[.ref a])(_:SqL K H a (l.map V.int))(_:l.length<=16000)(_:PyFlat.calls shape f l=some cs)(_:∀H' D xs,ak H H'->H D=none->H' D=some (.lst (xs.map V.ref))->Paired (λx cl=>cU c (λb=>H b=none/\b≠D) H' x cl) xs cs->Q (.ref D) H')
theorem pb(h:PyFlat.call shape r=some (cl,t)):∃n ws rows,cl=(n::ws)::rows/\t.length<r.length/\∃pre,r=pre++t:=by
 cases r with
 |nil=>simp[PyFlat.call]at h
 |cons p r'=>
  have h':=h;unfold PyFlat.call at h;dsimp only at h;cases hs:shape p with
  |none=>rw[hs]at h;cases h
  |some nk=>
   obtain⟨m,k⟩:=nk;rw[hs]at h;dsimp only at h;by_cases hl:r'.length<m
   .rw[Hc hl]at h;cases h
   .rw[G9 hl]at h;cases hr:PyFlat.rows k (r'.drop m)with
    |none=>rw[hr]at h;cases h
    |some q=>
     obtain⟨xs,t'⟩:=q;rw[hr]at h;simp only[Option.some.injEq,Prod.mk.injEq]at h;obtain⟨rfl,rfl⟩:=h;obtain⟨_,h2,pre,h3⟩:=ir hr;refine⟨p,_,xs,rfl,?_,p::(r'.take m++pre),?_⟩
     .rw[IC]at h2;rw[Hr];omega
     .rw[cons_append,Jz,<-h3,JA]
theorem xK{f:Nat}{l:List Int}{st:Nat}{rest:List (List (List Int))}(h:PyFlat.calls shape f (l.drop st)=some rest)(hs:st<l.length):∃f' n ws rows t Nr,PyFlat.call shape (l.drop st)=some ((n::ws)::rows,t)/\rest=((n::ws)::rows)::Nr/\PyFlat.calls shape f' (l.drop (l.length-t.length))=some Nr/\st<l.length-t.length:=by
 cases hd:l.drop st with
 |nil=>have:=HU length hd;rw[IC,length_nil]at this;omega
 |cons p r=>
  rw[hd]at h;cases f with
  |zero=>simp[PyFlat.calls]at h
  |succ f=>
   unfold PyFlat.calls at h;cases hc:PyFlat.call shape (p::r)with
   |none=>rw[hc]at h;cases h
   |some q=>
    obtain⟨cl,t⟩:=q;rw[hc]at h;dsimp only at h;cases hk:PyFlat.calls shape f t with
    |none=>rw[hk]at h;cases h
    |some Nr=>
     rw[hk]at h;have h':=Hg h;obtain⟨n,ws,rows,rfl,lt,pre,hp⟩:=pb hc;have ll:(p::r).length=l.length-st:=by rw[<-hd,IC]
     have lpre:pre.length=(p::r).length-t.length:=by have:=HU length hp;rw[Hx]at this;omega
     refine⟨f,n,ws,rows,t,Nr,rfl,h'.symm,?_,by omega⟩;have e:l.drop (l.length-t.length)=t:=by
      have e1:l.length-t.length=st+pre.length:=by omega
      rw[e1,<-Li,hd,hp,List.drop_left]
     rw[e];exact hk
theorem rN(T:Txt P w K mg c):T.Fa.H P w base 4 (pX K c):=by
 have NK:=vA (base:=base) T;have B:=T.B;refine sI T.Fa dR (λvs H Q E h=>?_) (λf L1 A outer s H vs Q E hr h=>?_)
 .obtain⟨a,l,f,cs,rfl,_⟩:=h;rfl
 .obtain⟨a,l,f0,cs,rfl,ha,hz,hc,k⟩:=h
  refine⟨_,(aj (du (i:=1) dR.nd rfl (by first|exact Or.inl rfl|exact Or.inr rfl) (aW aq))
 (aj (du (i:=2) dR.nd rfl (by first|exact Or.inl rfl|exact Or.inr rfl) aI)
 (aj (nz HI (aA gB (pv 2) (aK aV (by rfl) B.q Ig (p1 0)) (aD _))
  (aj (du (i:=3) dR.nd rfl (by first|exact Or.inl rfl|exact Or.inr rfl) (jN NK (hr.mono (by decide)) rfl (p2 0 2)))
 (aj (bU (dG Ib Ix ID fZ (pv 1) (p1 3)))
 (aL (du (i:=2) dR.nd rfl (by first|exact Or.inl rfl|exact Or.inr rfl) (fv 3))))))
 (rt (pv 1))))),?_⟩
  refine⟨HJ _,λD hD=>?_⟩
  refine⟨λmm σ H'=>∃(xs:List Addr)(dn rest:List (List (List Int)))(st f:Nat)(v3:Option V),mm=l.length-st/\σ=[some (.ref a),some (.ref D),some (.int (st:Nat)),v3]/\ak H H'/\H' D=some (.lst (xs.map V.ref))/\xs.length<=st/\st<=l.length/\
    Paired (λx cl=>cU c (λb=>H b=none/\b≠D) H' x cl) xs dn/\dn++rest=cs/\PyFlat.calls shape f (l.drop st)=some rest,⟨_,[],[],cs,0,f0,none,rfl,rfl,ak.upd hD,aa,Hu _,HJ _,.nil,rfl,hc⟩,?_⟩
  rintro mm σ H' ⟨xs,dn,rest,st,f,v3,rfl,rfl,sm,NI,lx,Mr,pr,M9,hca⟩;refine⟨_,rfl,_,rfl,a,_,rfl,.inl (sm.seq ha),_,_,rfl,rfl,_,rfl,aP (λMq=>?_) λhge=>?_⟩
  .have Pl:st<l.length:=by have q:=Hb Mq;rw[G8]at q;omega
   obtain⟨f',n,ws,rows,t,Nr,h1,rfl,h3,h4⟩:=xK hca Pl
   refine⟨λσ' H2=>∃(xs:List Addr)(dn rest:List (List (List Int)))(M5 f:Nat)(v3:Option V),l.length-M5<l.length-st/\σ'=[some (.ref a),some (.ref D),some (.int (M5:Nat)),v3]/\ak H H2/\H2 D=some (.lst (xs.map V.ref))/\xs.length<=M5/\M5<=l.length/\
    Paired (λx cl=>cU c (λb=>H b=none/\b≠D) H2 x cl) xs dn/\dn++rest=cs/\PyFlat.calls shape f (l.drop M5)=some rest,λσ' H2 ⟨xs,dn,rest,M5,f,v3,hl,r⟩=>⟨_,hl,xs,dn,rest,M5,f,v3,rfl,r⟩,?_⟩
   refine⟨_,rfl,_,rfl,a,l,st,n,ws,rows,t,rfl,sm.seq ha,hz,h1,λH2 x s2 hx cx=>?_⟩;have MO:=s2 _ _ NI;refine⟨_,rfl,.inl ⟨rfl,_,SqL.of MO⟩,_,rfl,D,_,_,rfl,rfl,MO,by rw[G8];exact JX (Hv lx (Hv Mr hz)) (by decide),?_⟩;obtain⟨dx,aw,ar,rs,c1,_⟩:=id cx.ex;have nxD:x≠D:=aF c1 MO (by intro q;cases q);refine⟨_,rfl,rfl,(ai nxD).trans c1,T.Call.o,rfl,?_⟩
   have keep:∀(N:Addr->Prop) y cl,cU c N H2 y cl->(∀b,N b->H b=none/\b≠D)->cU c (λb=>H b=none/\b≠D) (upd H2 D (.lst (xs.map V.ref++[.ref x]))) y cl:=λN y cl q m=>q.keep (λb o e h=>by
    have nb:b≠D:=by
     rcases h with h|⟨C,dx,fs,rfl⟩
     .exact(m b h).2
     .exact aF e MO (by intro q;cases q)
    rw[ai nb]
    exact e) m
   refine⟨xs++[x],dn++[(n::ws)::rows],Nr,l.length-t.length,f',_,by omega,rfl,λb o e=>?_,by rw[aa,HL];rfl,by rw[Hx,IE];omega,Nat.sub_le _ _,?_,by rw[Jz];exact M9,h3⟩
   .rw[ai (au e hD)];exact s2 _ _ (sm _ _ e)
   .exact Paired.snoc (Paired.mapP pr λy cl q=>keep _ y cl (q.keep (λb o e _=>s2 _ _ e) λb h=>h) λb h=>h) (keep _ x _ ⟨n,ws,rows,_,rfl,cx⟩ λb h=>⟨sm.free h,λq=>by rw[q,NI]at h;cases h⟩)
  .have e:st=l.length:=by have q:¬(st:Int)<((l.map V.int).length:Int):=λq=>hge (He q);rw[G8]at q;omega
   have er:rest=[]:=by rw[e,List.drop_length]at hca;cases f<;>simp[PyFlat.calls]at hca<;>exact hca
   subst er;rw[IU]at M9;subst M9;exact⟨_,rfl,k H' D xs sm hD NI pr⟩
def nI(l:List Nat):List V:=(Vbptaj.ints l).map V.int
theorem bE(l:List Nat):(nI l).length=l.length:=by unfold nI Vbptaj.ints;rw[G8,G8]
theorem l9{l:List Nat}{i:Nat}{n:Nat}(h:l[i]?=some n):(nI l)[i]?=some (.int n):=by unfold nI Vbptaj.ints;rw[Hd,Hd,h];rfl
theorem jf{l:List Nat}{i:Nat}{v:V}(h:(nI l)[i]?=some v):∃n,l[i]?=some n/\v=.int (n:Nat):=by
 unfold nI Vbptaj.ints at h;rw[Hd,Hd]at h;cases e:l[i]? with
 |none=>rw[e]at h;cases h
 |some n=>rw[e]at h;cases h;exact⟨n,rfl,rfl⟩
theorem d7(l:List Nat):nI l=l.map λ(n:Nat)=>V.int n:=by unfold nI Vbptaj.ints;rw[HM];rfl
theorem BY{l:List Int}{i:Nat}{v:V}(h:(l.map V.int)[i]?=some v):∃n,l[i]?=some n/\v=.int n:=by
 rw[Hd]at h;cases e:l[i]? with
 |none=>rw[e]at h;cases h
 |some n=>rw[e]at h;cases h;exact⟨n,rfl,rfl⟩
theorem Ca(b p:Nat):decide (V.int (Builtin.bitAnd ((b:Int)/2^(p:Int).toNat) 1)=V.int 1)=b.testBit p:=by
 have e1:(b:Int)/2^(p:Int).toNat=((b/2^p:Nat):Int):=by
  rw[JB]
  push_cast
  rfl
 rw[e1];unfold Builtin.bitAnd;have h0:(0:Int)<=((b/2^p:Nat):Int):=JV _;rw[He h0];show decide (V.int (((((b/2^p:Nat):Int).toNat&&&(1:Int).toNat:Nat):Int))=V.int 1)=_;rw[JB,show(1:Int).toNat=1 from rfl,Nat.and_one_is_mod,Nat.testBit_eq_decide_div_mod_eq];apply HD.mpr;rw[Ht,Ht];constructor
 .intro h;injection h with h;omega
 .intro h;rw[h];rfl
inductive xk(vs:List V)(H:Hp)(Q:VK)(E:XK):Prop|mk(b p:Nat)(_:vs=[.int b,.int p])(_:Q (.bl (b.testBit p)) H)
theorem iQ(T:Txt P w K mg c):T.Fb.H P w base 1 (xk):=by refine aS T.Fb ["bits","place"] ?_;rintro _ _ _ _ _ H vs Q E hr _ _ _ nd ⟨b,p,rfl,k⟩;refine⟨_,(rt (eV bY (bH Df (bH xX (pv 0) (pv 1)) aI) aI (aD _))),?_⟩;refine⟨_,rfl,_,rfl,_,_,rfl,rfl,JV _,_,_,rfl,rfl,rfl,?_⟩;rw[Ca];exact k
theorem qP:∀(bs ls:List Nat),bs.length=ls.length->(bs.zip ls).all (λq=>q.1.testBit q.2)=inBox bs ls
 |[],[],_=>rfl
 |b::bs,l::ls,h=>by rw[IJ,Ji,qP bs ls (by simpa using h)];rfl
 |[],_::_,h=>by simp at h
 |_::_,[],h=>by simp at h
inductive yE(vs:List V)(H:Hp)(Q:VK)(E:XK):Prop|mk(a b:Addr)(bs ls:List Nat)(_:vs=[.ref a,.ref b])(_:H a=some (.lst (nI bs)))(_:H b=some (.lst (nI ls)))(_:bs.length=ls.length)(_:bs.length<=1000)(_:∀H',ak H H'->Q (.bl (inBox bs ls)) H')
theorem tU(T:Txt P w K mg c):T.Fc.H P w base 2 (yE):=by
 have B:=T.B;refine aS T.Fc ["box","variant","bits","leaf"] ?_;rintro _ _ _ _ s H vs Q E hr _ _ _ nd ⟨a,b,bs,ls,rfl,ha,hb,hl,hz,k⟩
 refine⟨_,(rt (aK (ip rfl) (by rfl) B.q fR (ag (bQ rfl nd (sy rfl B.q (p2 0 1)) (aX (own:=[("bits",2),("leaf",3)]) (by rfl))
  (by exact λ_ _ _ _ _=>(eU (K:=K) (n:=2) rfl rfl (bX (aT 2 nd) (bX (aT 3 nd) eT))))
  (by exact λ_ _ _ _ _=>b7)
  (by exact λ_ _ _ _ _=>(az (iQ T) hr (p2 2 3)))) aq))),?_⟩
 refine cn (gA (dP (bq ?_)));refine⟨_,rfl,_,rfl,a,b,_,_,rfl,SqL.of ha,SqL.of hb,?_⟩;refine bT (bs.zip ls) (λ_=>true) (λq=>V.bl (q.1.testBit q.2)) (Item:=λi v H'=>∃T x y,v=.ref T/\H' T=some (.tup [x,y])/\(nI bs)[i]?=some x/\(nI ls)[i]?=some y) ?_ ?_ ?_ ?_
 .have q:=nG (K:=K) (a:=a) (b:=b) (xs:=nI bs) (ys:=nI ls) (G:=λH'=>ak H H') (λH' s=>⟨SqL.of (s _ _ ha),SqL.of (s _ _ hb)⟩);rw[bE,bE,<-Jf]at q;exact q
 .rw[Jf];exact aG (by omega)
 .rintro i ⟨m,l⟩ v H' R hi s' ⟨T,x,y,rfl,hT,hx,hy⟩ k';obtain⟨h1,h2⟩:=I0.mp hi;rw[l9 h1]at hx;rw[l9 h2]at hy;cases hx;cases hy;refine⟨T,_,rfl,SqT.of hT,rfl,_,_,rfl,_,_,rfl,rfl,rfl,?_⟩;refine ck (bS ?_);refine⟨_,rfl,_,rfl,m,l,rfl,?_⟩;exact(k' H' (ak.refl _)).1 rfl
 .intro D H' hD s' N6;refine⟨D,(bs.zip ls).map (λq=>q.1.testBit q.2),rfl,SqL.of ?_,?_⟩
  .rw[N6,bh,HM];rfl
  .rw[KP];have e:=qP bs ls hl;have e2:(bs.zip ls).all (id∘λq=>q.1.testBit q.2)=(bs.zip ls).all (λq=>q.1.testBit q.2):=rfl;rw[e2,e];exact k H' s'
def d_(H:Hp)(a:Addr)(rows:List (List Nat)):Prop:=∃rs:List Addr,H a=some (.lst (rs.map V.ref))/\Paired (λr row=>H r=some (.lst (nI row))) rs rows
theorem d_.same(h:d_ H a rows)(s:ak H H'):d_ H' a rows:=by obtain⟨rs,h1,h2⟩:=h;exact⟨rs,s _ _ h1,Paired.mapP h2 λ_ _ q=>s _ _ q⟩
theorem gS{α:Type}{F:Hp->Addr->α->Prop}{H1:Hp}{a:Addr}{rs:List Addr}{xs:List α}(h:H1 a=some (.lst (rs.map V.ref)))(p:Paired (F H1) rs xs)(mono:∀H H' r x,ak H H'->F H r x->F H' r x):fg (Itl K a) xs.length (λH=>ak H1 H) (λi v H=>∃r x,v=.ref r/\rs[i]?=some r/\xs[i]?=some x/\F H r x):=by
 have q:=b9 (K:=K) (a:=a) (xs:=rs.map V.ref) (G:=λH=>ak H1 H) (λH s=>SqL.of (s _ _ h));rw[G8,HC p]at q;refine⟨q.go,q.stop,λi H x H' g hi y=>?_⟩;obtain⟨s,it⟩:=q.yld i H x H' g hi y;refine⟨s,?_⟩;rw[Hd]at it;cases e:rs[i]? with
 |none=>rw[e]at it;cases it
 |some r=>rw[e]at it;cases it;obtain⟨x,hx,hf⟩:=gg p e;exact⟨r,x,rfl,rfl,hx,mono _ _ _ _ (g.trans s) hf⟩
inductive p8(vs:List V)(H:Hp)(Q:VK)(E:XK):Prop|mk(a b:Addr)(bs:List (List Nat))(ls:List Nat)(_:vs=[.ref a,.ref b])(_:d_ H a bs)(_:H b=some (.lst (nI ls)))(_:(∀x∈bs,x.length=ls.length))(_:ls.length<=1000)(_:bs.length<=1000)(_:∀H',ak H H'->Q (.bl (bs.any λx=>inBox x ls)) H')
theorem rR(T:Txt P w K mg c):T.Fd.H P w base 3 (p8):=by
 have B:=T.B;refine aS T.Fd ["boxes","variant","box"] ?_;rintro _ _ _ _ s H vs Q E hr _ _ _ nd ⟨a,b,bs,ls,rfl,⟨rs,ha,pr⟩,hb,hl,hz,O9,k⟩
 refine⟨_,(rt (aK (yl rfl) (by rfl) B.q ug (ag (bQ rfl nd (a8 (pv 0)) (aX (own:=[("box",2)]) (by rfl))
  (by exact λ_ _ _ _ _=>(aT 2 nd))
  (by exact λ_ _ _ _ _=>b7)
  (by exact λ_ _ _ _ _=>(az (tU T) hr (p2 2 1)))) aq))),?_⟩
 refine cn (gA (dP (bq ?_)));refine⟨_,rfl,a,rfl,⟨_,SqL.of ha⟩,?_⟩;refine bT bs (λ_=>true) (λx=>V.bl (inBox x ls)) (gS (F:=λH r row=>H r=some (.lst (nI row))) ha pr λH H' r x s h=>s _ _ h) (aG O9) ?_ ?_
 .rintro i x v H' R hi s' ⟨r,x',rfl,hr,Nt,MJ⟩ k';have e:x'=x:=Hg (Nt.symm.trans hi);subst e;refine⟨rfl,ck (bS ?_)⟩;have hlx:=hl x' (Hl hi);exact⟨_,rfl,_,rfl,r,b,x',ls,rfl,MJ,s' _ _ hb,hlx,by omega,λH2 s2=>(k' H2 s2).1 rfl⟩
 .intro D H' hD s' N6;refine⟨D,bs.map (λx=>inBox x ls),rfl,SqL.of ?_,?_⟩
  .rw[N6,bh,HM];rfl
  .rw[Kv];exact k H' s'
theorem gN{i:Nat}{v:V}{σ:L2.St}{H:Hp}{Q:L2.St->Hp->Prop}(h:Q (σ.set i (some v)) H):bu i v σ H Q:=h
theorem aB{n:Nat}(h:n<=1000:=by exact Nat.le_of_ble_eq_true rfl):n<=sizeLine:=Js (aG h)
theorem uw{n:Nat}(h:n<=1000):n+1<=sizeLine:=Hv (Nat.add_le_add_right h 1) (by decide)
theorem pL{len c:Nat}(hc:1<=c)(Ph:c<=1000)(hl:len<=16000):RgC 0 len c ((len+c-1)/c):=by
 have hs:Builtin.Range.rangeSize 0 (len:Int) (c:Int)=(((len+c-1)/c:Nat):Int):=by
  rw[rangeSize_pos (by omega) (by omega)];have e:(len:Int)+c-1=((len+c-1:Nat):Int):=by omega
  rw[e];rfl
 refine⟨by omega,by omega,?_,hs⟩;unfold Builtin.Range.small;rw[hs];have hb:(len+c-1)/c<=17000:=Hv (Nat.div_le_self _ _) (by omega);generalize(len+c-1)/c=n at hb;simp only[Builtin.Range.rangeFitsLong,and_eq_true,or_eq_true,decide_eq_true_eq,beq_iff_eq,show((c:Int)>0) by omega,if_true];omega
theorem i5{α:Type}{H:Hp}{D:Addr}{f:α->List Int}:∀{xs:List α}{ys:List V},Paired (λa y=>∃r,y=V.ref r/\r≠D/\H r=some (.lst ((f a).map V.int))) xs ys->∃rs:List Addr,ys=rs.map V.ref/\Paired (λr row=>H r=some (.lst (row.map V.int))/\r≠D) rs (xs.map f)
 |_,_,.nil=>⟨[],rfl,.nil⟩
 |_,_,.cons ⟨r,e,n,h⟩ t=>by obtain⟨rs,e2,p⟩:=i5 t;exact⟨r::rs,by rw[e,e2];rfl,.cons ⟨h,n⟩ p⟩
def de(k:Nat)(l:List Int):List (List Int):=(List.range ((l.length+k-1)/k)).map λi=>(l.drop (i*k)).take k
def n_(H:Hp)(a:Addr)(rows:List (List Int)):Prop:=∃rs:List Addr,H a=some (.lst (rs.map V.ref))/\Paired (λr row=>H r=some (.lst (row.map V.int))) rs rows
theorem n_.same{H H':Hp}{a:Addr}{rows:List (List Int)}(h:n_ H a rows)(s:ak H H'):n_ H' a rows:=by obtain⟨rs,h1,h2⟩:=h;exact⟨rs,s _ _ h1,Paired.mapP h2 λ_ _ q=>s _ _ q⟩
inductive ut(vs:List V)(H:Hp)(Q:VK)(E:XK):Prop|mk(k:Nat)(a:Addr)(l:List Int)(_:vs=[.int k,.ref a])(_:H a=some (.lst (l.map V.int)))(_:1<=k)(_:k<=1000)(_:l.length<=60)(_:∀H' D,ak H H'->H D=none->n_ H' D (de k l)->Q (.ref D) H')
theorem mW(T:Txt P w K mg c):T.Fe.H P w base 1 (ut):=by
 have B:=T.B;refine aS T.Fe ["features","row","start"] ?_;rintro f _ _ _ _ H vs Q E hr _ _ _ nd ⟨m,a,l,rfl,ha,hm,hm2,hz,k⟩
 refine⟨_,(rt (bQ rfl nd (kQ rfl B.q (ag aI (ag (aK aV (by rfl) B.q Ig (p1 1)) (p1 0)))) (aX (own:=[("start",2)]) (by rfl))
  (by exact λ_ _ _ _ _=>(aT 2 nd))
  (by exact λ_ _ _ _ _=>b7)
  (by exact λ_ _ _ _ _=>(nB (zN (K:=K) rfl) (pv 1) (ib (pv 2)) (ib (bH d6 (pv 2) (pv 0))))))),?_⟩
 refine cn (bq ?_);refine⟨_,rfl,a,_,rfl,.inl (SqL.of ha),_,rfl,_,_,_,_,rfl,by rw[G8];exact pL hm hm2 (by omega),?_⟩;have hn:(l.length+m-1)/m<=60:=by
  refine Hv (Nat.div_le_of_le_mul (k:=m) (n:=60) ?_) (Hu _);have:m*60=m*59+m:=by omega
  have h2:59<=m*59:=Nat.le_mul_of_pos_left 59 hm;omega
 refine sK (List.range ((l.length+m-1)/m)) (λ_=>true) (λD i y H=>∃r,y=V.ref r/\r≠D/\H r=some (.lst (((l.drop (i*m)).take m).map V.int))) (Item:=λi x _=>x=.int (0+(i:Nat)*(m:Int))) ?_ ?_ ?_ ?_ ?_
 .rw[Ic];exact i7
 .rw[Ic];exact aG (by omega)
 .rintro D i y H1 H2 kp ⟨r,e,nr,hr⟩;exact⟨r,e,nr,kp _ _ nr hr⟩
 .intro i j x D ys H' R hj s' hD NI hx k';obtain⟨hji,hjj⟩:=HQ.mp hj;rw[Ic]at hji;rw[Ki]at hjj;subst hjj;subst hx;have Mq:i*m<l.length:=by have h1:=(Nat.lt_div_iff_mul_lt (by omega:0<m)).mp hji;omega
  refine⟨rfl,ck (bS ?_)⟩;refine⟨_,rfl,_,rfl,_,rfl,_,rfl,_,rfl,_,_,rfl,rfl,_,rfl,a,_,rfl,SqL.of (s' _ _ ha),λp hp=>?_⟩;refine(k' _ _ (ak.upd hp)).1 rfl ⟨p,rfl,λe=>?_,?_⟩
  .rw[e]at hp;rw[NI]at hp;cases hp
  .rw[aa];refine HU (λz=>some (HO.lst z)) ?_;have e1:(0:Int)+(i:Nat)*(m:Int)=((i*m:Nat):Int):=by push_cast;omega
   have e2:(0:Int)+(i:Nat)*(m:Int)+(m:Int)=((i*m+m:Nat):Int):=by push_cast;omega
   rw[e2,e1];unfold jB;rw[HT.sIx_nat,HT.sIx_nat,G8,KH (Js Mq),<-map_drop,<-map_take];congr 1;by_cases h:i*m+m<=l.length
   .rw[KH h];congr 1;omega
   .rw[Nat.min_eq_right (by omega)];rw[JN (by rw[IC];omega),JN (by rw[IC];omega)]
 .intro D H' ys hD s' hy pr;rw[bh]at pr;obtain⟨rs,rfl,pr2⟩:=i5 (f:=λi=>(l.drop (i*m)).take m) pr;exact k H' D s' hD ⟨rs,hy,Paired.mapP pr2 λ_ _ q=>q.1⟩
def e_(vs:List (List Nat))(k:Nat):List (List Nat):=vs.flatMap λr=>(List.range k).map λx=>r++[x]
theorem qU:∀(ks:List Nat)(vs:List (List Nat)),ks.foldl e_ vs=vs.flatMap λr=>(variants ks).map λt=>r++t
 |[],vs=>by simp[variants]
 |k::ks,vs=>by rw[IV,qU ks];unfold e_;rw[List.flatMap_assoc];congr 1;funext r;rw[variants,map_flatMap,flatMap_map];congr 1;funext x;rw[HM];congr 1;funext t;simp
theorem g0(ks:List Nat):ks.foldl e_ [[]]=variants ks:=by rw[qU];simp
theorem nO(vs:List (List Nat))(k:Nat):(e_ vs k).length=vs.length*k:=by
 unfold e_;induction vs with
 |nil=>simp
 |cons r t ih=>rw[Iu,Hx,ih,G8,Ic,Hr,succ_mul];omega
theorem pR:∀(vs:List (List Nat))(k:Nat)(i:Nat),0<k->i<vs.length*k->∃r,vs[i/k]?=some r/\(e_ vs k)[i]?=some (r++[i%k])
 |[],k,i,hk,h=>by simp at h
 |r::t,k,i,hk,h=>by
  unfold e_;rw[Iu];by_cases hi:i<k
  .refine⟨r,by rw[K2 hi];rfl,?_⟩;rw[J1 (by rw[G8,Ic];exact hi),Hd,List.getElem?_range hi,Nat.mod_eq_of_lt hi];rfl
  .have e1:i/k=(i-k)/k+1:=by rw[Nat.div_eq_sub_div hk (by omega)]
   have e2:i%k=(i-k)%k:=Nat.mod_eq_sub_mod (by omega);rw[Hr,succ_mul]at h;obtain⟨r',h1,h2⟩:=pR t k (i-k) hk (by omega);refine⟨r',by rw[e1];exact h1,?_⟩;rw[JW (by rw[G8,Ic];omega),G8,Ic,e2];exact h2
theorem xH(vs:List (List Nat))(k:Nat)(hk:0<k):(List.range (vs.length*k)).map (λi=>vs.getD (i/k) []++[i%k])=e_ vs k:=by
 apply List.ext_getElem?;intro i;by_cases h:i<vs.length*k
 .obtain⟨r,h1,h2⟩:=pR vs k i hk h;rw[h2,Hd,List.getElem?_range h];simp[getD_eq_getElem?_getD,h1]
 .rw[IH (by rw[G8,Ic];omega),IH (by rw[nO];omega)]
theorem qA:∀(ks:List Nat)(a:Nat),(∀k∈ks,1<=k)->a<=ks.foldl (λa b=>a*b) a
 |[],a,_=>Hu _
 |k::ks,a,h=>by rw[IV];refine Hv ?_ (qA ks (a*k) λx hx=>h x (Hh _ hx));exact Lu a (h k (Hk ..))
theorem iG:∀(ks:List Nat)(vs:List (List Nat)),(ks.foldl e_ vs).length=ks.foldl (λa b=>a*b) vs.length
 |[],vs=>rfl
 |k::ks,vs=>by rw[IV,IV,iG ks,nO]
theorem yz(ks:List Nat)(h:∀k∈ks,1<=k)(i:Nat)(a:Nat):(ks.take i).foldl (λa b=>a*b) a<=ks.foldl (λa b=>a*b) a:=by
 conv=>rhs;rw[<-JA i ks]
 rw[JM];exact qA _ _ λk hk=>h k (List.mem_of_mem_drop hk)
theorem j6:∀(ks:List Nat)(vs:List (List Nat))(n:Nat),(∀r∈vs,r.length=n)->∀r∈ks.foldl e_ vs,r.length=n+ks.length
 |[],vs,n,h,r,hr=>by rw[foldl_nil]at hr;rw[h r hr];rfl
 |k::ks,vs,n,h,r,hr=>by
  rw[IV]at hr;rw[j6 ks (e_ vs k) (n+1) (λr' Oh=>?_) r hr,Hr]
  .omega
  .unfold e_ at Oh;obtain⟨x,hx,h1⟩:=mem_flatMap.mp Oh;obtain⟨y,_,rfl⟩:=HA.mp h1;rw[Hx,h x hx,IE]
theorem cQ(ks:List Nat)(h:v∈variants ks):v.length=ks.length:=by rw[<-g0]at h;rw[j6 ks [[]] 0 (λr hr=>by rw[HH.mp hr];rfl) v h];omega
theorem kT(a b:List Nat):nI (a++b)=nI a++nI b:=by rw[d7,d7,d7,HL]
theorem jV:d_ H a rows↔n_ H a (rows.map Vbptaj.ints):=by
 have key:∀{rs:List Addr}{rows:List (List Nat)},Paired (λr row=>H r=some (.lst (nI row))) rs rows↔Paired (λr row=>H r=some (.lst (row.map V.int))) rs (rows.map Vbptaj.ints):=by
  intro rs rows;constructor
  .intro h;induction h with
   |nil=>exact .nil
   |cons r t ih=>exact .cons r ih
  .intro h;induction rows generalizing rs with
   |nil=>cases h;exact .nil
   |cons row rows ih=>
    cases h with
    |cons r t=>exact .cons r (ih t)
 constructor
 .rintro⟨rs,h1,h2⟩;exact⟨rs,h1,key.mp h2⟩
 .rintro⟨rs,h1,h2⟩;exact⟨rs,h1,key.mpr h2⟩
inductive pW(vs:List V)(H:Hp)(Q:VK)(E:XK):Prop|mk(a:Addr)(ks:List Nat)(_:vs=[.ref a])(_:H a=some (.lst (nI ks)))(_:(∀k∈ks,1<=k))(_:(∀k∈ks,k<=8))(_:ks.length<=6)(_:ks.foldl (λa b=>a*b) 1<=64)(_:∀H' D,ak H H'->H D=none->d_ H' D (variants ks)->Q (.ref D) H')
theorem km(T:Txt P w K mg c):T.Ff.H P w base 1 (pW):=by
 have B:=T.B;refine aS T.Ff ["field","found","leaves","at"] ?_;rintro f _ _ _ s H vs Q E hr _ _ _ nd ⟨a,ks,rfl,ha,hk1,hk8,hkl,hp,k⟩
 refine⟨_,(aj (aO 1 nd (aW (ag (aW aq) aq)))
 (aj (cy HI rfl (a8 (pv 0)) (aT 2 nd)
 (aL (aO 1 nd (bQ rfl nd (yM rfl B.q (ag (bH xY (aK aV (by rfl) B.q Ig (p1 1)) (pv 2)) aq)) (aX (own:=[("at",3)]) (by rfl))
  (by exact λ_ _ _ _ _=>(aT 3 nd))
  (by exact λ_ _ _ _ _=>b7)
  (by exact λ_ _ _ _ _=>(bH fk (cr (Ap (K:=K) rfl) (pv 1) (bH BJ (pv 3) (pv 2)) (λ_ _=>rfl)) (aW (ag (bH xZ (pv 3) (pv 2)) aq))))))))
 (rt (pv 1)))),?_⟩
 refine⟨HJ _,λr0 NT=>?_⟩;refine⟨aB,λD0 hD0=>?_⟩;have n0:r0≠D0:=au aa hD0;have s0:ak H (upd (upd H r0 (.lst [])) D0 (.lst [.ref r0])):=(ak.upd NT).trans (ak.upd hD0);have fr0:H D0=none:=ak.free (ak.upd NT) hD0;refine gN ?_;dsimp only;refine sk (cw ?_);refine⟨_,rfl,a,rfl,⟨_,SqL.of (s0 _ _ ha)⟩,?_⟩;refine cB (b9 (K:=K) (a:=a) (xs:=nI ks) (G:=λH'=>ak H H') λH' s=>SqL.of (s _ _ ha)) (λi σ H'=>∃D v2,σ=[some (.ref a),some (.ref D),v2,none]/\ak H H'/\H D=none/\d_ H' D ((ks.take i).foldl e_ [[]])) ?_ ?_ ?_ ?_
 .refine⟨D0,none,rfl,s0,fr0,[r0],aa,.cons ?_ .nil⟩;rw[ai n0];exact aa
 .rintro i σ H' _ ⟨D,v2,_,s,_⟩;exact s
 .rintro i x σ H1 H2 hi ⟨D,v2,rfl,s1,hD,Mz⟩ s2 hx;have Mg:=s1.trans s2;obtain⟨m,hm,rfl⟩:=jf hx;have hm1:1<=m:=hk1 m (Hl hm);have hm8:m<=8:=hk8 m (Hl hm);generalize hvs:(ks.take i).foldl e_ [[]]=vs0 at Mz;have L3:vs0.length*m<=64:=by
   have e:((ks.take (i+1)).foldl e_ [[]]).length=vs0.length*m:=by rw[a6 hm,JM,hvs,IV,foldl_nil,nO]
   rw[<-e,iG];exact Hv (yz ks hk1 (i+1) 1) hp
  obtain⟨rs,hr,pr⟩:=Mz.same s2;have lrs:rs.length=vs0.length:=HC pr;have hv64:vs0.length<=64:=Hv (Lu _ hm1) L3;refine sw (bq ?_);refine⟨_,rfl,D,_,rfl,.inl (SqL.of hr),_,rfl,_,_,rfl,rfl,.inr ⟨by omega,by omega⟩,_,rfl,?_,?_,?_⟩
  .rw[G8,lrs];have:(0:Int)<=(vs0.length:Int)*(m:Int):=Int.mul_nonneg (by omega) (by omega);omega
  .rw[G8,lrs];have:((vs0.length*m:Nat):Int)=(vs0.length:Int)*(m:Int):=by push_cast;rfl
   omega
  have en:((rs.map V.ref).length*(m:Int):Int).toNat=vs0.length*m:=by
   rw[G8,lrs];have:((vs0.length*m:Nat):Int)=(vs0.length:Int)*(m:Int):=by push_cast;rfl
   omega
  show jj (Itr 0 (((rs.map V.ref).length:Int)*(m:Int)).toNat) _ _ _ _ _ _ _;rw[en];refine sK (List.range (vs0.length*m)) (λ_=>true) (λD' j y H=>∃r,y=V.ref r/\r≠D'/\H r=some (.lst ((Vbptaj.ints (vs0.getD (j/m) []++[j%m])).map V.int))) (Item:=λj x _=>x=.int (0+(j:Nat))) ?_ ?_ ?_ ?_ ?_
  .rw[Ic];exact xz
  .rw[Ic];exact aG (by omega)
  .rintro D' j y H1 H2 kp ⟨r,e,nr,hr⟩;exact⟨r,e,nr,kp _ _ nr hr⟩
  .intro j j' x D' ys H3 R hj s3 MK hD3' hx k';obtain⟨hji,hjj⟩:=HQ.mp hj;rw[Ic]at hji;rw[Ki]at hjj;subst hjj;subst hx;obtain⟨row,MJ,_⟩:=pR vs0 m j hm1 hji;obtain⟨r,hrr,hrH⟩:=dA pr MJ;have ed:(0+(j:Nat):Int)/(m:Int)=((j/m:Nat):Int):=by rw[Int.zero_add];rfl
   have em:(0+(j:Nat):Int)%(m:Int)=((j%m:Nat):Int):=by rw[Int.zero_add];rfl
   refine⟨rfl,ck (bS ?_)⟩;refine⟨_,rfl,_,rfl,_,rfl,_,_,rfl,rfl,⟨by omega,by omega⟩,D,_,_,_,rfl,rfl,SqL.of (s3 _ _ hr),aN (j:=j/m) ed (by rw[Hd,hrr];rfl),?_⟩;refine⟨_,rfl,_,rfl,_,_,rfl,rfl,by show(0:Int)<m;omega,aB,λq hq=>?_⟩;have lrow:row.length<=1000:=by
    have h1:row∈(ks.take i).foldl e_ [[]]:=by rw[hvs];exact Hl MJ
    have h2:=j6 (ks.take i) [[]] 0 (λr hr=>by rw[HH.mp hr];rfl) row h1;have h3:(ks.take i).length<=i:=by rw[Iv];omega
    have h4:i<ks.length:=by rw[bE]at hi;exact hi
    omega
   refine⟨r,q,_,_,rfl,rfl,by rw[ai (au (s3 _ _ hrH) hq)];exact s3 _ _ hrH,aa,?_,λp hp=>?_⟩
   .rw[bE];exact uw lrow
   .refine(k' _ _ ((ak.upd hq).trans (ak.upd hp))).1 rfl ⟨p,rfl,λe=>?_,?_⟩
    .subst e;rw[ai (au hD3' hq),hD3']at hp;cases hp
    .rw[aa];refine HU (λz=>some (HO.lst z)) ?_;have e1:vs0.getD (j/m) []=row:=by rw[Iw,MJ];rfl
     rw[e1];show nI row++[V.int ((0+(j:Nat):Int)%(m:Int))]=nI (row++[j%m]);rw[kT,em];rfl
  .intro D' H3 ys NI s3 hy pr';rw[bh]at pr';obtain⟨rs',rfl,pr2⟩:=i5 (f:=λj=>Vbptaj.ints (vs0.getD (j/m) []++[j%m])) pr';refine⟨D',some (.int m),rfl,Mg.trans s3,Mg.free NI,?_⟩;rw[a6 hm,JM,hvs,IV,foldl_nil,<-xH vs0 m hm1];refine jV.mpr ⟨rs',hy,?_⟩;rw[HM];exact Paired.mapP pr2 λ_ _ q=>q.1
 .rintro σ H' ⟨D,v2,rfl,s1,hD,Mz⟩;rw[bE,Im,g0]at Mz;exact⟨_,rfl,k H' D s1 hD Mz⟩
theorem Qbl{Q:VK}{b b':Bool}{H:Hp}(k:Q (.bl b) H)(e:b=b'):Q (.bl b') H:=e▸k
theorem Rbl{R:Option V->Hp->Prop}{b b':Bool}{H:Hp}(k:R (some (.bl b)) H)(e:b=b'):R (some (.bl b')) H:=e▸k
def ax(name:Str)(n:Int):Bool:=match d4.lookup name with
 |some [lo,hi]=>decide (lo<=n)&&decide (n<=hi)
 |_=>true
theorem Bx:∀(name:Str)(xs:List Int),d4.lookup name=some xs->∃lo hi,xs=[lo,hi]:=by
 have q:∀(t:List (Str×List Int)),(t.all λe=>decide (e.2.length=2))=true->∀(name:Str)(xs:List Int),t.lookup name=some xs->xs.length=2:=by
  intro t;induction t with
  |nil=>intro _ name xs h;cases h
  |cons e t ih=>
   intro ha name xs h;rw[Ji,Hq]at ha;rw[JF]at h;cases hb:name==e.1 with
   |true=>rw[hb]at h;cases h;exact Hb ha.1
   |false=>rw[hb]at h;exact ih ha.2 name xs h
 intro name xs h;have:=q d4 (by decide) name xs h
 match xs,this with
 |[lo,hi],_=>exact⟨lo,hi,rfl⟩
theorem sS{bs:List (Str×Addr)}{tab:List (Str×List Int)}(pr:Paired (λp e=>p.1=e.1/\KT K p.2 (e.2.map V.int)) bs tab)(x:Str):(tab.lookup x=none->(bs.map λp=>(p.1,V.ref p.2)).lookup x=none)/\∀xs,tab.lookup x=some xs->∃b,(bs.map λp=>(p.1,V.ref p.2)).lookup x=some (.ref b)/\KT K b (xs.map V.int):=by
 induction pr with
 |nil=>exact⟨λ_=>rfl,λxs h=>by cases h⟩
 |cons r t ih=>
  rename_i p e bs tab;obtain⟨r1,r2⟩:=r;rw[Hf,JF,JF,r1];cases hb:x==e.1 with
  |true=>exact⟨λh=>by simp at h,λxs h=>by cases h;exact⟨_,rfl,r2⟩⟩
  |false=>exact ih
inductive u7(vs:List V)(H:Hp)(Q:VK)(E:XK):Prop|mk(name:Str)(n:Int)(_:vs=[.str name,.int n])(_:Q (.bl (ax name n)) H)
theorem xE(T:Txt P w K mg c):T.Fv.H P w base 1 (u7):=by
 obtain⟨NL,NM,OL⟩:=T.GO;refine aS T.Fv ["name","number","bounds"] ?_;rintro _ _ _ _ _ H vs Q E hr _ _ _ nd ⟨name,n,rfl,k⟩;obtain⟨bs,hd,pr⟩:=OL;obtain⟨l1,l2⟩:=sS pr name
 refine⟨_,(aj (a9 (aA vj (pv 0) (fC rfl NM) (by with_unfolding_all rfl)) (rt eR) aM)
 (aj (aO 2 nd (tD (fC rfl NM) (pv 0) (λ_ _=>rfl)))
 (rt (tE fF fF (cr gO (pv 2) aI (λ_ _=>rfl)) (pv 1) (cr gO (pv 2) aI (λ_ _=>rfl)))))),?_⟩
 refine⟨_,rfl,NL,_,name,rfl,rfl,hd,_,rfl,?_⟩;cases ht:d4.lookup name with
 |none=>
  rw[l1 ht];refine bS ?_;have e:ax name n=true:=by unfold ax;rw[ht]
  rw[e]at k;exact k
 |some xs=>
  obtain⟨b,hb,hk⟩:=l2 xs ht;obtain⟨lo,hi,rfl⟩:=Bx name xs ht;rw[hb];refine eh ?_;refine⟨_,rfl,NL,_,name,_,rfl,rfl,hd,hb,?_⟩;have e:ax name n=(decide (lo<=n)&&decide (n<=hi)):=by unfold ax;rw[ht]
  rw[e]at k;refine⟨_,rfl,b,_,_,_,rfl,rfl,hk H,aN (j:=0) rfl rfl,_,rfl,_,_,rfl,rfl,_,rfl,aP (λh1=>?_) λh1=>?_⟩
  .refine⟨_,rfl,b,_,_,_,rfl,rfl,hk H,aN (j:=1) rfl rfl,_,_,rfl,rfl,?_⟩;rw[h1,HE]at k;exact k
  .rw[Jw]at h1;rw[h1,HV]at k;exact k
def cS(l:List Int):Bool:=decide (1<=l.length/\l.length<=6)&&(l.all (λx=>decide (1<=x/\x<=8))&&decide ((l.map toNat).foldl (λa b=>a*b) 1<=64))
inductive uq(vs:List V)(H:Hp)(Q:VK)(E:XK):Prop|mk(a:Addr)(l:List Int)(_:vs=[.ref a])(_:H a=some (.lst (l.map V.int)))(_:∀H',ak H H'->Q (.bl (cS l)) H')
theorem vD(T:Txt P w K mg c):T.Fw.H P w base 1 (uq):=by
 have B:=T.B;refine aS T.Fw ["row","variants","leaves"] ?_;rintro _ _ _ _ s H vs Q E hr _ _ _ nd ⟨a,l,rfl,ha,k⟩
 refine⟨_,(aj (a9 (PW.pt (jE (aA gB (aK aV (by rfl) B.q Ig (p1 0)) aI (aD _)) (jd (aA l8 (aK aV (by rfl) B.q Ig (p1 0)) (bf rfl T.GH) (aD _))))) (rt eR) aM)
 (aj (aO 1 nd aI)
 (aj (cy HI rfl (a8 (pv 0)) (aT 2 nd)
 (aj (a9 (PW.pt (jE (aA gB (pv 2) aI (aD _)) (jd (aA l8 (pv 2) (bf rfl T.GI) (aD _))))) (rt eR) aM)
 (aL (aO 1 nd (bH xY (pv 1) (pv 2))))))
 (rt (eV fF (pv 1) (bf rfl T.GJ) (aD _)))))),?_⟩
 have OM:¬(1<=l.length/\l.length<=6)->Q (.bl false) H:=λh=>by
  have e:cS l=false:=by unfold cS;rw[Hw h,HV]
  rw[e]at k;exact k H (ak.refl _)
 refine⟨_,rfl,a,_,rfl,.inl (SqL.of ha),_,_,rfl,rfl,_,rfl,aP (λh1=>bS (OM ?_)) λh1=>?_⟩
 .have h1:=Hb h1;rw[G8]at h1;omega
 refine⟨_,rfl,a,_,rfl,.inl (SqL.of ha),_,_,rfl,rfl,_,rfl,aP (λh2=>OM ?_) λh2=>?_⟩
 .have h2:=Hb h2;rw[G8]at h2;omega
 have Pr:1<=l.length/\l.length<=6:=by have g1:¬((l.map V.int).length:Int)<1:=λq=>h1 (He q);have g2:¬(6:Int)<((l.map V.int).length:Int):=λq=>h2 (He q);rw[G8]at g1 g2;omega
 dsimp only[bp,b6,cu,tC,bu];refine cw ?_;refine⟨_,rfl,a,rfl,⟨_,SqL.of ha⟩,?_⟩;have OI:(∃x∈l,¬(1<=x/\x<=8))->∀H',ak H H'->Q (.bl false) H':=λ⟨x,hx,h⟩=>by
  have e:cS l=false:=by
   unfold cS;have e2:l.all (λx=>decide (1<=x/\x<=8))=false:=by rw[List.all_eq_false];exact⟨x,hx,by simpa using h⟩
   rw[e2,HV,JY]
  rw[e]at k;exact k
 refine cB (b9 (K:=K) (a:=a) (xs:=l.map V.int) (G:=λH'=>ak H H') λH' s=>SqL.of (s _ _ ha)) (λi σ H'=>∃v2,σ=[some (.ref a),some (.int ((((l.take i).map toNat).foldl (λa b=>a*b) 1:Nat))),v2]/\ak H H'/\∀x∈l.take i,1<=x/\x<=8) ?_ ?_ ?_ ?_
 .exact⟨none,rfl,ak.refl _,λx hx=>by simp at hx⟩
 .rintro i σ H' _ ⟨v2,_,e,_⟩;exact e
 .rintro i x σ H1 H2 hi ⟨v2,rfl,s1,O_⟩ s2 hx;obtain⟨n,hn,rfl⟩:=BY hx;have Mf:n∈l:=Hl hn;have Mg:=s1.trans s2;refine⟨_,rfl,_,_,rfl,rfl,_,rfl,aP (λh3=>bS (OI ⟨n,Mf,?_⟩ _ Mg)) λh3=>?_⟩
  .have h3:=Hb h3;omega
  refine⟨_,rfl,_,_,rfl,rfl,_,rfl,aP (λh4=>OI ⟨n,Mf,?_⟩ _ Mg) λh4=>?_⟩
  .have h4:=Hb h4;omega
  have h3':¬n<1:=λq=>h3 (He q);have h4':¬(8:Int)<n:=λq=>h4 (He q);refine⟨_,rfl,_,rfl,_,_,rfl,rfl,.inr ⟨by omega,by omega⟩,?_⟩;refine⟨some (.int n),?_,Mg,λx hx=>?_⟩
  .have e1:((((l.take (i+1)).map toNat).foldl (λa b=>a*b) 1:Nat):Int)=((((l.take i).map toNat).foldl (λa b=>a*b) 1:Nat):Int)*n:=by rw[a6 hn,HL,JM,Hf,Kc,IV,foldl_nil,Int.natCast_mul,Kw (by omega)]
   rw[e1];rfl
  .rw[a6 hn]at hx;rcases H_.mp hx with hx|hx
   .exact O_ x hx
   .rw[HH.mp hx];omega
 .rintro σ H' ⟨v2,rfl,s1,O_⟩;rw[G8,Im]at*;have e:cS l=decide ((l.map toNat).foldl (λa b=>a*b) 1<=64):=by unfold cS;rw[He Pr,HE];have e2:l.all (λx=>decide (1<=x/\x<=8))=true:=Ij.mpr λx hx=>He (O_ x hx);rw[e2,HE]
  rw[e]at k;refine⟨_,rfl,_,_,rfl,rfl,?_⟩;exact Qbl (k H' s1) (JK.mpr (by omega))
def cg(ks:List Nat)(l:List Int):Bool:=decide (l.length=ks.length)&&(l.zip ks).all λp=>decide (1<=p.1)&&decide (p.1/2^p.2=0)
inductive yD(vs:List V)(H:Hp)(Q:VK)(E:XK):Prop|mk(b a:Addr)(ks:List Nat)(l:List Int)(_:vs=[.ref b,.ref a])(_:H b=some (.lst (nI ks)))(_:H a=some (.lst (l.map V.int)))(_:ks.length<=1000)(_:∀H',ak H H'->Q (.bl (cg ks l)) H')
theorem tT(T:Txt P w K mg c):T.Fx.H P w base 1 (yD):=by
 have B:=T.B;refine aS T.Fx ["field","row","bits","leaves"] ?_;rintro _ _ _ _ s H vs Q E hr _ _ _ nd ⟨b,a,ks,l,rfl,hb,ha,hz,k⟩
 refine⟨_,(aj (a9 (aA l7 (aK aV (by rfl) B.q Ig (p1 1)) (aK aV (by rfl) B.q Ig (p1 0)) (aD _)) (rt eR) aM)
 (rt (aK (ip rfl) (by rfl) B.q fR (ag (bQ rfl nd (sy rfl B.q (p2 1 0)) (aX (own:=[("bits",2),("leaves",3)]) (by rfl))
  (by exact λ_ _ _ _ _=>(eU (K:=K) (n:=2) rfl rfl (bX (aT 2 nd) (bX (aT 3 nd) eT))))
  (by exact λ_ _ _ _ _=>b7)
  (by exact λ_ _ _ _ _=>(je (eV r9 (pv 2) aI (aD _)) (kG (eV bY (bH xX (pv 2) (pv 3)) aI (aD _)))))) aq)))),?_⟩
 refine⟨_,rfl,a,_,rfl,.inl (SqL.of ha),_,rfl,b,_,rfl,.inl (SqL.of hb),rfl,_,rfl,aP (λh1=>?_) λh1=>?_⟩
 .have e:cg ks l=false:=by
   unfold cg;have h2:¬l.length=ks.length:=λq=>by rw[G8,bE,q]at h1;simp at h1
   rw[Hw h2,HV]
  exact Qbl (k H (ak.refl _)) e
 have hl:l.length=ks.length:=by
  rw[G8,bE]at h1;have h2:¬((!decide (V.int (l.length:Int)=V.int (ks.length:Int)))=true):=h1;by_cases q:l.length=ks.length
  .exact q
  .exfalso;refine h2 ?_;rw[Hw λz=>q (by injection z with z;omega)];rfl
 have k2:∀H',ak H H'->Q (.bl ((l.zip ks).all λp=>decide (1<=p.1)&&decide (p.1/2^p.2=0))) H':=λH' s=>Qbl (k H' s) (by unfold cg;rw[He hl,HE]);dsimp only[bp,b6];refine cn (gA (dP (bq ?_)));refine⟨_,rfl,_,rfl,a,b,_,_,rfl,SqL.of ha,SqL.of hb,?_⟩;refine bT (l.zip ks) (λ_=>true) (λp=>V.bl (decide (1<=p.1)&&decide (p.1/2^p.2=0))) (Item:=λi v H'=>∃T x y,v=.ref T/\H' T=some (.tup [x,y])/\(l.map V.int)[i]?=some x/\(nI ks)[i]?=some y) ?_ ?_ ?_ ?_
 .have q:=nG (K:=K) (a:=a) (b:=b) (xs:=l.map V.int) (ys:=nI ks) (G:=λH'=>ak H H') (λH' s=>⟨SqL.of (s _ _ ha),SqL.of (s _ _ hb)⟩);rw[bE,G8,<-Jf]at q;exact q
 .rw[Jf];exact aG (by omega)
 .rintro i ⟨m,n⟩ v H' R hi s' ⟨T,x,y,rfl,hT,hx,hy⟩ k';obtain⟨h1,h2⟩:=I0.mp hi;rw[Hd,h1]at hx;rw[l9 h2]at hy;cases hx;cases hy;refine⟨T,_,rfl,SqT.of hT,rfl,_,_,rfl,_,_,rfl,rfl,rfl,?_⟩;refine ck (bS ?_);have kk:=(k' H' (ak.refl _)).1 rfl;refine⟨_,rfl,_,_,rfl,rfl,_,rfl,aP (λq=>?_) λq=>?_⟩
  .refine⟨_,rfl,_,rfl,_,_,rfl,rfl,JV _,rfl,?_⟩;have e:(decide (1<=m)&&decide (m/2^n=0))=decide (V.int (m/2^(n:Int).toNat)=V.int 0):=by rw[q,HE,JB];exact JK.mpr ⟨λz=>by rw[z],λz=>by injection z⟩
   exact Rbl kk e
  .rw[Jw]at q;have e:(decide (1<=m)&&decide (m/2^n=0))=false:=by rw[q,HV]
   exact Rbl kk e
 .intro D H' hD s' N6;refine⟨D,(l.zip ks).map (λp=>decide (1<=p.1)&&decide (p.1/2^p.2=0)),rfl,SqL.of ?_,?_⟩
  .rw[N6,bh,HM];rfl
  .rw[KP];exact k2 H' s'
def cz(ks:List Nat)(l:List Int):Bool:=decide (l.length=ks.length)&&(l.zip ks).all λp=>decide (0<=p.1)&&decide (p.1<(p.2:Int))
inductive rC(vs:List V)(H:Hp)(Q:VK)(E:XK):Prop|mk(b a:Addr)(ks:List Nat)(l:List Int)(_:vs=[.ref b,.ref a])(_:H b=some (.lst (nI ks)))(_:H a=some (.lst (l.map V.int)))(_:ks.length<=1000)(_:∀H',ak H H'->Q (.bl (cz ks l)) H')
theorem uL(T:Txt P w K mg c):T.FA.H P w base 1 (rC):=by
 have B:=T.B;refine aS T.FA ["field","row","leaf","leaves"] ?_;rintro _ _ _ _ s H vs Q E hr _ _ _ nd ⟨b,a,ks,l,rfl,hb,ha,hz,k⟩
 refine⟨_,(aj (a9 (aA l7 (aK aV (by rfl) B.q Ig (p1 1)) (aK aV (by rfl) B.q Ig (p1 0)) (aD _)) (rt eR) aM)
 (rt (aK (ip rfl) (by rfl) B.q fR (ag (bQ rfl nd (sy rfl B.q (p2 1 0)) (aX (own:=[("leaf",2),("leaves",3)]) (by rfl))
  (by exact λ_ _ _ _ _=>(eU (K:=K) (n:=2) rfl rfl (bX (aT 2 nd) (bX (aT 3 nd) eT))))
  (by exact λ_ _ _ _ _=>b7)
  (by exact λ_ _ _ _ _=>(tE fF gB aI (pv 2) (pv 3)))) aq)))),?_⟩
 refine⟨_,rfl,a,_,rfl,.inl (SqL.of ha),_,rfl,b,_,rfl,.inl (SqL.of hb),rfl,_,rfl,aP (λh1=>?_) λh1=>?_⟩
 .have e:cz ks l=false:=by
   unfold cz;have h2:¬l.length=ks.length:=λq=>by rw[G8,bE,q]at h1;simp at h1
   rw[Hw h2,HV]
  exact Qbl (k H (ak.refl _)) e
 have hl:l.length=ks.length:=by
  rw[G8,bE]at h1;have h2:¬((!decide (V.int (l.length:Int)=V.int (ks.length:Int)))=true):=h1;by_cases q:l.length=ks.length
  .exact q
  .exfalso;refine h2 ?_;rw[Hw λz=>q (by injection z with z;omega)];rfl
 have k2:∀H',ak H H'->Q (.bl ((l.zip ks).all λp=>decide (0<=p.1)&&decide (p.1<(p.2:Int)))) H':=λH' s=>Qbl (k H' s) (by unfold cz;rw[He hl,HE]);dsimp only[bp,b6];refine cn (gA (dP (bq ?_)));refine⟨_,rfl,_,rfl,a,b,_,_,rfl,SqL.of ha,SqL.of hb,?_⟩;refine bT (l.zip ks) (λ_=>true) (λp=>V.bl (decide (0<=p.1)&&decide (p.1<(p.2:Int)))) (Item:=λi v H'=>∃T x y,v=.ref T/\H' T=some (.tup [x,y])/\(l.map V.int)[i]?=some x/\(nI ks)[i]?=some y) ?_ ?_ ?_ ?_
 .have q:=nG (K:=K) (a:=a) (b:=b) (xs:=l.map V.int) (ys:=nI ks) (G:=λH'=>ak H H') (λH' s=>⟨SqL.of (s _ _ ha),SqL.of (s _ _ hb)⟩);rw[bE,G8,<-Jf]at q;exact q
 .rw[Jf];exact aG (by omega)
 .rintro i ⟨m,n⟩ v H' R hi s' ⟨T,x,y,rfl,hT,hx,hy⟩ k';obtain⟨h1,h2⟩:=I0.mp hi;rw[Hd,h1]at hx;rw[l9 h2]at hy;cases hx;cases hy;refine⟨T,_,rfl,SqT.of hT,rfl,_,_,rfl,_,_,rfl,rfl,rfl,?_⟩;refine ck (bS ?_);have kk:=(k' H' (ak.refl _)).1 rfl;refine⟨_,rfl,_,_,rfl,rfl,_,rfl,aP (λq=>?_) λq=>?_⟩
  .refine⟨_,rfl,_,_,rfl,rfl,?_⟩;have e:(decide (0<=m)&&decide (m<(n:Int)))=decide (m<(n:Int)):=by rw[q,HE]
   exact Rbl kk e
  .rw[Jw]at q;have e:(decide (0<=m)&&decide (m<(n:Int)))=false:=by rw[q,HV]
   exact Rbl kk e
 .intro D H' hD s' N6;refine⟨D,(l.zip ks).map (λp=>decide (0<=p.1)&&decide (p.1<(p.2:Int))),rfl,SqL.of ?_,?_⟩
  .rw[N6,bh,HM];rfl
  .rw[KP];exact k2 H' s'
def cJ(ks:List Nat)(l:List Int):Bool:=decide (1<=(de ks.length l).length/\(de ks.length l).length<=8)&&(de ks.length l).all (cg ks)
inductive uZ(vs:List V)(H:Hp)(Q:VK)(E:XK):Prop|mk(b a:Addr)(ks:List Nat)(l:List Int)(_:vs=[.ref b,.ref a])(_:H b=some (.lst (nI ks)))(_:H a=some (.lst (l.map V.int)))(_:1<=ks.length)(_:ks.length<=1000)(_:l.length<=60)(_:∀H',ak H H'->Q (.bl (cJ ks l)) H')
theorem xD(T:Txt P w K mg c):T.Fy.H P w base 2 (uZ):=by
 have B:=T.B;refine aS T.Fy ["field","row","boxes","box"] ?_;rintro _ _ _ _ s H vs Q E hr _ _ _ nd ⟨b,a,ks,l,rfl,hb,ha,hz0,hz,O9,k⟩
 refine⟨_,(aj (aO 2 nd (az (mW T) hr (ag (aK aV (by rfl) B.q Ig (p1 0)) (p1 1))))
 (aj (a9 (PW.pt (jE (aA gB (aK aV (by rfl) B.q Ig (p1 2)) aI (aD _)) (jd (aA l8 (aK aV (by rfl) B.q Ig (p1 2)) (bf rfl T.GK) (aD _))))) (rt eR) aM)
 (rt (aK (ip rfl) (by rfl) B.q fR (ag (bQ rfl nd (a8 (pv 2)) (aX (own:=[("box",3)]) (by rfl))
  (by exact λ_ _ _ _ _=>(aT 3 nd))
  (by exact λ_ _ _ _ _=>b7)
  (by exact λ_ _ _ _ _=>(az (tT T) hr (p2 0 3)))) aq))))),?_⟩
 refine⟨_,rfl,b,_,rfl,.inl (SqL.of hb),_,rfl,ks.length,a,l,by rw[bE];rfl,ha,hz0,hz,O9,λH1 D s1 hD Mz=>?_⟩;obtain⟨rs,hr,pr⟩:=id Mz;have lrs:rs.length=(de ks.length l).length:=HC pr;have OM:¬(1<=(de ks.length l).length/\(de ks.length l).length<=8)->Q (.bl false) H1:=λh=>Qbl (k H1 s1) (by unfold cJ;rw[Hw h,HV]);refine⟨_,rfl,D,_,rfl,.inl (SqL.of hr),_,_,rfl,rfl,_,rfl,aP (λh1=>bS (OM ?_)) λh1=>?_⟩
 .have h1:=Hb h1;rw[G8]at h1;omega
 refine⟨_,rfl,D,_,rfl,.inl (SqL.of hr),_,_,rfl,rfl,_,rfl,aP (λh2=>OM ?_) λh2=>?_⟩
 .have h2:=Hb h2;rw[G8]at h2;omega
 have Pr:1<=(de ks.length l).length/\(de ks.length l).length<=8:=by have g1:¬((rs.map V.ref).length:Int)<1:=λq=>h1 (He q);have g2:¬(8:Int)<((rs.map V.ref).length:Int):=λq=>h2 (He q);rw[G8]at g1 g2;omega
 dsimp only[bp,b6];refine cn (gA (dP (bq ?_)));refine⟨_,rfl,D,rfl,⟨_,SqL.of hr⟩,?_⟩;refine bT (de ks.length l) (λ_=>true) (λx=>V.bl (cg ks x)) (gS (F:=λ(H:Hp)(r:Addr)(row:List Int)=>H r=some (.lst (row.map V.int))) hr pr λH H' r x s h=>s _ _ h) (aG (by omega)) ?_ ?_
 .rintro i x v H' R hi s' ⟨r,x',rfl,Oh,Nt,MJ⟩ k';have e:x'=x:=Hg (Nt.symm.trans hi);subst e;refine⟨rfl,ck (bS ?_)⟩;exact⟨_,rfl,_,rfl,b,r,ks,x',rfl,s' _ _ (s1 _ _ hb),MJ,hz,λH2 s2=>(k' H2 s2).1 rfl⟩
 .intro D' H' hD s' N6;refine⟨D',(de ks.length l).map (cg ks),rfl,SqL.of ?_,?_⟩
  .rw[N6,bh,HM];rfl
  .rw[KP];exact Qbl (k H' (s1.trans s')) (by unfold cJ;rw[He Pr,HE];rfl)
def f9:Int->Int->List Int->Bool
 |_,Ps,[]=>decide (Ps=120)
 |bef,Ps,p::q::r=>if p<=bef\/20<p\/q<1 then false else f9 p (Ps+q) r
 |_,_,[_]=>false
def cE(l:List Int):Bool:=decide (l.length%2=0)&&f9 0 0 l
inductive uo(vs:List V)(H:Hp)(Q:VK)(E:XK):Prop|mk(a:Addr)(l:List Int)(_:vs=[.ref a])(_:H a=some (.lst (l.map V.int)))(_:l.length<=60)(_:∀H',ak H H'->Q (.bl (cE l)) H')
theorem vC(T:Txt P w K mg c):T.Fz.H P w base 1 (uo):=by
 have B:=T.B;refine aS T.Fz ["row","before","together","at"] ?_;rintro _ _ _ _ s H vs Q E hr _ _ _ nd ⟨a,l,rfl,ha,hz,k⟩
 refine⟨_,(aj (a9 (aA l7 (bH xZ (aK aV (by rfl) B.q Ig (p1 0)) aI) aI (aD _)) (rt eR) aM)
 (aj (aO 1 nd aI)
 (aj (aO 2 nd aI)
 (aj (cy HI rfl (kQ rfl B.q (ag aI (ag (aK aV (by rfl) B.q Ig (p1 0)) (ag aI aq)))) (aT 3 nd)
 (aj (a9 (PW.pt (jE (aA fF (cr cD (pv 0) (pv 3) (λ_ _=>rfl)) (pv 1) (aD _)) (jE (aA l8 (cr cD (pv 0) (pv 3) (λ_ _=>rfl)) (bf rfl T.GL) (aD _)) (jd (aA gB (cr cD (pv 0) (bH d6 (pv 3) aI) (λ_ _=>rfl)) aI (aD _)))))) (rt eR) aM)
 (aj (aO 1 nd (cr cD (pv 0) (pv 3) (λ_ _=>rfl)))
 (aL (aO 2 nd (bH d6 (pv 2) (cr cD (pv 0) (bH d6 (pv 3) aI) (λ_ _=>rfl))))))))
 (rt (eV bY (pv 2) (bf rfl T.GN) (aD _))))))),?_⟩
 refine⟨_,rfl,a,_,rfl,.inl (SqL.of ha),_,_,rfl,rfl,by show(0:Int)<2;decide,rfl,_,rfl,aP (λh1=>?_) λh1=>?_⟩
 .have h2:¬l.length%2=0:=λq=>by
   rw[G8]at h1;have h1:(!decide (V.int ((l.length:Int)%2)=V.int 0))=true:=h1;have e:((l.length:Int)%2)=0:=by omega
   rw[e]at h1;simp at h1
  exact Qbl (k H (ak.refl _)) (by unfold cE;rw[Hw h2,HV])
 have hev:l.length%2=0:=by
  rw[G8]at h1;have h2:¬((!decide (V.int ((l.length:Int)%2)=V.int 0))=true):=h1;by_cases q:l.length%2=0
  .exact q
  .exfalso;refine h2 ?_;rw[Hw λz=>q (by injection z with z;omega)];rfl
 have k2:∀H',ak H H'->Q (.bl (f9 0 0 l)) H':=λH' s=>Qbl (k H' s) (by unfold cE;rw[He hev,HE]);dsimp only[bp,b6,cu,tC,bu];refine cw ?_;refine⟨_,rfl,a,_,rfl,.inl (SqL.of ha),_,_,_,_,rfl,by rw[G8];exact pL (c:=2) (by decide) (by decide) (by omega),?_⟩;refine cB (i7 (G:=λH'=>ak H H')) (λi σ H'=>∃bef Ps v3,σ=[some (.ref a),some (.int bef),some (.int Ps),v3]/\ak H H'/\f9 0 0 l=f9 bef Ps (l.drop (2*i))) ?_ ?_ ?_ ?_
 .exact⟨0,0,none,rfl,ak.refl _,rfl⟩
 .rintro i σ H' _ ⟨_,_,_,_,e,_⟩;exact e
 .rintro i x σ H1 H2 hi ⟨bef,Ps,v3,rfl,s1,ho⟩ s2 rfl;have Mg:=s1.trans s2;have Pt:2*i+1<l.length:=by omega
  have e1:(0:Int)+(i:Nat)*((2:Nat):Int)=((2*i:Nat):Int):=by omega
  have d1:l.drop (2*i)=l[2*i]::l[2*i+1]::l.drop (2*(i+1)):=by rw[J3 (by omega),J3 (by omega)];rfl
  rw[d1,f9]at ho;have a1:atI (l.map V.int) ((0:Int)+(i:Nat)*((2:Nat):Int))=some (.int l[2*i]):=aN (j:=2*i) e1 (by rw[Hd,Hn (by omega)];rfl);have a2:atI (l.map V.int) ((0:Int)+(i:Nat)*((2:Nat):Int)+1)=some (.int l[2*i+1]):=aN (j:=2*i+1) (by rw[e1];omega) (by rw[Hd,Hn (by omega)];rfl);have fin:(l[2*i]<=bef\/20<l[2*i]\/l[2*i+1]<1)->Q (.bl false) H2:=λh=>by rw[Hc h]at ho;exact Qbl (k2 H2 Mg) ho
  have hL:=SqL.of (K:=K) (Mg _ _ ha);refine⟨_,rfl,_,rfl,a,_,_,_,rfl,rfl,hL,a1,_,rfl,_,_,rfl,rfl,_,rfl,aP (λh3=>bS (fin (.inl (Hb h3)))) λh3=>?_⟩;refine⟨_,rfl,_,rfl,a,_,_,_,rfl,rfl,hL,a1,_,_,rfl,rfl,_,rfl,aP (λh4=>bS (fin (.inr (.inl (Hb h4))))) λh4=>?_⟩;refine⟨_,rfl,_,rfl,_,_,rfl,rfl,a,_,_,_,rfl,rfl,hL,a2,_,_,rfl,rfl,_,rfl,aP (λh5=>fin (.inr (.inr (Hb h5)))) λh5=>?_⟩;refine⟨_,rfl,_,rfl,a,_,_,_,rfl,rfl,hL,a1,?_⟩;refine⟨_,rfl,_,rfl,_,rfl,_,_,rfl,rfl,a,_,_,_,rfl,rfl,hL,a2,_,_,rfl,rfl,?_⟩;refine⟨l[2*i],Ps+l[2*i+1],_,rfl,Mg,?_⟩;rw[ho,G9];rintro(q|q|q)
  .exact h3 (He q)
  .exact h4 (He q)
  .exact h5 (He q)
 .rintro σ H' ⟨bef,Ps,v3,rfl,s1,ho⟩;rw[LF (by omega),f9]at ho;refine⟨_,rfl,rfl,?_⟩;exact Qbl (k2 H' s1) (by rw[ho];exact JK.mpr ⟨λz=>by rw[z],λz=>by injection z⟩)
def aZ(name:Str)(ks:List Nat)(l:List Int):Bool:=if name="leaves"then cS l else if name="boxes"then cJ ks l else if name="owners"then cE l else if name="box"then cg ks l else cz ks l
inductive u9(vs:List V)(H:Hp)(Q:VK)(E:XK):Prop|mk(name:Str)(b a:Addr)(ks:List Nat)(l:List Int)(_:vs=[.str name,.ref b,.ref a])(_:H b=some (.lst (nI ks)))(_:H a=some (.lst (l.map V.int)))(_:1<=ks.length)(_:ks.length<=1000)(_:l.length<=60)(_:∀H',ak H H'->Q (.bl (aZ name ks l)) H')
theorem xF(T:Txt P w K mg c):T.FC.H P w base 3 (u9):=by
 refine aS T.FC ["name","field","row"] ?_;rintro _ _ _ _ _ H vs Q E hr _ _ _ nd ⟨name,b,a,ks,l,rfl,hb,ha,hz0,hz,O9,k⟩;have sd:∀x:Str,∀p,(decide (V.str name=V.str x)=p)->((p=true->name=x)/\(¬p=true->¬name=x)):=λx p e=>by subst e;refine⟨λq=>?_,λq z=>q (He (by rw[z]))⟩;have:=Hb q;injection this
 unfold aZ at k
 refine⟨_,(aj (a9 (aA bY (pv 0) kF (aD _)) (rt (az (vD T) hr (p1 2))) aM)
 (aj (a9 (aA bY (pv 0) kF (aD _)) (rt (az (xD T) hr (p2 1 2))) aM)
 (aj (a9 (aA bY (pv 0) kF (aD _)) (rt (az (vC T) hr (p1 2))) aM)
 (aj (a9 (aA bY (pv 0) kF (aD _)) (rt (az (tT T) hr (p2 1 2))) aM)
 (rt (az (uL T) hr (p2 1 2))))))),?_⟩
 refine⟨_,rfl,rfl,_,rfl,aP (λh=>?_) λh=>?_⟩
 .rw[Hc ((sd _ _ rfl).1 h)]at k;exact⟨_,rfl,a,l,rfl,ha,k⟩
 rw[G9 ((sd _ _ rfl).2 h)]at k;refine⟨_,rfl,rfl,_,rfl,aP (λh=>?_) λh=>?_⟩
 .rw[Hc ((sd _ _ rfl).1 h)]at k;exact⟨_,rfl,_,rfl,b,a,ks,l,rfl,hb,ha,hz0,hz,O9,k⟩
 rw[G9 ((sd _ _ rfl).2 h)]at k;refine⟨_,rfl,rfl,_,rfl,aP (λh=>?_) λh=>?_⟩
 .rw[Hc ((sd _ _ rfl).1 h)]at k;exact⟨_,rfl,a,l,rfl,ha,O9,k⟩
 rw[G9 ((sd _ _ rfl).2 h)]at k;refine⟨_,rfl,rfl,_,rfl,aP (λh=>?_) λh=>?_⟩
 .rw[Hc ((sd _ _ rfl).1 h)]at k;exact⟨_,rfl,_,rfl,b,a,ks,l,rfl,hb,ha,hz,k⟩
 rw[G9 ((sd _ _ rfl).2 h)]at k;exact⟨_,rfl,_,rfl,b,a,ks,l,rfl,hb,ha,hz,k⟩
end
def pN(ps:List (Nat×Nat)):List (Key×V):=ps.map λp=>(Sum.inl (p.1:Int),V.int (p.2:Int))
noncomputable def oh(n f l w:Int)(ac ao:Addr):List (Str×V):=[("number",.int n),("first",.int f),("last",.int l),("lands",.int w),("covered",.ref ac),("owners",.ref ao)]
def bd(c:Cs)(vs:List (List Nat))(H:Hp)(x:Addr)(R:LW):Prop:=∃dx ac ao,H x=some (.ins c.Right dx (oh R.num R.first R.last R.lands ac ao))/\
 H ac=some (.lst ((vs.map λv=>R.boxes.any λb=>inBox b v).map V.bl))/\H ao=some (.dK (pN R.owners))
def fB(b:Bool):Int:=if b=true then 1 else 0
noncomputable def dO(k n kn r ri gi ta pa so be to la ab:Int)(abx ac:Addr):List (Str×V):=[("kind",.int k),("number",.int n),("known",.int kn),("recorded",.int r),("right",.int ri),("giver",.int gi),("taker",.int ta),("parts",.int pa),("sole",.int so),("begin",.int be),("to",.int to),("lands",.int la),("about",.int ab),("box",.ref abx),("covered",.ref ac)]
def wW(d:LV)(ab ac:Addr):List (Str×V):=dO d.kind d.num d.known d.day d.right d.giver d.taker d.parts (fB d.sole) d.from_ d.to_ d.lands d.about ab ac
def pD(vs:List (List Nat))(d:LV):List Bool:=if d.kind<=2 then vs.map λv=>inBox d.box v else []
def b0(c:Cs)(vs:List (List Nat))(H:Hp)(x:Addr)(d:LV):Prop:=∃dx ab ac,H x=some (.ins c.Deed dx (wW d ab ac))/\H ab=some (.lst (nI d.box))/\H ac=some (.lst ((pD vs d).map V.bl))
theorem bd.same(h:bd c vs H x R)(s:ak H H'):bd c vs H' x R:=by obtain⟨dx,ac,ao,h1,h2,h3⟩:=h;exact⟨dx,ac,ao,s _ _ h1,s _ _ h2,s _ _ h3⟩
theorem b0.same(h:b0 c vs H x d)(s:ak H H'):b0 c vs H' x d:=by obtain⟨dx,ac,ao,h1,h2,h3⟩:=h;exact⟨dx,ac,ao,s _ _ h1,s _ _ h2,s _ _ h3⟩
noncomputable def ic(af av ar ad:Addr):List (Str×V):=[("field",.ref af),("variants",.ref av),("rights",.ref ar),("deeds",.ref ad)]
def cF(Rs:List (Addr×LW)):List (Key×V):=Rs.map λp=>(Sum.inl (p.2.num:Int),V.ref p.1)
def bO(Ds:List (Addr×LV)):List (Key×V):=Ds.map λp=>(Sum.inl (p.2.num:Int),V.ref p.1)
abbrev am(S:LU):List (List Nat):=variants S.sizes
structure bJ(c:Cs)(H:Hp)(L:Addr)(S:LU)(dx af av ar ad:Addr)(Rs:List (Addr×LW))(Ds:List (Addr×LV)):Prop where
 obj:H L=some (.ins c.Ledger dx (ic af av ar ad))
 fld:H af=some (.lst (nI S.sizes))
 vars:d_ H av (am S)
 rts:H ar=some (.dK (cF Rs))
 rAt:∀p∈Rs,bd c (am S) H p.1 p.2
 rPm:(Rs.map (·.2)).Perm S.rights
 dds:H ad=some (.dK (bO Ds))
 dAt:∀p∈Ds,b0 c (am S) H p.1 p.2
 dPm:(Ds.map (·.2)).Perm S.deeds
def aY(c:Cs)(H:Hp)(L:Addr)(S:LU):Prop:=∃dx af av ar ad Rs Ds,bJ c H L S dx af av ar ad Rs Ds
theorem bJ.same{c:Cs}{H H':Hp}{L:Addr}{S:LU}{dx af av ar ad:Addr}{Rs:List (Addr×LW)}{Ds:List (Addr×LV)}(h:bJ c H L S dx af av ar ad Rs Ds)(s:ak H H'):bJ c H' L S dx af av ar ad Rs Ds:=
 ⟨s _ _ h.obj,s _ _ h.fld,h.vars.same s,s _ _ h.rts,λp m=>(h.rAt p m).same s,h.rPm,s _ _ h.dds,λp m=>(h.dAt p m).same s,h.dPm⟩
theorem aY.same(h:aY c H L S)(s:ak H H'):aY c H' L S:=by obtain⟨dx,af,av,ar,ad,Rs,Ds,h⟩:=h;exact⟨dx,af,av,ar,ad,Rs,Ds,h.same s⟩
structure SOk(S:LU):Prop where
 l1:1<=S.sizes.length
 l6:S.sizes.length<=6
 k1:∀k∈S.sizes,1<=k
 k8:∀k∈S.sizes,k<=8
 pr:S.sizes.foldl (λa b=>a*b) 1<=64
 rSo:S.rights.Pairwise λa b=>a.num<b.num
 rLe:S.rights.length<=8
 rBx:∀R∈S.rights,R.boxes.length<=8/\∀b∈R.boxes,b.length=S.sizes.length
 rOw:∀R∈S.rights,(R.owners.Pairwise λa b=>a.1<b.1)/\(∀p∈R.owners,1<=p.1/\p.1<=20/\1<=p.2)/\(R.owners.map (·.2)).sum=120
 dSo:S.deeds.Pairwise λa b=>a.day<b.day\/(a.day=b.day/\a.num<b.num)
 dNo:(S.deeds.map (·.num)).Nodup
 dLe:S.deeds.length<=60
 dKi:∀d∈S.deeds,d.kind<=5
 dBx:∀d∈S.deeds,d.kind<=2->d.box.length=S.sizes.length
 dRt:∀d∈S.deeds,d.kind<=2->∃R∈S.rights,R.num=d.right
 dAb:∀d∈S.deeds,d.kind=3\/d.kind=4->∃p∈S.deeds,p.num=d.about/\p.kind=2
 dPe:∀d∈S.deeds,d.kind<=2->1<=d.giver/\d.giver<=20/\1<=d.taker/\d.taker<=20
 dPa:∀d∈S.deeds,d.kind=0\/d.kind=2->1<=d.parts/\d.parts<=120
 dBz:∀d∈S.deeds,3<=d.kind->d.box=[]
theorem ik(h:SOk S):(am S).length<=64:=by show(variants S.sizes).length<=64;rw[<-g0,iG];exact h.pr
section
variable{P:Program}{w:World}{K:LS}{mg:Str->Option Value}{base:Heap}{c:Cs}
def zL(c:Cs):Sp:=λvs H Q E=>∃x dx n f l w,vs=[.ref x,.int n,.int f,.int l,.int w]/\H x=some (.ins c.Right dx [])/\∀H' ac ao,H' x=some (.ins c.Right dx (oh n f l w ac ao))->H' ac=some (.lst [])->H' ao=some (.dK [])->H ac=none->H ao=none->bm x H H'->Q .non H'
theorem B0(T:Txt P w K mg c):iZ P w K mg base 1 "Right" c.Right ["self","number","first","last","lands"] (zL c):=by
 refine sj T.Right ["self","number","first","last","lands"] ?_;rintro _ _ _ _ _ H vs Q E hr _ _ _ nd ⟨x,dx,n,ff,l,ww,rfl,hx,k⟩
 refine⟨_,(aj (aU (pv 0) (pv 1) rfl)
 (aj (aU (pv 0) (pv 2) rfl)
 (aj (aU (pv 0) (pv 3) rfl)
 (aj (aU (pv 0) (pv 4) rfl)
 (aj (aU (pv 0) (aW aq) rfl)
 (aL (aU (pv 0) cZ rfl))))))),?_⟩
 refine⟨_,rfl,_,rfl,rfl,hx,T.Right.o,rfl,?_⟩;refine⟨_,rfl,_,rfl,rfl,aa,T.Right.o,rfl,?_⟩;refine⟨_,rfl,_,rfl,rfl,aa,T.Right.o,rfl,?_⟩;refine⟨_,rfl,_,rfl,rfl,aa,T.Right.o,rfl,?_⟩;refine⟨HJ _,λac MX=>?_⟩;have n1:x≠ac:=au aa MX;refine⟨_,rfl,rfl,(ai n1).trans aa,T.Right.o,rfl,?_⟩;intro ao OB;have n2:x≠ao:=au aa OB;have n3:ac≠ao:=λe=>by rw[<-e,ai (Ho n1),aa]at OB;cases OB
 refine⟨_,rfl,rfl,(ai n2).trans aa,T.Right.o,rfl,?_⟩;refine k _ ac ao ?_ ?_ ?_ ?_ ?_ λb o e nb=>?_
 .rw[aa];rfl
 .rw[ai (Ho n1),ai n3,ai (Ho n1)];exact aa
 .rw[ai (Ho n2)];exact aa
 .rw[ai (Ho n1),ai (Ho n1),ai (Ho n1),ai (Ho n1)]at MX;exact MX
 .rw[ai (Ho n2),ai (Ho n3),ai (Ho n2),ai (Ho n2),ai (Ho n2),ai (Ho n2)]at OB;exact OB
 .have nc:b≠ac:=λz=>by rw[ai (Ho n1),ai (Ho n1),ai (Ho n1),ai (Ho n1),<-z,e]at MX;cases MX
  have no:b≠ao:=λz=>by rw[ai (Ho n2),ai (Ho n3),ai (Ho n2),ai (Ho n2),ai (Ho n2),ai (Ho n2),<-z,e]at OB;cases OB
  rw[ai nb,ai no,ai nb,ai nc,ai nb,ai nb,ai nb,ai nb];exact e
theorem bm.set(k:bm x H H1):bm x H (upd H1 x o):=λb u e nb=>by rw[ai nb];exact k b u e nb
theorem bm.new(k:bm x H H1)(h:H1 a=none):bm x H (upd H1 a o):=λb u e nb=>by have q:=k b u e nb;rw[ai (au q h)];exact q
theorem bm.free(k:bm x H H1)(h:H1 a=none)(n:a≠x):H a=none:=by
 cases e:H a with
 |none=>rfl
 |some o=>rw[k a o e n]at h;cases h
theorem bm.refl:bm x H H:=λ_ _ e _=>e
theorem io(h:H1 a=none)(k:bm x H H1):bm x H H1:=k
def Bi(c:Cs):Sp:=λvs H Q E=>∃x dx k n kn r,vs=[.ref x,.int k,.int n,.int kn,.int r]/\H x=some (.ins c.Deed dx [])/\∀H' ab ac,H' x=some (.ins c.Deed dx (dO k n kn r 0 0 0 0 0 0 0 0 0 ab ac))->H' ab=some (.lst [])->H' ac=some (.lst [])->H ab=none->H ac=none->bm x H H'->Q .non H'
theorem Dt(T:Txt P w K mg c):iZ P w K mg base 1 "Deed" c.Deed ["self","kind","number","known","recorded"] (Bi c):=by
 refine sj T.Deed ["self","kind","number","known","recorded"] ?_;rintro _ _ _ _ _ H vs Q E hr _ _ _ nd ⟨x,dx,kk,n,kn,r,rfl,hx,k⟩
 refine⟨_,(aj (aU (pv 0) (pv 1) rfl)
 (aj (aU (pv 0) (pv 2) rfl)
 (aj (aU (pv 0) (pv 3) rfl)
 (aj (aU (pv 0) (pv 4) rfl)
 (aj (aU (pv 0) aI rfl)
 (aj (aU (pv 0) aI rfl)
 (aj (aU (pv 0) aI rfl)
 (aj (aU (pv 0) aI rfl)
 (aj (aU (pv 0) aI rfl)
 (aj (aU (pv 0) aI rfl)
 (aj (aU (pv 0) aI rfl)
 (aj (aU (pv 0) aI rfl)
 (aj (aU (pv 0) aI rfl)
 (aj (aU (pv 0) (aW aq) rfl)
 (aL (aU (pv 0) (aW aq) rfl)))))))))))))))),?_⟩
 refine⟨_,rfl,_,rfl,rfl,hx,T.Deed.o,rfl,?_⟩;refine⟨_,rfl,_,rfl,rfl,aa,T.Deed.o,rfl,?_⟩;refine⟨_,rfl,_,rfl,rfl,aa,T.Deed.o,rfl,?_⟩;refine⟨_,rfl,_,rfl,rfl,aa,T.Deed.o,rfl,?_⟩;refine⟨_,rfl,rfl,aa,T.Deed.o,rfl,?_⟩;refine⟨_,rfl,rfl,aa,T.Deed.o,rfl,?_⟩;refine⟨_,rfl,rfl,aa,T.Deed.o,rfl,?_⟩;refine⟨_,rfl,rfl,aa,T.Deed.o,rfl,?_⟩;refine⟨_,rfl,rfl,aa,T.Deed.o,rfl,?_⟩;refine⟨_,rfl,rfl,aa,T.Deed.o,rfl,?_⟩;refine⟨_,rfl,rfl,aa,T.Deed.o,rfl,?_⟩;refine⟨_,rfl,rfl,aa,T.Deed.o,rfl,?_⟩;refine⟨_,rfl,rfl,aa,T.Deed.o,rfl,?_⟩;refine⟨HJ _,λab MP=>?_⟩;have k1:=io MP (bm.refl.set.set.set.set.set.set.set.set.set.set.set.set.set);have n1:x≠ab:=au aa MP;have f1:=k1.free MP (Ho n1);refine⟨_,rfl,rfl,(ai n1).trans aa,T.Deed.o,rfl,?_⟩;refine⟨HJ _,λac MX=>?_⟩;have n2:x≠ac:=au aa MX;have n3:ab≠ac:=λe=>by rw[<-e,ai (Ho n1),aa]at MX;cases MX
 have k3:=io MX (k1.new MP).set;have f2:H ac=none:=k3.free MX (Ho n2);refine⟨_,rfl,rfl,(ai n2).trans aa,T.Deed.o,rfl,?_⟩;refine k _ ab ac ?_ ?_ ?_ f1 f2 (k3.new MX).set
 .rw[aa];rfl
 .rw[ai (Ho n1),ai n3,ai (Ho n1)];exact aa
 .rw[ai (Ho n2)];exact aa
def yG(c:Cs):Sp:=λvs H Q E=>∃x dx,vs=[.ref x]/\H x=some (.ins c.Ledger dx [])/\∀H' af av ar ad,H' x=some (.ins c.Ledger dx (ic af av ar ad))->H' af=some (.lst (nI [2]))->d_ H' av (variants [2])->H' ar=some (.dK [])->H' ad=some (.dK [])->ar≠ad->H ar=none->H ad=none->bm x H H'->Q .non H'
theorem AB(T:Txt P w K mg c):iZ P w K mg base 2 "Ledger" c.Ledger ["self"] (yG c):=by
 refine sj T.Ledger ["self"] ?_;rintro _ _ _ _ _ H vs Q E hr _ _ _ nd ⟨x,dx,rfl,hx,k⟩
 refine⟨_,(aj (aU (pv 0) (aW (ag aI aq)) rfl)
 (aj (aU (pv 0) (az (km T) hr (ag (fv 0) aq)) rfl)
 (aj (aU (pv 0) cZ rfl)
 (aL (aU (pv 0) cZ rfl))))),?_⟩
 refine⟨aB,λaf haf=>?_⟩;have n1:x≠af:=au hx haf;refine⟨_,rfl,rfl,(ai n1).trans hx,T.Ledger.o,rfl,?_⟩;refine⟨_,rfl,rfl,aa,T.Ledger.o,rfl,?_⟩;have haf1:(upd (upd H af (.lst [.int 2])) x (.ins c.Ledger dx (cI "field" (.ref af) []))) af=some (.lst [.int 2]):=by rw[ai (Ho n1)];exact aa
 refine⟨af,[2],rfl,haf1,by decide,by decide,by decide,by decide,λH1 av s1 OC rows=>?_⟩;have ON:=s1 _ _ (aa (H:=upd H af (.lst [.int 2])) (a:=x) (o:=.ins c.Ledger dx (cI "field" (.ref af) [])));have n2:x≠av:=au aa OC;have k1:bm x H H1:=λb o e nb=>s1 _ _ (((bm.refl.new haf).set) b o e nb);have haf2:=s1 _ _ haf1;refine⟨_,rfl,rfl,ON,T.Ledger.o,rfl,?_⟩;intro ar Mu;have n3:x≠ar:=au aa Mu;refine⟨_,rfl,rfl,(ai n3).trans aa,T.Ledger.o,rfl,?_⟩;intro ad NC;have n4:x≠ad:=au aa NC;have n5:ar≠ad:=λe=>by rw[<-e,ai (Ho n3),aa]at NC;cases NC
 refine⟨_,rfl,rfl,(ai n4).trans aa,T.Ledger.o,rfl,?_⟩;have k2:=io Mu k1.set;have k3:=io NC (k2.new Mu).set;obtain⟨rs,OO,hr2⟩:=rows;have hav1:∀a xs,H1 a=some (.lst xs)->(upd (upd (upd (upd (upd H1 x (.ins c.Ledger dx (cI "variants" (.ref av) (cI "field" (.ref af) [])))) ar (.dK [])) x (.ins c.Ledger dx (cI "rights" (.ref ar) (cI "variants" (.ref av) (cI "field" (.ref af) []))))) ad (.dK [])) x (.ins c.Ledger dx (cI "deeds" (.ref ad) (cI "rights" (.ref ar) (cI "variants" (.ref av) (cI "field" (.ref af) [])))))) a=some (.lst xs):=λa xs e=>by
  have z1:a≠x:=aF e ON (by intro q;cases q);have z2:a≠ar:=λq=>by rw[<-q,ai z1,e]at Mu;cases Mu
  have z3:a≠ad:=λq=>by rw[<-q,ai z1,ai z2,ai z1,e]at NC;cases NC
  rw[ai z1,ai z3,ai z1,ai z2,ai z1];exact e
 refine k _ af av ar ad ?_ (hav1 af _ haf2) ⟨rs,hav1 _ _ OO,Paired.mapP hr2 λa row q=>hav1 a _ q⟩ ?_ ?_ n5 (k2.free Mu (Ho n3)) (k3.free NC (Ho n4)) (k3.new NC).set
 .rw[aa];rfl
 .rw[ai (Ho n3),ai n5,ai (Ho n3)];exact aa
 .rw[ai (Ho n4)];exact aa
theorem eY{α:Type}{r:α->α->Prop}:∀{l m:List α},(∀a∈l,∀b∈l,r a b->r b a->a=b)->l.Perm m->l.Pairwise r->m.Pairwise r->l=m
 |[],m,_,p,_,_=>(List.Perm.nil_eq p)
 |a::l,[],_,p,_,_=>absurd p.length_eq (by simp)
 |a::l,b::m,anti,p,h1,h2=>by
  have ab:a=b:=by
   have ha:a∈b::m:=p.mem_iff.mp (Hk ..);have hb:b∈a::l:=p.mem_iff.mpr (Hk ..);rcases Hi.mp ha with e|Pk
   .exact e
   .rcases Hi.mp hb with e|MW
    .exact e.symm
    .exact anti a (Hk ..) b hb ((HF.mp h1).1 b MW) ((HF.mp h2).1 a Pk)
  subst ab;rw[eY (λx hx y hy=>anti x (Hh _ hx) y (Hh _ hy)) p.cons_inv (HF.mp h1).2 (HF.mp h2).2]
theorem cH(a b:Nat):decide (V.int (a:Int)=V.int (b:Int))=(a==b):=by apply HD.mpr;rw[Ht,IX];exact⟨λh=>by injection h with h;omega,λh=>by rw[h]⟩
theorem n8(a b:Nat):(!decide (V.int (a:Int)=V.int (b:Int)))=(a !=b):=by rw[cH];rfl
theorem md(a b:Nat):decide ((a:Int)<=(b:Int))=decide (a<=b):=JK.mpr (by omega)
theorem dM(h:¬b=true):b=false:=by rw[Jw]at h;exact h
theorem qL{K:LS}{a:Addr}{xs:List V}{G:Hp->Prop}(h:∀H,G H->SqL K H a xs):fg (Ite K a) xs.length G (λi v H'=>∃T x,v=.ref T/\H' T=some (.tup [.int (i:Nat),x])/\xs[i]?=some x)where
 go:=λi H g hi=>⟨xs,xs[i],h H g,by simp[hi]⟩
 stop:=λi H g hi=>⟨xs,h H g,hi⟩
 yld:=λi H x H' g hi y=>by obtain⟨T,u,rfl,hT,rfl,h1⟩:=y;exact⟨ak.upd hT,T,u,rfl,aa,h1 xs (h H g)⟩
def cellOf(R:LW)(LY:Nat)(v:List Nat):Bool:=R.lands.testBit LY&&R.boxes.any λb=>inBox b v
inductive xj(c:Cs)(vs:List V)(H:Hp)(Q:VK)(E:XK):Prop|mk(x:Addr)(R:LW)(vr:List (List Nat))(LY i:Nat)(v:List Nat)(_:vs=[.ref x,.int LY,.int i])(_:bd c vr H x R)(_:vr[i]?=some v)(_:Q (.bl (cellOf R LY v)) H)
theorem qQ(T:Txt P w K mg c):T.Fi.H P w base 2 (xj c):=by
 refine aS T.Fi ["right","land","place"] ?_;rintro _ _ _ _ _ H vs Q E hr _ _ _ nd ⟨x,R,vr,LY,i,v,rfl,⟨dx,ac,ao,hx,MX,OB⟩,hv,k⟩;refine⟨_,(rt (je (az (iQ T) hr (ag (fv 0) (p1 1))) (kG (cr cD (fv 0) (pv 2) (λ_ _=>rfl))))),?_⟩;unfold cellOf at k;refine⟨_,rfl,rfl,hx,T.Right.o,rfl,_,rfl,R.lands,LY,rfl,_,rfl,aP (λh=>?_) λh=>?_⟩
 .refine⟨_,rfl,rfl,hx,T.Right.o,rfl,_,rfl,ac,_,_,_,rfl,rfl,SqL.of MX,aN (j:=i) rfl (by rw[Hd,Hd,hv];rfl),?_⟩;rw[h,HE]at k;exact k
 .rw[Jw]at h;rw[h,HV]at k;exact k
def bw(w:Nat):List Nat:=(List.range 4).filter λl=>w.testBit l
inductive uX(c:Cs)(vs:List V)(H:Hp)(Q:VK)(E:XK):Prop|mk(x:Addr)(R:LW)(vr:List (List Nat))(_:vs=[.ref x])(_:bd c vr H x R)(_:∀H' D,ak H H'->H D=none->H' D=some (.lst (nI (bw R.lands)))->Q (.ref D) H')
theorem j5(T:Txt P w K mg c):T.Fg.H P w base 2 (uX c):=by
 obtain⟨N_,Pu,Oa⟩:=T.GG;refine aS T.Fg ["right","land"] ?_;rintro _ _ _ _ _ H vs Q E hr _ _ _ nd ⟨x,R,vr,rfl,hR,k⟩
 refine⟨_,(rt (bQ rfl nd (C9 (fC rfl Pu)) (aX (own:=[("land",1)]) (by rfl))
  (by exact λ_ _ _ _ _=>(aT 1 nd))
  (by exact λ_ _ _ _ _=>(cC (eL (az (iQ T) hr (ag (bv (K:=K) rfl (pv 0) rfl) (p1 1))) (λ_=>rfl))))
  (by exact λ_ _ _ _ _=>(pv 1)))),?_⟩
 obtain⟨dx,ac,ao,hx,MX,OB⟩:=id hR;refine cn (bq ?_);refine⟨N_,rfl,⟨_,Oa H⟩,?_⟩;refine bT (List.range 4) (λl=>R.lands.testBit l) (λl=>V.int (l:Nat)) (Aq (K:=K) (a:=N_) (xs:=([0,1,2,3]:List Int).map V.int) (λH' _=>Oa H')) (by decide) ?_ ?_
 .intro i l v H' R' hi s' hv k';obtain⟨h1,h2⟩:=HQ.mp hi;rw[Ki]at h2;subst h2;have hv2:((List.range 4).map λl=>V.int (l:Nat))[i]?=some v:=hv;rw[Hd,hi]at hv2;cases hv2;refine⟨rfl,?_⟩;have Nt:=s' _ _ hx;refine⟨_,rfl,rfl,Nt,T.Right.o,rfl,_,rfl,R.lands,i,rfl,_,rfl,aP (λh=>?_) λh=>?_⟩
  .exact⟨_,rfl,(k' H' (ak.refl _)).1 h⟩
  .exact(k' H' (ak.refl _)).2 (by rw[Jw]at h;exact h)
 .intro D H' hD s' hl;refine k H' D s' hD ?_;rw[hl,d7];rfl
def a0(vr:List (List Nat))(R:LW):List Nat:=(List.range vr.length).filter λi=>R.boxes.any λb=>inBox b (vr.getD i [])
inductive um(c:Cs)(vs:List V)(H:Hp)(Q:VK)(E:XK):Prop|mk(x:Addr)(R:LW)(vr:List (List Nat))(_:vs=[.ref x])(_:bd c vr H x R)(_:vr.length<=1000)(_:∀H' D,ak H H'->H D=none->H' D=some (.lst (nI (a0 vr R)))->Q (.ref D) H')
theorem i9(T:Txt P w K mg c):T.Fh.H P w base 1 (um c):=by
 have B:=T.B;refine aS T.Fh ["right","place","covered"] ?_;rintro _ _ _ _ s H vs Q E hr _ _ _ nd ⟨x,R,vr,rfl,hR,hz,k⟩
 refine⟨_,(rt (bQ rfl nd (vZ rfl B.q (ag (fv 0) aq)) (aX (own:=[("place",1),("covered",2)]) (by rfl))
  (by exact λ_ _ _ _ _=>(eU (K:=K) (n:=2) rfl rfl (bX (aT 1 nd) (bX (aT 2 nd) eT))))
  (by exact λ_ _ _ _ _=>(cC (eL (pv 2) (λ_=>rfl))))
  (by exact λ_ _ _ _ _=>(pv 1)))),?_⟩
 obtain⟨dx,ac,ao,hx,MX,OB⟩:=id hR;refine cn (bq ?_);refine⟨_,rfl,rfl,hx,T.Right.o,rfl,ac,_,rfl,SqL.of MX,?_⟩;refine bT (List.range vr.length) (λi=>R.boxes.any λb=>inBox b (vr.getD i [])) (λl=>V.int (l:Nat)) (Item:=λi v H'=>∃T x,v=.ref T/\H' T=some (.tup [.int (i:Nat),x])/\((vr.map λv=>R.boxes.any λb=>inBox b v).map V.bl)[i]?=some x) ?_ (by rw[Ic];exact aG hz) ?_ ?_
 .have q:=qL (K:=K) (a:=ac) (xs:=(vr.map λv=>R.boxes.any λb=>inBox b v).map V.bl) (G:=λH'=>ak H H') λH' s=>SqL.of (s _ _ MX);rw[G8,G8]at q;rw[Ic];exact q
 .rintro i l v H' R' hi s' ⟨T',b,rfl,hT,hb⟩ k';obtain⟨h1,h2⟩:=HQ.mp hi;rw[Ki]at h2;subst h2;rw[Ic]at h1;have e1:vr[i]?=some vr[i]:=Hn h1;have e2:vr.getD i []=vr[i]:=by rw[Iw,e1];rfl
  rw[Hd,Hd,e1]at hb;cases hb;refine⟨T',_,rfl,SqT.of hT,rfl,_,_,rfl,_,_,rfl,rfl,rfl,?_⟩;refine⟨_,rfl,_,rfl,aP (λh=>?_) λh=>?_⟩
  .exact⟨_,rfl,(k' H' (ak.refl _)).1 (by rw[e2];exact h)⟩
  .exact(k' H' (ak.refl _)).2 (by rw[Jw]at h;rw[e2];exact h)
 .intro D H' hD s' hl;refine k H' D s' hD ?_;rw[hl,d7];rfl
inductive rA(c:Cs)(vs:List V)(H:Hp)(Q:VK)(E:XK):Prop|mk(x:Addr)(d:LV)(vr:List (List Nat))(_:vs=[.ref x])(_:b0 c vr H x d)(_:∀H' p,ak H H'->H' p=some (.tup [.int (d.day:Nat),.int (d.num:Nat)])->Q (.ref p) H')
theorem eQ(T:Txt P w K mg c):T.Fk.H P w base 1 (rA c):=by refine aS T.Fk ["deed"] ?_;rintro _ _ _ _ _ H vs Q E hr _ _ _ nd ⟨x,d,vr,rfl,⟨dx,ab,ac,hx,MP,MX⟩,k⟩;refine⟨_,(rt (xU (ag (fv 0) (ag (fv 0) aq)))),?_⟩;refine⟨_,rfl,rfl,hx,T.Deed.o,rfl,_,rfl,rfl,hx,T.Deed.o,rfl,by show 2<=sizeLine;decide,λp hp=>?_⟩;exact k _ p (ak.upd hp) aa
def DL(c:Cs)(vr:List (List Nat))(H:Hp)(a:Addr)(ds:List LV):Prop:=∃zs:List (Addr×LV),zs.map (·.2)=ds/\H a=some (.lst (zs.map λz=>V.ref z.1))/\∀z∈zs,b0 c vr H z.1 z.2
def RL(c:Cs)(vr:List (List Nat))(H:Hp)(a:Addr)(ds:List LW):Prop:=∃zs:List (Addr×LW),zs.map (·.2)=ds/\H a=some (.lst (zs.map λz=>V.ref z.1))/\∀z∈zs,bd c vr H z.1 z.2
theorem DL.same(h:DL c vr H a ds)(s:ak H H'):DL c vr H' a ds:=by obtain⟨zs,h1,h2,h3⟩:=h;exact⟨zs,h1,s _ _ h2,λz m=>(h3 z m).same s⟩
theorem RL.same(h:RL c vr H a ds)(s:ak H H'):RL c vr H' a ds:=by obtain⟨zs,h1,h2,h3⟩:=h;exact⟨zs,h1,s _ _ h2,λz m=>(h3 z m).same s⟩
theorem dQ{α:Type}{H1:Hp}{a:Addr}{zs:List (Addr×α)}(h:H1 a=some (.lst (zs.map λz=>V.ref z.1))):fg (Itl K a) zs.length (λH=>ak H1 H) (λi v _=>∃z,zs[i]?=some z/\v=.ref z.1):=by
 have q:=b9 (K:=K) (a:=a) (xs:=zs.map λz=>V.ref z.1) (G:=λH=>ak H1 H) (λH s=>SqL.of (s _ _ h));rw[G8]at q;refine⟨q.go,q.stop,λi H x H' g hi y=>?_⟩;obtain⟨s,it⟩:=q.yld i H x H' g hi y;refine⟨s,?_⟩;rw[Hd]at it;cases e:zs[i]? with
 |none=>rw[e]at it;cases it
 |some z=>rw[e]at it;cases it;exact⟨z,rfl,rfl⟩
theorem d5{α:Type}(p:α->Bool):∀zs:List (Addr×α),((zs.filter λz=>p z.2).map (·.2))=(zs.map (·.2)).filter p
 |[]=>rfl
 |z::zs=>by
  rw[Hy,Hf,Hy,<-d5 p zs];by_cases h:p z.2=true
  .rw[Hc h,Hc h];rfl
  .rw[G9 h,G9 h]
theorem dF{vr:List (List Nat)}{H1:Hp}{a:Addr}{ds:List LV}(p:LV->Bool)(h:DL c vr H1 a ds)(hz:ds.length<=1000){g:TG}{tt:TT}{te:TE}{vs:List Nat}{σ:L2.St}{Q:VK} (hs:∀x d H(R:Option V->Hp->Prop),d∈ds->ak H1 H->b0 c vr H x d->(∀H',ak H H'->(p d=true->R (some (.ref x)) H')/\(p d=false->R none H'))->
   g (.ref x) (cb σ vs) H λσ2 H2=>cb σ2 vs=cb σ vs/\tt σ2 H2 λb H3=>if b=true then te σ2 H3 λy H4=>R (some y) H4 else R none H3)
  (hd:∀D H',H1 D=none->ak H1 H'->DL c vr H' D (ds.filter p)->Q (.ref D) H'):jj (Itl K a) g tt te vs σ Q H1:=by
 obtain⟨zs,rfl,h2,h3⟩:=h;rw[G8]at hz;refine bT zs (λz=>p z.2) (λz=>V.ref z.1) (dQ h2) (aG hz) ?_ ?_
 .rintro i z v H' R hi s' ⟨z',Oy,rfl⟩ k';have e:z'=z:=Hg (Oy.symm.trans hi);subst e;have m:=Hl hi;exact hs z'.1 z'.2 H' R (HA.mpr ⟨z',m,rfl⟩) s' ((h3 z' m).same s') k'
 .intro D H' hD s' hl;exact hd D H' hD s' ⟨zs.filter λz=>p z.2,d5 p zs,hl,λz m=>(h3 z (HK.mp m).1).same s'⟩
theorem yT{vr:List (List Nat)}{H1:Hp}{a:Addr}{ds:List LW}(p:LW->Bool)(h:RL c vr H1 a ds)(hz:ds.length<=1000){g:TG}{tt:TT}{te:TE}{vs:List Nat}{σ:L2.St}{Q:VK} (hs:∀x d H(R:Option V->Hp->Prop),d∈ds->ak H1 H->bd c vr H x d->(∀H',ak H H'->(p d=true->R (some (.ref x)) H')/\(p d=false->R none H'))->
   g (.ref x) (cb σ vs) H λσ2 H2=>cb σ2 vs=cb σ vs/\tt σ2 H2 λb H3=>if b=true then te σ2 H3 λy H4=>R (some y) H4 else R none H3)
  (hd:∀D H',H1 D=none->ak H1 H'->RL c vr H' D (ds.filter p)->Q (.ref D) H'):jj (Itl K a) g tt te vs σ Q H1:=by
 obtain⟨zs,rfl,h2,h3⟩:=h;rw[G8]at hz;refine bT zs (λz=>p z.2) (λz=>V.ref z.1) (dQ h2) (aG hz) ?_ ?_
 .rintro i z v H' R hi s' ⟨z',Oy,rfl⟩ k';have e:z'=z:=Hg (Oy.symm.trans hi);subst e;have m:=Hl hi;exact hs z'.1 z'.2 H' R (HA.mpr ⟨z',m,rfl⟩) s' ((h3 z' m).same s') k'
 .intro D H' hD s' hl;exact hd D H' hD s' ⟨zs.filter λz=>p z.2,d5 p zs,hl,λz m=>(h3 z (HK.mp m).1).same s'⟩
inductive mB(c:Cs)(vs:List V)(H:Hp)(Q:VK)(E:XK):Prop|mk(a:Addr)(ds:List LV)(vr:List (List Nat))(_:vs=[.ref a])(_:DL c vr H a ds)(_:ds.length<=1000)(_:∀H' D,ak H H'->H D=none->DL c vr H' D (ds.filter λd=>d.kind !=1)->Q (.ref D) H')
theorem iH(T:Txt P w K mg c):T.Fq.H P w base 1 (mB c):=by
 refine aS T.Fq ["deeds","deed"] ?_;rintro _ _ _ _ _ H vs Q E hr _ _ _ nd ⟨a,ds,vr,rfl,hd,hz,k⟩
 refine⟨_,(rt (bQ rfl nd (a8 (pv 0)) (aX (own:=[("deed",1)]) (by rfl))
  (by exact λ_ _ _ _ _=>(aT 1 nd))
  (by exact λ_ _ _ _ _=>(cC (aA l7 (bv (K:=K) rfl (pv 1) rfl) (bf rfl T.GA) (aD _))))
  (by exact λ_ _ _ _ _=>(pv 1)))),?_⟩
 obtain⟨zs,_,Ml,_⟩:=id hd;refine cn (bq ?_);refine⟨_,rfl,a,rfl,⟨_,SqL.of Ml⟩,?_⟩;refine dF (λd=>d.kind !=1) hd hz ?_ λD H' hD s' h'=>k H' D s' hD h';rintro x d H' R _ s' ⟨dx,ab,ac,hx,MP,MX⟩ k';refine⟨rfl,?_⟩;refine⟨_,rfl,rfl,hx,T.Deed.o,rfl,rfl,_,rfl,?_⟩;refine aP (λh=>⟨_,rfl,(k' H' (ak.refl _)).1 (by rw[<-n8 d.kind 1];exact h)⟩) λh=>(k' H' (ak.refl _)).2 (by rw[<-n8 d.kind 1];rw[Jw]at h;exact h)
end
theorem ql(hn:(Ds.map (·.2.num)).Nodup)(m:p∈Ds):aQ (bO Ds) (Sum.inl (p.2.num:Int))=some (.ref p.1):=by
 induction Ds with
 |nil=>cases m
 |cons q r ih=>
  rw[Hf,Ik]at hn;unfold bO at ih⊢;rw[Hf];rcases Hi.mp m with rfl|m'
  .exact b8 rfl
  .rw[bR (λe=>hn.1 ?_)]
   .exact ih hn.2 m'
   .have e':(q.2.num:Int)=(p.2.num:Int):=by injection e
    have e2:q.2.num=p.2.num:=by omega
    rw[e2];exact HA.mpr ⟨p,m',rfl⟩
theorem pV(h:∀p∈Ds,(p.2.num:Int)≠k):aQ (bO Ds) (Sum.inl k)=none:=by
 induction Ds with
 |nil=>rfl
 |cons q r ih=>unfold bO at ih⊢;rw[Hf,bR (λe=>h q (Hk ..) (by injection e))];exact ih λp m=>h p (Hh _ m)
theorem kK(hn:(Ds.map (·.2.num)).Nodup)(m:p∈Ds):aQ (cF Ds) (Sum.inl (p.2.num:Int))=some (.ref p.1):=by
 induction Ds with
 |nil=>cases m
 |cons q r ih=>
  rw[Hf,Ik]at hn;unfold cF at ih⊢;rw[Hf];rcases Hi.mp m with rfl|m'
  .exact b8 rfl
  .rw[bR (λe=>hn.1 ?_)]
   .exact ih hn.2 m'
   .have e':(q.2.num:Int)=(p.2.num:Int):=by injection e
    have e2:q.2.num=p.2.num:=by omega
    rw[e2];exact HA.mpr ⟨p,m',rfl⟩
theorem pU(h:∀p∈Ds,(p.2.num:Int)≠k):aQ (cF Ds) (Sum.inl k)=none:=by
 induction Ds with
 |nil=>rfl
 |cons q r ih=>unfold cF at ih⊢;rw[Hf,bR (λe=>h q (Hk ..) (by injection e))];exact ih λp m=>h p (Hh _ m)
section
variable{P:Program}{w:World}{K:LS}{mg:Str->Option Value}{base:Heap}{c:Cs}{H:Hp}{L dx af av ar ad:Addr}{S:LU}{Rs:List (Addr×LW)}{Ds:List (Addr×LV)}
theorem bJ.dNod(h:bJ c H L S dx af av ar ad Rs Ds)(ok:SOk S):(Ds.map (·.2.num)).Nodup:=by
 have e:Ds.map (·.2.num)=(Ds.map (·.2)).map (·.num):=by rw[HM];rfl
 rw[e];exact(h.dPm.map (·.num)).nodup_iff.mpr ok.dNo
theorem uA{l:List LW}(h:l.Pairwise λa b=>a.num<b.num):(l.map (·.num)).Nodup:=by unfold Nodup;rw[IL];exact h.imp λq=>HW q
theorem bJ.rNod(h:bJ c H L S dx af av ar ad Rs Ds)(ok:SOk S):(Rs.map (·.2.num)).Nodup:=by
 have e:Rs.map (·.2.num)=(Rs.map (·.2)).map (·.num):=by rw[HM];rfl
 rw[e];exact(h.rPm.map (·.num)).nodup_iff.mpr (uA ok.rSo)
theorem bJ.dMem(h:bJ c H L S dx af av ar ad Rs Ds)(m:d∈S.deeds):∃x,(x,d)∈Ds:=by obtain⟨p,hp,e⟩:=HA.mp (h.dPm.mem_iff.mpr m);exact⟨p.1,by rw[<-e];exact hp⟩
theorem bJ.rMem(h:bJ c H L S dx af av ar ad Rs Ds)(m:d∈S.rights):∃x,(x,d)∈Rs:=by obtain⟨p,hp,e⟩:=HA.mp (h.rPm.mem_iff.mpr m);exact⟨p.1,by rw[<-e];exact hp⟩
theorem bJ.dLen(h:bJ c H L S dx af av ar ad Rs Ds):Ds.length=S.deeds.length:=by have:=h.dPm.length_eq;rwa[G8]at this
theorem bJ.rLen(h:bJ c H L S dx af av ar ad Rs Ds):Rs.length=S.rights.length:=by have:=h.rPm.length_eq;rwa[G8]at this
theorem bJ.dGet(h:bJ c H L S dx af av ar ad Rs Ds)(ok:SOk S)(m:d∈S.deeds):∃x,bP H ad (.int (d.num:Nat)) (some (.ref x))/\b0 c (am S) H x d:=by obtain⟨x,hx⟩:=h.dMem m;refine⟨x,?_,h.dAt _ hx⟩;have:=ql (h.dNod ok) hx;rw[<-this];exact bP.k (k:=Sum.inl (d.num:Int)) h.dds
theorem bJ.rGet(h:bJ c H L S dx af av ar ad Rs Ds)(ok:SOk S)(m:R∈S.rights):∃x,bP H ar (.int (R.num:Nat)) (some (.ref x))/\bd c (am S) H x R:=by obtain⟨x,hx⟩:=h.rMem m;refine⟨x,?_,h.rAt _ hx⟩;have:=kK (h.rNod ok) hx;rw[<-this];exact bP.k (k:=Sum.inl (R.num:Int)) h.rts
inductive mC(c:Cs)(vs:List V)(H:Hp)(Q:VK)(E:XK):Prop|mk(L:Addr)(S:LU)(_:vs=[.ref L])(_:aY c H L S)(_:SOk S)(_:∀H' D,ak H H'->H D=none->DL c (am S) H' D S.deeds->Q (.ref D) H')
theorem sP{α β γ:Type}(f:α->β)(g:α->γ):∀l:List α,(l.map f).zip (l.map g)=l.map λa=>(f a,g a)
 |[]=>rfl
 |a::l=>by rw[Hf,Hf,IJ,Hf,sP f g l]
theorem mT{l:List LV}(hn:(l.map (·.num)).Nodup){a b:LV}(ha:a∈l)(hb:b∈l)(e:a.num=b.num):a=b:=by
 induction l with
 |nil=>cases ha
 |cons q r ih=>
  rw[Hf,Ik]at hn;rcases Hi.mp ha with rfl|Pk
  .rcases Hi.mp hb with rfl|MW
   .rfl
   .exact absurd (HA.mpr ⟨b,MW,e.symm⟩) hn.1
  .rcases Hi.mp hb with rfl|MW
   .exact absurd (HA.mpr ⟨a,Pk,e⟩) hn.1
   .exact ih hn.2 Pk MW
theorem iI(T:Txt P w K mg c):T.Fl.H P w base 4 (mC c):=by
 have B:=T.B;refine aS T.Fl ["ledger"] ?_;rintro _ _ _ _ _ H vs Q E hr _ _ _ nd ⟨L,S,rfl,⟨dx,af,av,ar,ad,Rs,Ds,hL⟩,ok,k⟩;refine⟨_,(rt (Ac rfl (eQ T) (hr.mono (by decide)) rfl B.q rfl (BE (fv 0)))),?_⟩;refine⟨_,rfl,rfl,hL.obj,T.Ledger.o,rfl,ad,_,rfl,hL.dds,λp hp=>?_⟩;have s1:ak H (upd H p (VwE p ad)):=ak.upd hp;have N1:=hL.same s1;have ev:(bO Ds).map (·.2)=Ds.map λz=>V.ref z.1:=by unfold bO;rw[HM];rfl
 refine⟨p,ad,bO Ds,Ds.map λz=>((z.2.day:Int),(z.2.num:Int)),rfl,aa,N1.dds,by unfold bO;rw[G8,G8],?_,λi x k0 H' hx hk s2 R hR=>?_,λH' D ts s2 hD NI tp tw=>?_⟩
 .unfold bO;rw[G8,hL.dLen];exact Hv ok.dLe (by decide)
 .rw[ev,Hd]at hx;rw[Hd]at hk;cases e:Ds[i]? with
  |none=>rw[e]at hx;cases hx
  |some z=>rw[e]at hx hk;cases hx;cases hk;exact⟨z.1,z.2,am S,rfl,(N1.dAt z (Hl e)).same s2,λH2 q s3 h3=>hR q H2 s3 h3⟩
 .rw[ev,sP]at tp;obtain⟨Ds',p1,e1⟩:=ft (λz:Addr×LV=>(V.ref z.1,((z.2.day:Int),(z.2.num:Int)))) tp;subst e1;have pm:(Ds'.map (·.2)).Perm S.deeds:=(p1.map _).trans hL.dPm;have eq:Ds'.map (·.2)=S.deeds:=by
   refine eY (r:=λa b=>jz ((a.day:Int),(a.num:Int)) ((b.day:Int),(b.num:Int))) (λa ha b hb h1 h2=>?_) pm ?_ ?_
   .refine mT ok.dNo (pm.mem_iff.mp ha) (pm.mem_iff.mp hb) ?_;unfold jz at h1 h2;dsimp only at h1 h2;omega
   .rw[IL]at tw⊢;exact tw
   .refine ok.dSo.imp λ{a b} h=>?_;unfold jz;dsimp only;omega
  refine k H' D (s1.trans s2) (s1.free hD) ⟨Ds',eq,?_,λz m=>(N1.dAt z (p1.mem_iff.mp m)).same s2⟩;rw[NI,HM];rfl
end
theorem qK(h:∀H,G H->H d=some (.frz o (.dK kvs))):fg (Itd d o kvs) kvs.length G (λi x _=>∃k,kvs[i]?=some (k,x))where
 go:=λi H g hi=>⟨h H g,hi⟩
 stop:=λi H g hi=>⟨h H g,hi⟩
 yld:=λi H x H' g hi y=>by obtain⟨e,y⟩:=y;subst e;exact⟨ak.refl _,y⟩
theorem xA(h:∀H,G H->H d=some (.frz o (.dK kvs))):fg (Iti d o kvs) kvs.length G (λi x H'=>∃T k v,kvs[i]?=some (k,v)/\x=.ref T/\H' T=some (.tup [kV k,v]))where
 go:=λi H g hi=>⟨h H g,hi⟩
 stop:=λi H g hi=>⟨h H g,hi⟩
 yld:=λi H x H' g hi y=>by obtain⟨T,k,v,hk,rfl,hT,rfl⟩:=y;exact⟨ak.upd hT,T,k,v,hk,rfl,aa⟩
theorem yW(h:∀H,G H->H d=some (.frz o (.dK kvs))):fg (Itk d o kvs) kvs.length G (λi x _=>∃k v,kvs[i]?=some (k,v)/\x=kV k)where
 go:=λi H g hi=>⟨h H g,hi⟩
 stop:=λi H g hi=>⟨h H g,hi⟩
 yld:=λi H x H' g hi y=>by obtain⟨e,y⟩:=y;subst e;exact⟨ak.refl _,y⟩
section
variable{P:Program}{w:World}{K:LS}{mg:Str->Option Value}{base:Heap}{c:Cs}
def cO(n:Nat)(d:LV):Bool:=d.kind==5&&decide (d.known<=n)
inductive mF(c:Cs)(vs:List V)(H:Hp)(Q:VK)(E:XK):Prop|mk(L:Addr)(S:LU)(n:Nat)(_:vs=[.ref L,.int n])(_:aY c H L S)(_:SOk S)(_:∀H' D kvs,ak H H'->H D=none->H' D=some (.dK kvs)->(∀m:Nat,(aQ kvs (Sum.inl (m:Int))).isSome=((S.deeds.filter (cO n)).map λd=>d.about).contains m)->Q (.ref D) H')
theorem nZ(T:Txt P w K mg c):T.Fm.H P w base 1 (mF c):=by
 refine aS T.Fm ["ledger","known","annulled","deed"] ?_;rintro _ _ _ _ _ H vs Q E hr hu _ _ nd ⟨L,S,n,rfl,⟨dx,af,av,ar,ad,Rs,Ds,hL⟩,ok,k⟩
 refine⟨_,(aj (aO 2 nd cZ)
 (aj (pO (cy HI rfl (qD (fv 0)) (aT 3 nd)
 (aL (a9 (PW.pt (kC (aA bY (fv 3) (bf rfl T.GF) (aD _)) (jo (aA fF (fv 3) (pv 1) (aD _))))) (aL (fS hu (pv 2) (fv 3) eR rfl)) aM))))
 (rt (pv 2)))),?_⟩
 intro D hD;have s1:ak H (upd H D (.dK [])):=ak.upd hD;have N1:=hL.same s1;have nLd:L≠ad:=aF hL.obj hL.dds;have nDd:D≠ad:=Ho (au hL.dds hD);dsimp only[bp,b6,cu,tC,bu];refine⟨ad,_,N1.dds,Jy,λod=>?_⟩;refine cw ?_;refine⟨_,rfl,rfl,(ai nLd).trans N1.obj,T.Ledger.o,rfl,ad,od,bO Ds,rfl,aa,?_⟩
 refine cB (qK (G:=λH'=>H' ad=some (.frz od (.dK (bO Ds)))) λH' g=>g) (λi σ H'=>∃v3 kvs,σ=[some (.ref L),some (.int n),some (.ref D),v3]/\(∀b o,b≠D->(upd (upd H D (.dK [])) ad (.frz od (.dK (bO Ds)))) b=some o->H' b=some o)/\H' D=some (.dK kvs)/\kvs.length<=i/\
  ∀m:Nat,(aQ kvs (Sum.inl (m:Int))).isSome=(((Ds.take i).filter λz=>cO n z.2).map λz=>z.2.about).contains m) ?_ ?_ ?_ ?_
 .exact⟨none,[],rfl,λb o _ e=>e,by rw[ai nDd];exact aa,Hu _,λm=>rfl⟩
 .rintro i σ H' _ ⟨v3,kvs,_,kp,_⟩;exact kp _ _ (Ho nDd) aa
 .rintro i x σ H1 H2 hi ⟨v3,kvs,rfl,kp,Np,L3,Nu⟩ s2 ⟨key,hx⟩;have hi':i<Ds.length:=by unfold bO at hi;rw[G8]at hi;exact hi
  have hDi:Ds[i]?=some Ds[i]:=Hn hi';unfold bO at hx;rw[Hd,hDi]at hx;cases hx;generalize hz:Ds[i]=z at hDi;have hm:z∈Ds:=Hl hDi;obtain⟨dz,ab,ac,hx,MP,MX⟩:=N1.dAt z hm;have nzd:z.1≠ad:=aF hx N1.dds;have nzD:z.1≠D:=aF hx (aa (H:=H) (a:=D));have N2:=s2 _ _ (kp z.1 _ nzD (by rw[ai nzd];exact hx));have kp2:∀b o,b≠D->(upd (upd H D (.dK [])) ad (.frz od (.dK (bO Ds)))) b=some o->H2 b=some o:=λb o nb e=>s2 _ _ (kp b o nb e);have MO:=s2 _ _ Np;have step:∀m:Nat,(((Ds.take (i+1)).filter λz=>cO n z.2).map λz=>z.2.about).contains m=((((Ds.take i).filter λz=>cO n z.2).map λz=>z.2.about).contains m||(cO n z.2&&m==z.2.about)):=λm=>by
   rw[a6 hDi,IK,HL,List.contains_append];congr 1;cases hg:cO n z.2 with
   |true=>simp[hg];exact HD.mpr (by simp)
   |false=>simp[hg]
  have no:cO n z.2=false->∃v3 kvs,[some (V.ref L),some (V.int n),some (V.ref D),some (V.ref z.1)]=[some (V.ref L),some (V.int n),some (V.ref D),v3]/\(∀b o,b≠D->(upd (upd H D (.dK [])) ad (.frz od (.dK (bO Ds)))) b=some o->H2 b=some o)/\H2 D=some (.dK kvs)/\kvs.length<=i+1/\
    ∀m:Nat,(aQ kvs (Sum.inl (m:Int))).isSome=(((Ds.take (i+1)).filter λz=>cO n z.2).map λz=>z.2.about).contains m:=λhg=>
   ⟨_,kvs,rfl,kp2,MO,Nat.le_succ_of_le L3,λm=>by rw[step,hg,HV,Lq];exact Nu m⟩
  refine⟨_,rfl,rfl,N2,T.Deed.o,rfl,rfl,_,rfl,aP (λh1=>?_) λh1=>eh (no ?_)⟩
  .refine⟨_,rfl,rfl,N2,T.Deed.o,rfl,_,rfl,_,_,rfl,rfl,_,rfl,aP (λh2=>?_) λh2=>no ?_⟩
   .have hg:cO n z.2=true:=by unfold cO;rw[<-cH z.2.kind 5,<-md,Hq];exact⟨h1,h2⟩
    refine⟨_,rfl,_,rfl,rfl,N2,T.Deed.o,rfl,D,_,rfl,dX.k (k:=Sum.inl (z.2.about:Int)) MO ?_,?_⟩
    .have:=ok.dLe;have:=hL.dLen;exact aG (by omega)
    .refine⟨_,bG kvs (Sum.inl (z.2.about:Int)) (.bl true),rfl,λb o nb e=>by rw[ai nb];exact kp2 b o nb e,aa,Hv (fu _ _ _) (by omega),λm=>?_⟩;rw[iq,step,hg,HE,<-Nu m];by_cases e:m=z.2.about
     .subst e;simp
     .have e1:¬(Sum.inl (m:Int):Key)=Sum.inl (z.2.about:Int):=λq=>e (by injection q with q;omega);rw[G9 e1];have e2:(m==z.2.about)=false:=by simpa using e
      rw[e2,Lq]
   .unfold cO;rw[<-md];rw[Ko];exact .inr (dM h2)
  .unfold cO;rw[<-cH z.2.kind 5,Ko];exact .inl (dM h1)
 .rintro σ H' ⟨v3,kvs,rfl,kp,Np,L3,Nu⟩;have hfz:=kp ad _ (Ho nDd) aa;refine⟨hfz,?_⟩;refine⟨_,rfl,k _ D kvs (λb o e=>?_) hD (by rw[ai nDd];exact Np) λm=>?_⟩
  .by_cases hb:b=ad
   .subst hb;rw[aa,<-e,hL.dds]
   .have nb:b≠D:=au e hD;rw[ai hb];refine kp b o nb ?_;rw[ai hb,ai nb];exact e
  .rw[Nu m];unfold bO;rw[G8,Im];have e1:(Ds.filter λz=>cO n z.2).map (λz=>z.2.about)=((Ds.map (·.2)).filter (cO n)).map λd=>d.about:=by rw[<-d5,HM];rfl
   rw[e1];have pm:=((hL.dPm.filter (cO n)).map λd=>d.about);apply HD.mpr;rw[HZ,HZ];exact pm.mem_iff
theorem fU{α:Type}(p q:α->Bool)(l:List α):(l.filter p).filter q=l.filter λa=>p a&&q a:=by rw[Je];congr 1;funext a;exact Jm _ _
inductive nV(c:Cs)(vs:List V)(H:Hp)(Q:VK)(E:XK):Prop|mk(L:Addr)(S:LU)(n:Nat)(_:vs=[.ref L,.int n])(_:aY c H L S)(_:SOk S)(_:∀H' D,ak H H'->H D=none->DL c (am S) H' D (counted S n)->Q (.ref D) H')
theorem iX(T:Txt P w K mg c):T.Fn.H P w base 5 (nV c):=by
 refine aS T.Fn ["ledger","known","annulled","there","deed"] ?_;rintro _ _ _ _ _ H vs Q E hr hu _ _ nd ⟨L,S,n,rfl,hL,ok,k⟩
 refine⟨_,(aj (aO 2 nd (az (nZ T) hr (p2 0 1)))
 (aj (iw (i:=3) rfl nd rfl rfl (jm rfl rfl rfl rfl) (a8 (az (iI T) hr (p1 0))) (aX (own:=[("deed",4)]) (by rfl))
  (by exact λ_ _ _ _ _=>(aT 4 nd))
  (by exact λ_ _ _ _ _=>(cC (PW.pt (kC (aA fF (bv (K:=K) rfl (pv 4) rfl) (pv 1) (aD _)) (jo (aA l7 (bv (K:=K) rfl (pv 4) rfl) (bf rfl T.GF) (aD _)))))))
  (by exact λ_ _ _ _ _=>(pv 4)))
 (rt (bQ rfl nd (a8 (pv 3)) (aX (own:=[("deed",4)]) (by rfl))
  (by exact λ_ _ _ _ _=>(aT 4 nd))
  (by exact λ_ _ _ _ _=>(cC (gK (kR hu (bv (K:=K) rfl (pv 4) rfl) (pv 2)))))
  (by exact λ_ _ _ _ _=>(pv 4)))))),?_⟩
 refine⟨_,rfl,_,rfl,L,S,n,rfl,hL,ok,λH1 G kvs s1 hG hG1 Nu=>?_⟩;dsimp only[bp,b6,cu,tC,bu];refine bq ?_;refine⟨_,rfl,L,S,rfl,hL.same s1,ok,λH2 D2 s2 MO NN=>?_⟩;obtain⟨zs,_,Ml,_⟩:=id NN;have L3:S.deeds.length<=1000:=Hv ok.dLe (by decide);refine⟨D2,rfl,⟨_,SqL.of Ml⟩,?_⟩;refine dF (λd=>decide (d.known<=n)&&d.kind !=5) NN L3 ?_ λD3 H3 MK s3 NO=>?_
 .rintro x d H' R _ s' ⟨dx,ab,ac,hx,MP,MX⟩ k';refine⟨rfl,?_⟩;have kk:=k' H' (ak.refl _);refine⟨_,rfl,rfl,hx,T.Deed.o,rfl,_,rfl,_,_,rfl,rfl,_,rfl,aP (λh1=>?_) λh1=>eh (kk.2 ?_)⟩
  .refine⟨_,rfl,rfl,hx,T.Deed.o,rfl,rfl,_,rfl,aP (λh2=>⟨_,rfl,kk.1 ?_⟩) λh2=>kk.2 ?_⟩
   .rw[<-md,<-n8 d.kind 5,Hq];exact⟨h1,h2⟩
   .rw[<-n8 d.kind 5,Ko];exact .inr (dM h2)
  .rw[<-md,Ko];exact .inl (dM h1)
 .obtain⟨zs3,_,hzs3,_⟩:=id NO;refine cn (bq ?_);refine⟨_,rfl,D3,rfl,⟨_,SqL.of hzs3⟩,?_⟩;have sG:=s2.trans s3;refine dF (λd=> !((S.deeds.filter (cO n)).map λd=>d.about).contains d.num) NO (Hv (Hz _ _) L3) ?_ λD4 H4 OD s4 Pa=>?_
  .rintro x d H' R _ s' ⟨dx,ab,ac,hx,MP,MX⟩ k';refine⟨rfl,?_⟩;have kk:=k' H' (ak.refl _);have hG':=s' _ _ (sG _ _ hG1);refine⟨_,rfl,rfl,hx,T.Deed.o,rfl,_,rfl,G,_,rfl,bP.k (k:=Sum.inl (d.num:Int)) hG',_,rfl,?_⟩;rw[Nu d.num];refine aP (λh2=>⟨_,rfl,kk.1 h2⟩) λh2=>kk.2 (dM h2)
  .refine k H4 D4 (s1.trans (sG.trans s4)) (s1.free (sG.free OD)) ?_;rw[fU]at Pa;have e:counted S n=S.deeds.filter λa=>(decide (a.known<=n)&&a.kind !=5)&& !((S.deeds.filter (cO n)).map λd=>d.about).contains a.num:=by unfold counted;dsimp only;congr 1;funext a;rw[Bool.and_assoc];rfl
   rw[e];exact Pa
inductive ph(c:Cs)(vs:List V)(H:Hp)(Q:VK)(E:XK):Prop|mk(L:Addr)(S:LU)(day n:Nat)(_:vs=[.ref L,.int day,.int n])(_:aY c H L S)(_:SOk S)(_:∀H' D,ak H H'->H D=none->DL c (am S) H' D ((counted S n).filter λd=>decide (d.day<=day))->Q (.ref D) H')
theorem m8(S:LU)(n:Nat)(ok:SOk S):(counted S n).length<=60:=by unfold counted;exact Hv (Hz _ _) ok.dLe
theorem eZ(T:Txt P w K mg c):T.Fo.H P w base 6 (ph c):=by
 refine aS T.Fo ["ledger","day","known","deed"] ?_;rintro _ _ _ _ _ H vs Q E hr _ _ _ nd ⟨L,S,day,n,rfl,hL,ok,k⟩
 refine⟨_,(rt (bQ rfl nd (a8 (az (iX T) hr (p2 0 2))) (aX (own:=[("deed",3)]) (by rfl))
  (by exact λ_ _ _ _ _=>(aT 3 nd))
  (by exact λ_ _ _ _ _=>(cC (aA fF (bv (K:=K) rfl (pv 3) rfl) (pv 1) (aD _))))
  (by exact λ_ _ _ _ _=>(pv 3)))),?_⟩
 refine cn (bq ?_);refine⟨_,rfl,_,rfl,L,S,n,rfl,hL,ok,λH1 D1 s1 Np Nb=>?_⟩;obtain⟨zs,_,Ml,_⟩:=id Nb;refine⟨D1,rfl,⟨_,SqL.of Ml⟩,?_⟩;refine dF (λd=>decide (d.day<=day)) Nb (Hv (m8 S n ok) (by decide)) ?_ λD3 H3 MK s3 NO=>k H3 D3 (s1.trans s3) (s1.free MK) NO;rintro x d H' R _ s' ⟨dx,ab,ac,hx,MP,MX⟩ k';refine⟨rfl,?_⟩;have kk:=k' H' (ak.refl _);refine⟨_,rfl,rfl,hx,T.Deed.o,rfl,_,rfl,_,_,rfl,rfl,_,rfl,aP (λh1=>⟨_,rfl,kk.1 (by rw[<-md];exact h1)⟩) λh1=>kk.2 (by rw[<-md];exact dM h1)⟩
def cj(a b:LV):Bool:=decide (a.day<b.day)||(decide (a.day=b.day)&&decide (a.num<b.num))
theorem wk(a b:LV):HT.lexLt [(a.day:Int),(a.num:Int)] [(b.day:Int),(b.num:Int)]=cj a b:=by
 unfold cj;rw[HT.lexLt_cons,HT.lexLt_cons,HT.lexLt_nil_nil];apply HD.mpr;rw[or_eq_true,Hq,Ht,Ht,Ht];by_cases h1:(a.day:Int)=b.day
 .rw[Hc h1];by_cases h2:(a.num:Int)=b.num
  .rw[Hc h2];constructor
   .intro h;cases h
   .intro h;omega
  .rw[G9 h2,Ht];omega
 .rw[G9 h1,Ht];omega
inductive pj(c:Cs)(vs:List V)(H:Hp)(Q:VK)(E:XK):Prop|mk(a x:Addr)(ds:List LV)(l:LV)(vr:List (List Nat))(_:vs=[.ref a,.ref x])(_:DL c vr H a ds)(_:b0 c vr H x l)(_:ds.length<=1000)(_:∀H' D,ak H H'->H D=none->DL c vr H' D (ds.filter λd=>cj d l)->Q (.ref D) H')
theorem qe(T:Txt P w K mg c):T.Fp.H P w base 2 (pj c):=by
 refine aS T.Fp ["deeds","last","deed"] ?_;rintro _ _ _ _ _ H vs Q E hr _ _ hu0 nd ⟨a,x,ds,l,vr,rfl,dl,hl,hz,k⟩
 refine⟨_,(rt (bQ rfl nd (a8 (pv 0)) (aX (own:=[("deed",2)]) (by rfl))
  (by exact λ_ _ _ _ _=>(aT 2 nd))
  (by exact λ_ _ _ _ _=>(cC (aA (BI (K:=K) rfl hu0) (az (eQ T) hr (p1 2)) (az (eQ T) hr (p1 1)) (aD _))))
  (by exact λ_ _ _ _ _=>(pv 2)))),?_⟩
 obtain⟨zs,_,Ml,_⟩:=id dl;refine cn (bq ?_);refine⟨_,rfl,a,rfl,⟨_,SqL.of Ml⟩,?_⟩;refine dF (λd=>cj d l) dl hz ?_ λD3 H3 MK s3 NO=>k H3 D3 s3 MK NO;rintro y d H' R _ s' hd k';refine⟨rfl,?_⟩;refine⟨_,rfl,y,d,vr,rfl,hd,λH2 p s2 hp=>?_⟩;refine⟨_,rfl,x,l,vr,rfl,(hl.same s').same s2,λH3 q s3 hq=>?_⟩;have kk:=k' H3 (s2.trans s3);refine⟨p,q,[(d.day:Int),(d.num:Int)],[(l.day:Int),(l.num:Int)],rfl,rfl,SqT.of (s3 _ _ hp),SqT.of hq,_,rfl,?_⟩;rw[wk];exact aP (λh=>⟨_,rfl,kk.1 h⟩) λh=>kk.2 (dM h)
def tX(S:LU)(d g:LV):Prop:=(d.kind=3\/d.kind=4->g∈S.deeds/\g.num=d.about/\g.kind=2)/\(¬(d.kind=3\/d.kind=4)->g=d)
inductive p9(c:Cs)(vs:List V)(H:Hp)(Q:VK)(E:XK):Prop|mk(L x:Addr)(S:LU)(d:LV)(_:vs=[.ref L,.ref x])(_:aY c H L S)(_:SOk S)(_:b0 c (am S) H x d)(_:d∈S.deeds)(_:∀y g,tX S d g->b0 c (am S) H y g->Q (.ref y) H)
theorem rS(T:Txt P w K mg c):T.Fs.H P w base 1 (p9 c):=by
 refine aS T.Fs ["ledger","deed"] ?_;rintro _ _ _ _ _ H vs Q E hr hu _ _ nd ⟨L,x,S,d,rfl,⟨dL,af,av,ar,ad,Rs,Ds,hL⟩,ok,hd,hm,k⟩
 refine⟨_,(aj (a9 (PW.pt (jE (aA bY (fv 1) (bf rfl T.GC) (aD _)) (jd (aA bY (fv 1) (bf rfl T.GD) (aD _))))) (rt (dg hu (fv 0) (fv 1) (λ_ _=>rfl))) aM)
 (rt (pv 1))),?_⟩
 obtain⟨dx,ab,ac,hx,MP,MX⟩:=id hd;have yes:(d.kind=3\/d.kind=4)->∃y,bP H ad (.int (d.about:Nat)) (some (.ref y))/\Q (.ref y) H:=λh=>by obtain⟨p,hp,hpn,hpk⟩:=ok.dAb d hm h;obtain⟨y,hy,hyd⟩:=hL.dGet ok hp;rw[hpn]at hy;exact⟨y,hy,k y p ⟨λ_=>⟨hp,hpn,hpk⟩,λz=>absurd h z⟩ hyd⟩
 refine⟨_,rfl,rfl,hx,T.Deed.o,rfl,rfl,_,rfl,aP (λh1=>bS ?_) λh1=>?_⟩
 .have Ni:d.kind=3:=by have:=(cH d.kind 3).symm.trans h1;simpa using this
  obtain⟨y,hy,q⟩:=yes (.inl Ni);exact⟨_,rfl,rfl,hL.obj,T.Ledger.o,rfl,_,rfl,rfl,hx,T.Deed.o,rfl,ad,_,rfl,hy,q⟩
 refine⟨_,rfl,rfl,hx,T.Deed.o,rfl,rfl,_,rfl,aP (λh2=>?_) λh2=>?_⟩
 .have MR:d.kind=4:=by have:=(cH d.kind 4).symm.trans h2;simpa using this
  obtain⟨y,hy,q⟩:=yes (.inr MR);exact⟨_,rfl,rfl,hL.obj,T.Ledger.o,rfl,_,rfl,rfl,hx,T.Deed.o,rfl,ad,_,rfl,hy,q⟩
 refine⟨_,rfl,k x d ⟨λz=>?_,λ_=>rfl⟩ hd⟩;exfalso;rcases z with z|z
 .exact h1 (by rw[z];rfl)
 .exact h2 (by rw[z];rfl)
def bD(S:LU)(d:LV)(num LY:Nat)(v:List Nat):Bool:=decide ((Vbptaj.target S d).right=num)&&Vbptaj.covers (Vbptaj.target S d) LY v
theorem iR(ok:SOk S)(m:g∈S.deeds):deedAt S g.num=some g:=by
 unfold deedAt;have key:∀(l:List LV),(l.map (·.num)).Nodup->g∈l->l.find? (λx=>x.num==g.num)=some g:=by
  intro l;induction l with
  |nil=>intro _ h;cases h
  |cons q r ih=>
   intro hn h;rw[Hf,Ik]at hn;rw[Jc];rcases Hi.mp h with rfl|h'
   .simp
   .have e:(q.num==g.num)=false:=by rw[Ia];exact λz=>hn.1 (z▸HA.mpr ⟨g,h',rfl⟩)
    rw[e];exact ih hn.2 h'
 exact key _ ok.dNo m
theorem rZ(ok:SOk S)(h:tX S d g)(num LY:Nat)(v:List Nat):bD S d num LY v=(decide (g.right=num)&&(inBox g.box v&&g.lands.testBit LY)):=by
 unfold bD Vbptaj.covers Vbptaj.target;by_cases hk:d.kind=3\/d.kind=4
 .obtain⟨h1,h2,h3⟩:=h.1 hk;rw[Hc hk,<-h2,iR ok h1];dsimp only;rw[Jm (g.lands.testBit LY)]
 .rw[G9 hk,h.2 hk,Jm (d.lands.testBit LY)]
inductive yF(c:Cs)(vs:List V)(H:Hp)(Q:VK)(E:XK):Prop|mk(L x r:Addr)(S:LU)(d:LV)(R:LW)(LY i:Nat)(v:List Nat)(_:vs=[.ref L,.ref x,.ref r,.int LY,.int i])(_:aY c H L S)(_:SOk S)(_:b0 c (am S) H x d)(_:d∈S.deeds)(_:d.kind≠5)(_:bd c (am S) H r R)(_:(am S)[i]?=some v)(_:Q (.bl (bD S d R.num LY v)) H)
theorem tV(T:Txt P w K mg c):T.Ft.H P w base 2 (yF c):=by
 refine aS T.Ft ["ledger","deed","right","land","place","ground"] ?_;rintro _ _ _ _ _ H vs Q E hr _ _ _ nd ⟨L,x,r,S,d,R,LY,i,v,rfl,hL,ok,hd,hm,h5,⟨dr,rc,ro,OO,hr2,hr3⟩,hv,k⟩
 refine⟨_,(aj (aO 5 nd (az (rS T) hr (p2 0 1)))
 (rt (je (eV bY (fv 5) (fv 2) (aD _)) (je (cr cD (fv 5) (pv 4) (λ_ _=>rfl)) (kG (az (iQ T) hr (ag (fv 5) (p1 3)))))))),?_⟩
 refine⟨_,rfl,_,rfl,L,x,S,d,rfl,hL,ok,hd,hm,λy g hg hy=>?_⟩;rw[rZ ok hg]at k;obtain⟨dy,yb,yc,Nk,hy2,Pw⟩:=id hy;have hgk:g.kind<=2:=by
  by_cases hk:d.kind=3\/d.kind=4
  .rw[(hg.1 hk).2.2];exact Hu 2
  .have:=ok.dKi d hm;rw[hg.2 hk];omega
 refine⟨_,rfl,rfl,Nk,T.Deed.o,rfl,_,rfl,rfl,OO,T.Right.o,rfl,rfl,_,rfl,aP (λh1=>?_) λh1=>?_⟩
 .have e1:decide (g.right=R.num)=true:=by have:=(cH g.right R.num).symm.trans h1;simpa using this
  rw[e1,HE]at k;refine⟨_,rfl,rfl,Nk,T.Deed.o,rfl,_,rfl,yc,_,_,_,rfl,rfl,SqL.of Pw,aN (j:=i) rfl (by unfold pD;rw[Hc hgk,Hd,Hd,hv];rfl),_,rfl,aP (λh2=>?_) λh2=>?_⟩
  .have h2:inBox g.box v=true:=h2;rw[h2,HE]at k;exact⟨_,rfl,rfl,Nk,T.Deed.o,rfl,_,rfl,g.lands,LY,rfl,k⟩
  .have h2:inBox g.box v=false:=dM h2;rw[h2,HV]at k;exact k
 .have e1:decide (g.right=R.num)=false:=by have:=(cH g.right R.num).symm.trans (dM h1);simpa using this
  rw[e1,HV]at k;exact k
inductive mD(c:Cs)(vs:List V)(H:Hp)(Q:VK)(E:XK):Prop|mk(L a r:Addr)(S:LU)(ds:List LV)(R:LW)(LY i:Nat)(v:List Nat)(_:vs=[.ref L,.ref a,.ref r,.int LY,.int i])(_:aY c H L S)(_:SOk S)(_:DL c (am S) H a ds)(_:(∀d∈ds,d∈S.deeds/\d.kind≠5))(_:ds.length<=1000)(_:bd c (am S) H r R)(_:(am S)[i]?=some v)(_:∀H' D,ak H H'->H D=none->DL c (am S) H' D (ds.filter λd=>bD S d R.num LY v)->Q (.ref D) H')
theorem iJ(T:Txt P w K mg c):T.Fu.H P w base 3 (mD c):=by
 refine aS T.Fu ["ledger","deeds","right","land","place","deed"] ?_;rintro _ _ _ _ _ H vs Q E hr _ _ _ nd ⟨L,a,r,S,ds,R,LY,i,v,rfl,hL,ok,dl,hds,hz,hR,hv,k⟩
 refine⟨_,(rt (bQ rfl nd (a8 (pv 1)) (aX (own:=[("deed",5)]) (by rfl))
  (by exact λ_ _ _ _ _=>(aT 5 nd))
  (by exact λ_ _ _ _ _=>(cC (eL (az (tV T) hr (ag (pv 0) (ag (pv 5) (ag (pv 2) (p2 3 4))))) (λ_=>rfl))))
  (by exact λ_ _ _ _ _=>(pv 5)))),?_⟩
 obtain⟨zs,_,Ml,_⟩:=id dl;refine cn (bq ?_);refine⟨_,rfl,a,rfl,⟨_,SqL.of Ml⟩,?_⟩;refine dF (λd=>bD S d R.num LY v) dl hz ?_ λD3 H3 MK s3 NO=>k H3 D3 s3 MK NO;rintro y d H' R' hm s' hd k';refine⟨rfl,?_⟩;have kk:=k' H' (ak.refl _);refine⟨_,rfl,_,rfl,_,rfl,_,rfl,_,rfl,L,y,r,S,d,R,LY,i,v,rfl,hL.same s',ok,hd,(hds d hm).1,(hds d hm).2,hR.same s',hv,_,rfl,?_⟩;exact aP (λh=>⟨_,rfl,kk.1 h⟩) λh=>kk.2 (dM h)
theorem tZ{α:Type} [DecidableEq α]{v:α}:∀{l:List α},v∈l->∃j:Nat,l[j]?=some v/\∀m:Nat,m<j->l[m]?≠some v
 |[],h=>by cases h
 |a::l,h=>by
  by_cases e:a=v
  .exact⟨0,by rw[e];rfl,λm hm=>absurd hm (Nat.not_lt_zero _)⟩
  .rcases Hi.mp h with h|h
   .exact absurd h.symm e
   .obtain⟨j,h1,h2⟩:=tZ h;refine⟨j+1,h1,λm hm=>?_⟩;cases m with
    |zero=>exact λq=>e (Hg q)
    |succ m=>exact h2 m (by omega)
theorem Aw{a b:List Nat}(h:Vbptaj.ints a=Vbptaj.ints b):a=b:=by
 unfold Vbptaj.ints at h;induction a generalizing b with
 |nil=>cases b with
  |nil=>rfl
  |cons y b=>simp at h
 |cons x a ih=>cases b with
  |nil=>simp at h
  |cons y b=>rw[Hf,Hf]at h;injection h with h1 h2;rw[ih h2,show x=y by omega]
inductive lX(c:Cs)(vs:List V)(H:Hp)(Q:VK)(E:XK):Prop|mk(L:Addr)(S:LU)(LY i day:Nat)(v:List Nat)(_:vs=[.ref L,.int LY,.int i,.int day])(_:aY c H L S)(_:SOk S)(_:(am S)[i]?=some v)(_:∀H' D,ak H H'->H D=none->RL c (am S) H' D (inForce S LY v day)->Q (.ref D) H')
theorem fi(T:Txt P w K mg c):T.Fj.H P w base 3 (lX c):=by
 have B:=T.B;refine aS T.Fj ["ledger","land","place","day","there","number","right"] ?_;rintro _ _ _ _ s H vs Q E hr hu _ _ nd ⟨L,S,LY,i,day,v,rfl,⟨dL,af,av,ar,ad,Rs,Ds,hL⟩,ok,hv,k⟩
 refine⟨_,(aj (iw (i:=4) rfl nd rfl rfl (jm rfl rfl rfl rfl) (a8 (aK (o8 rfl) (by rfl) B.q Lm (ag (fv 0) aq))) (aX (own:=[("number",5)]) (by rfl))
  (by exact λ_ _ _ _ _=>(aT 5 nd))
  (by exact λ_ _ _ _ _=>b7)
  (by exact λ_ _ _ _ _=>(dg hu (bv (K:=K) rfl (pv 0) rfl) (pv 5) (λ_ _=>rfl))))
 (rt (bQ rfl nd (a8 (pv 4)) (aX (own:=[("right",6)]) (by rfl))
  (by exact λ_ _ _ _ _=>(aT 6 nd))
  (by exact λ_ _ _ _ _=>(cC (PW.pt (kC (tj fF fF (bv (K:=K) rfl (pv 6) rfl) (pv 3) (bv (K:=K) rfl (pv 6) rfl)) (jo (eL (az (qQ T) hr (ag (pv 6) (p2 1 2))) (λ_=>rfl)))))))
  (by exact λ_ _ _ _ _=>(pv 6))))),?_⟩
 refine sk (sw (bq ?_));have ek:(cF Rs).map (·.1)=(Rs.map λz=>(z.2.num:Int)).map Sum.inl:=by unfold cF;rw[HM,HM];rfl
 refine⟨_,rfl,rfl,hL.obj,T.Ledger.o,rfl,ar,_,_,rfl,hL.rts,ek,λms p pm pw hp=>?_⟩;have s1:ak H (upd H p (.lst (ms.map V.int))):=ak.upd hp;obtain⟨Rs',p1,rfl⟩:=ft (λz:Addr×LW=>(z.2.num:Int)) pm;have pmS:(Rs'.map (·.2)).Perm S.rights:=(p1.map _).trans hL.rPm;have eqS:Rs'.map (·.2)=S.rights:=by
  refine eY (r:=λa b=>a.num<=b.num) (λa ha b hb h1 h2=>?_) pmS ?_ (ok.rSo.imp λh=>Js h)
  .have Pk:=pmS.mem_iff.mp ha;have MW:=pmS.mem_iff.mp hb;have e:a.num=b.num:=Nat.le_antisymm h1 h2;obtain⟨x,hx⟩:=hL.rMem Pk;obtain⟨y,hy⟩:=hL.rMem MW;have key:∀l:List LW,(l.Pairwise λa b=>a.num<b.num)->a∈l->b∈l->a=b:=by
    intro l;induction l with
    |nil=>intro _ h;cases h
    |cons q r ih=>
     intro hp ha hb;rw[HF]at hp;rcases Hi.mp ha with ea|ha2
     .rcases Hi.mp hb with eb|OJ
      .exact ea.trans eb.symm
      .exact absurd (hp.1 b OJ) (by rw[<-ea];omega)
     .rcases Hi.mp hb with eb|OJ
      .exact absurd (hp.1 a ha2) (by rw[<-eb];omega)
      .exact ih hp.2 ha2 OJ
   exact key _ ok.rSo Pk MW
  .rw[IL]at pw⊢;exact pw.imp λ{a b} h=>by omega
 have N1:=hL.same s1;have lR:Rs'.length<=8:=by have:=HU length eqS;rw[G8]at this;have:=ok.rLe;omega
 refine⟨p,rfl,⟨_,SqL.of aa⟩,?_⟩;refine bT Rs' (λ_=>true) (λz=>V.ref z.1) (Item:=λi x _=>((Rs'.map λz=>(z.2.num:Int)).map V.int)[i]?=some x) ?_ (aG (by omega)) ?_ ?_
 .have q:=b9 (K:=K) (a:=p) (xs:=(Rs'.map λz=>(z.2.num:Int)).map V.int) (G:=λH'=>ak (upd H p (.lst ((Rs'.map λz=>(z.2.num:Int)).map V.int))) H') λH' s=>SqL.of (s _ _ aa);rw[G8,G8]at q;exact q
 .intro j z x H' R' hj s' hx k';rw[Hd,Hd,hj]at hx;cases hx;have hm:z∈Rs:=p1.mem_iff.mp (Hl hj);have g:=kK (hL.rNod ok) hm;have Oi:=N1.same s';refine⟨rfl,ck (bS ?_)⟩;refine⟨_,rfl,rfl,Oi.obj,T.Ledger.o,rfl,_,rfl,ar,_,rfl,g▸bP.k (k:=Sum.inl (z.2.num:Int)) Oi.rts,?_⟩;exact(k' H' (ak.refl _)).1 rfl
 .intro D H' hD s' hl;rw[bh]at hl;have rl:RL c (am S) H' D S.rights:=⟨Rs',eqS,hl,λz m=>(N1.same s').rAt z (p1.mem_iff.mp m)⟩;dsimp only[bp,b6,cu,tC,bu];refine cn (bq ?_);refine⟨_,rfl,D,rfl,⟨_,SqL.of hl⟩,?_⟩;refine yT (λx=>decide (x.first<=day/\day<=x.last)&&(x.lands.testBit LY&&x.boxes.any λb=>inBox b v)) rl (Hv ok.rLe (by decide)) ?_ λD3 H3 MK s3 NO=>k H3 D3 (s1.trans (s'.trans s3)) (s1.free (s'.free MK)) NO;rintro x R H2 R' _ s2 hR k';obtain⟨dr,rc,ro,h1,h2,h3⟩:=id hR;refine⟨rfl,?_⟩;have kk:=k' H2 (ak.refl _);refine⟨_,rfl,rfl,h1,T.Right.o,rfl,_,rfl,_,_,rfl,rfl,_,rfl,aP (λq1=>?_) λq1=>?_⟩
  .refine⟨_,rfl,rfl,h1,T.Right.o,rfl,_,_,rfl,rfl,_,rfl,aP (λq2=>?_) λq2=>?_⟩
   .have e:decide (R.first<=day/\day<=R.last)=true:=by have q1:=Hb q1;have q2:=Hb q2;exact He (by omega)
    rw[e,HE]at kk;refine⟨_,rfl,_,rfl,_,rfl,x,R,am S,LY,i,v,rfl,hR,hv,_,rfl,?_⟩;exact aP (λh=>⟨_,rfl,kk.1 h⟩) λh=>kk.2 (dM h)
   .refine eh (kk.2 ?_);have e:decide (R.first<=day/\day<=R.last)=false:=Hw λz=>q2 (He (by omega));rw[e,HV]
  .refine⟨_,rfl,eh (eh (kk.2 ?_))⟩;have e:decide (R.first<=day/\day<=R.last)=false:=Hw λz=>q1 (He (by omega));rw[e,HV]
inductive uW(c:Cs)(vs:List V)(H:Hp)(Q:VK)(E:XK):Prop|mk(L y:Addr)(S:LU)(v:List Nat)(_:vs=[.ref L,.ref y])(_:aY c H L S)(_:SOk S)(_:H y=some (.lst (nI v)))(_:v∈am S)(_:∀i:Nat,(am S)[i]?=some v->Q (.int i) H)
theorem hX(T:Txt P w K mg c):T.Gb.H P w base 1 (uW c):=by
 refine aS T.Gb ["ledger","variant"] ?_;rintro _ _ _ _ _ H vs Q E hr _ OP _ nd ⟨L,y,S,v,rfl,⟨dL,af,av,ar,ad,Rs,Ds,hL⟩,ok,hy,hv,k⟩;refine⟨_,(rt (dG Ib LA PySem.F.type_list_index (yQ OP) (fv 0) (p1 1))),?_⟩;obtain⟨rs,h1,h2⟩:=jV.mp hL.vars;obtain⟨j,hj,Mi⟩:=tZ hv;refine⟨_,rfl,rfl,hL.obj,T.Ledger.o,rfl,.inl ⟨rfl,_,SqL.of h1⟩,_,rfl,?_⟩;refine⟨av,rs,(am S).map Vbptaj.ints,y,Vbptaj.ints v,j,rfl,rfl,h1,h2,hy,?_,λm hm q=>?_,k j hj⟩
 .rw[Hd,hj];rfl
 .rw[Hd]at q;cases e:(am S)[m]? with
  |none=>rw[e]at q;cases q
  |some u=>rw[e]at q;have q':=Aw (Hg q);exact Mi m hm (by rw[e,q'])
end
def r_(g t p:Int):List (Str×V):=[("giver",.int g),("taker",.int t),("parts",.int p)]
noncomputable def wX(ah al ab ad:Addr):List (Str×V):=[("held",.ref ah),("locks",.ref al),("bonds",.ref ab),("bound",.ref ad)]
def numL(ls:List (Addr×Vbptaj.Lock)):List (Key×V):=ls.map λz=>(Sum.inl (z.2.pledge:Int),V.ref z.1)
def dc(l:List Nat):List (Key×V):=l.map λ(n:Nat)=>(Sum.inl (n:Int),V.bl true)
def onP(b:List (Nat×Nat))(p:Nat):List Nat:=(b.filter λx=>x.2==p).map (·.1)
structure cp(c:Cs)(H0 H:Hp)(x dx ah al ab ad:Addr)(ps:List (Nat×Nat))(ls:List (Addr×Vbptaj.Lock))(bk:List (Key×V))(ts:List Addr)(C:Vbptaj.Cell):Prop where
 obj:H x=some (.ins c.Cell dx (wX ah al ab ad))
 held:H ah=some (.dK (pN ps))
 hPm:ps.Perm C.hold
 lock:H al=some (.dK (numL ls))
 lEq:ls.map (·.2)=C.locks
 lAt:∀z∈ls,∃dz,H z.1=some (.ins c.Lock dz (r_ z.2.who z.2.creditor z.2.parts))
 bond:H ab=some (.dK bk)
 bAt:∀p:Nat,(aQ bk (Sum.inl (p:Int))=none/\onP C.bound p=[])\/∃b,aQ bk (Sum.inl (p:Int))=some (.ref b)/\H b=some (.dK (dc (onP C.bound p)))/\H0 b=none/\b≠ah/\b≠al/\b≠ab
 bIn:∀(p q:Nat)(b:Addr),aQ bk (Sum.inl (p:Int))=some (.ref b)->aQ bk (Sum.inl (q:Int))=some (.ref b)->p=q
 bnd:H ad=some (.lst (ts.map V.ref))
 tAt:Paired (λt b=>H t=some (.tup [.int (b.1:Nat),.int (b.2:Nat)])) ts C.bound
 n1:ah≠al
 n2:ah≠ab
 n3:al≠ab
 fx:H0 x=none
 fh:H0 ah=none
 fl:H0 al=none
 fb:H0 ab=none
 fd:H0 ad=none
def CellAt(c:Cs)(H0 H:Hp)(x:Addr)(C:Vbptaj.Cell):Prop:=∃dx ah al ab ad ps ls bk ts,cp c H0 H x dx ah al ab ad ps ls bk ts C/\bk.length<=C.bound.length
section
variable{c:Cs}{H0 H H':Hp}{x dx ah al ab ad:Addr}{ps:List (Nat×Nat)}{ls:List (Addr×Vbptaj.Lock)}{bk:List (Key×V)}{ts:List Addr}{C:Vbptaj.Cell}
theorem cp.same(h:cp c H0 H x dx ah al ab ad ps ls bk ts C)(s:ak H H'):cp c H0 H' x dx ah al ab ad ps ls bk ts C:=
 ⟨s _ _ h.obj,s _ _ h.held,h.hPm,s _ _ h.lock,h.lEq,λz m=>let⟨dz,q⟩:=h.lAt z m;⟨dz,s _ _ q⟩,s _ _ h.bond,λp=>(h.bAt p).imp id λ⟨b,h1,h2,h3⟩=>⟨b,h1,s _ _ h2,h3⟩,h.bIn,s _ _ h.bnd,Paired.mapP h.tAt λ_ _ q=>s _ _ q,
  h.n1,h.n2,h.n3,h.fx,h.fh,h.fl,h.fb,h.fd⟩
theorem CellAt.same(h:CellAt c H0 H x C)(s:ak H H'):CellAt c H0 H' x C:=by obtain⟨dx,ah,al,ab,ad,ps,ls,bk,ts,h,Mo⟩:=h;exact⟨dx,ah,al,ab,ad,ps,ls,bk,ts,h.same s,Mo⟩
theorem cp.base(h:cp c H0 H x dx ah al ab ad ps ls bk ts C)(s:∀b o,H b=some o->H0 b=none->H1 b=none):cp c H1 H x dx ah al ab ad ps ls bk ts C:=
 ⟨h.obj,h.held,h.hPm,h.lock,h.lEq,h.lAt,h.bond,λp=>(h.bAt p).imp id λ⟨b,h1,h2,h3,h4⟩=>⟨b,h1,h2,s _ _ h2 h3,h4⟩,h.bIn,h.bnd,h.tAt,
  h.n1,h.n2,h.n3,s _ _ h.obj h.fx,s _ _ h.held h.fh,s _ _ h.lock h.fl,s _ _ h.bond h.fb,s _ _ h.bnd h.fd⟩
theorem CellAt.base(h:CellAt c H0 H x C)(s:∀b o,H b=some o->H0 b=none->H1 b=none):CellAt c H1 H x C:=by obtain⟨dx,ah,al,ab,ad,ps,ls,bk,ts,h,Mo⟩:=h;exact⟨dx,ah,al,ab,ad,ps,ls,bk,ts,h.base s,Mo⟩
theorem cp.setHeld(h:cp c H0 H x dx ah al ab ad ps ls bk ts C)(pm:ps'.Perm hold'):cp c H0 (upd H ah (.dK (pN ps'))) x dx ah al ab ad ps' ls bk ts {C with hold:=hold'}where
 obj:=by rw[ai (aF h.obj h.held)];exact h.obj
 held:=aa
 hPm:=pm
 lock:=by rw[ai (Ho h.n1)];exact h.lock
 lEq:=h.lEq
 lAt:=λz m=>by obtain⟨dz,q⟩:=h.lAt z m;exact⟨dz,by rw[ai (aF q h.held)];exact q⟩
 bond:=by rw[ai (Ho h.n2)];exact h.bond
 bAt:=λp=>(h.bAt p).imp id λ⟨b,h1,h2,h3,h4⟩=>⟨b,h1,by rw[ai h4.1];exact h2,h3,h4⟩
 bIn:=h.bIn
 bnd:=by rw[ai (aF h.bnd h.held)];exact h.bnd
 tAt:=Paired.mapP h.tAt λt b q=>by rw[ai (aF q h.held)];exact q
 n1:=h.n1
 n2:=h.n2
 n3:=h.n3
 fx:=h.fx
 fh:=h.fh
 fl:=h.fl
 fb:=h.fb
 fd:=h.fd
theorem cp.setLocks(h:cp c H0 H x dx ah al ab ad ps ls bk ts C)(e:ls'.map (·.2)=locks')(la:∀z∈ls',∃dz,H z.1=some (.ins c.Lock dz (r_ z.2.who z.2.creditor z.2.parts))):cp c H0 (upd H al (.dK (numL ls'))) x dx ah al ab ad ps ls' bk ts {C with locks:=locks'}where
 obj:=by rw[ai (aF h.obj h.lock)];exact h.obj
 held:=by rw[ai h.n1];exact h.held
 hPm:=h.hPm
 lock:=aa
 lEq:=e
 lAt:=λz m=>by obtain⟨dz,q⟩:=la z m;exact⟨dz,by rw[ai (aF q h.lock)];exact q⟩
 bond:=by rw[ai (Ho h.n3)];exact h.bond
 bAt:=λp=>(h.bAt p).imp id λ⟨b,h1,h2,h3,h4⟩=>⟨b,h1,by rw[ai h4.2.1];exact h2,h3,h4⟩
 bIn:=h.bIn
 bnd:=by rw[ai (aF h.bnd h.lock)];exact h.bnd
 tAt:=Paired.mapP h.tAt λt b q=>by rw[ai (aF q h.lock)];exact q
 n1:=h.n1
 n2:=h.n2
 n3:=h.n3
 fx:=h.fx
 fh:=h.fh
 fl:=h.fl
 fb:=h.fb
 fd:=h.fd
end
theorem a_(s:ak H0 H)(h:H0 a=Option.none):ak H0 (upd H a o):=λb u e=>by rw[ai (au e h)];exact s _ _ e
theorem pf(h:H d=some u)(s:ak (upd H d (.frz od u)) H'):ak H (upd H' d u):=λb o e=>by
 by_cases hb:b=d
 .subst hb;rw[aa,<-e,h]
 .rw[ai hb];exact s _ _ (by rw[ai hb];exact e)
theorem nu:∀l:List Nat,(l.map λ(n:Nat)=>(n:Int)).sum=((l.sum:Nat):Int)
 |[]=>rfl
 |a::l=>by rw[Hf,JS,JS,nu l];omega
theorem vS(ps:List (Nat×Nat))(p:Nat):aQ (pN ps) (Sum.inl (p:Int))=((ps.find? λx=>x.1==p).map λx=>V.int (x.2:Nat)):=by
 induction ps with
 |nil=>rfl
 |cons q r ih=>
  unfold pN at ih⊢;rw[Hf,Jc];by_cases e:q.1=p
  .rw[b8 (by rw[e])];simp[e]
  .rw[bR (λz=>e (by injection z with z;omega))];have e2:(q.1==p)=false:=by simpa using e
   rw[e2];exact ih
theorem k_{l m:List (Nat×Nat)}(pm:l.Perm m)(hn:(m.map (·.1)).Nodup)(p:Nat):(l.find? λx=>x.1==p)=m.find? λx=>x.1==p:=by
 have uniq:∀(m:List (Nat×Nat)),(m.map (·.1)).Nodup->∀x∈m,x.1=p->(m.find? λx=>x.1==p)=some x:=by
  intro m;induction m with
  |nil=>intro _ x h;cases h
  |cons q r ih=>
   intro hn x hx e;rw[Hf,Ik]at hn;rw[Jc];rcases Hi.mp hx with rfl|h'
   .simp[e]
   .have e2:(q.1==p)=false:=by rw[Ia];exact λz=>hn.1 (by rw[z,<-e];exact HA.mpr ⟨x,h',rfl⟩)
    rw[e2];exact ih hn.2 x h' e
 have O3:(l.map (·.1)).Nodup:=(pm.map _).nodup_iff.mpr hn;cases h:(m.find? λx=>x.1==p)with
 |none=>rw[Jd]at h⊢;exact λx hx=>h x (pm.mem_iff.mp hx)
 |some x=>
  have hx:=Io h;have e:x.1=p:=by simpa using JQ h
  exact uniq l O3 x (pm.mem_iff.mpr hx) e
section
variable{P:Program}{w:World}{K:LS}{mg:Str->Option Value}{base:Heap}{c:Cs}
def Bh(c:Cs):Sp:=λvs H Q E=>∃x dx g t p,vs=[.ref x,.int g,.int t,.int p]/\H x=some (.ins c.Lock dx [])/\∀H',H' x=some (.ins c.Lock dx (r_ g t p))->bm x H H'->Q .non H'
theorem Dr(T:Txt P w K mg c):iZ P w K mg base 1 "Lock" c.Lock ["self","giver","taker","parts"] (Bh c):=by
 refine sj T.Lock ["self","giver","taker","parts"] ?_;rintro _ _ _ _ _ H vs Q E hr _ _ _ nd ⟨x,dx,g,t,p,rfl,hx,k⟩
 refine⟨_,(aj (aU (pv 0) (pv 1) rfl)
 (aj (aU (pv 0) (pv 2) rfl)
 (aL (aU (pv 0) (pv 3) rfl)))),?_⟩
 refine⟨_,rfl,_,rfl,rfl,hx,T.Lock.o,rfl,?_⟩;refine⟨_,rfl,_,rfl,rfl,aa,T.Lock.o,rfl,?_⟩;refine⟨_,rfl,_,rfl,rfl,aa,T.Lock.o,rfl,?_⟩;refine k _ ?_ bm.refl.set.set.set;rw[aa];rfl
def Bj(c:Cs):Sp:=λvs H Q E=>∃x dx ao ps,vs=[.ref x,.ref ao]/\H x=some (.ins c.Cell dx [])/\H ao=some (.dK (pN ps))/\∀H' ah al ab ad,H' x=some (.ins c.Cell dx (wX ah al ab ad))->H' ah=some (.dK (pN ps))->H' al=some (.dK [])->H' ab=some (.dK [])->H' ad=some (.lst [])->ah≠al->ah≠ab->al≠ab->H ah=none->H al=none->H ab=none->H ad=none->bm x H H'->Q .non H'
theorem Du(T:Txt P w K mg c):iZ P w K mg base 1 "Cell" c.Cell ["self","owners"] (Bj c):=by
 have B:=T.B;refine sj T.Cell ["self","owners"] ?_;rintro _ _ _ _ _ H vs Q E hr _ _ _ nd ⟨x,dx,ao,ps,rfl,hx,OB,k⟩
 refine⟨_,(aj (aU (pv 0) (fX (xL) (by rfl) B.q boot_dict (p1 1)) rfl)
 (aj (aU (pv 0) cZ rfl)
 (aj (aU (pv 0) cZ rfl)
 (aL (aU (pv 0) (aW aq) rfl))))),?_⟩
 refine⟨_,rfl,ao,_,rfl,OB,λah hah=>?_⟩;have m1:x≠ah:=au hx hah;refine⟨_,rfl,rfl,(ai m1).trans hx,T.Cell.o,rfl,?_⟩;intro al O_;have k2:=io O_ (bm.refl.new hah).set;have m2:x≠al:=au aa O_;have m12:ah≠al:=λe=>by rw[<-e,ai (Ho m1),aa]at O_;cases O_
 refine⟨_,rfl,rfl,(ai m2).trans aa,T.Cell.o,rfl,?_⟩;intro ab MP;have k3:=io MP (k2.new O_).set;have m3:x≠ab:=au aa MP;have m23:al≠ab:=λe=>by rw[<-e,ai (Ho m2),aa]at MP;cases MP
 have m13:ah≠ab:=λe=>by rw[<-e,ai (Ho m1),ai m12,ai (Ho m1),aa]at MP;cases MP
 refine⟨_,rfl,rfl,(ai m3).trans aa,T.Cell.o,rfl,?_⟩;refine⟨HJ _,λad NC=>?_⟩;have k4:=io NC (k3.new MP).set;have m4:x≠ad:=au aa NC;have m34:ab≠ad:=λe=>by rw[<-e,ai (Ho m3),aa]at NC;cases NC
 have m24:al≠ad:=λe=>by rw[<-e,ai (Ho m2),ai m23,ai (Ho m2),aa]at NC;cases NC
 have m14:ah≠ad:=λe=>by rw[<-e,ai (Ho m1),ai m13,ai (Ho m1),ai m12,ai (Ho m1),aa]at NC;cases NC
 refine⟨_,rfl,rfl,(ai m4).trans aa,T.Cell.o,rfl,?_⟩;refine k _ ah al ab ad ?_ ?_ ?_ ?_ ?_ m12 m13 m23 hah (k2.free O_ (Ho m2)) (k3.free MP (Ho m3)) (k4.free NC (Ho m4)) (k4.new NC).set
 .rw[aa];rfl
 .rw[ai (Ho m1),ai m14,ai (Ho m1),ai m13,ai (Ho m1),ai m12,ai (Ho m1)];exact aa
 .rw[ai (Ho m2),ai m24,ai (Ho m2),ai m23,ai (Ho m2)];exact aa
 .rw[ai (Ho m3),ai m34,ai (Ho m3)];exact aa
 .rw[ai (Ho m4)];exact aa
inductive rD(c:Cs)(vs:List V)(H:Hp)(Q:VK)(E:XK):Prop|mk(H0:Hp)(x:Addr)(C:Vbptaj.Cell)(p:Nat)(_:vs=[.ref x,.int p])(_:CellAt c H0 H x C)(_:(C.hold.map (·.1)).Nodup)(_:C.locks.length<=1000)(_:∀H',ak H H'->Q (.int ((partsOf C.hold p:Int)-(lockedOf C p:Int))) H')
theorem iE(T:Txt P w K mg c):T.FU.H P w base 1 (rD c):=by
 have B:=T.B;refine aS T.FU ["cell","person","locked","lock"] ?_;rintro _ _ _ _ s H vs Q E hr hu _ _ nd ⟨H0,x,C,p,rfl,⟨dx,ah,al,ab,ad,ps,ls,bk,ts,hC,Mo⟩,hn,hz,k⟩
 refine⟨_,(aj (aO 2 nd (aK (yj rfl) (by rfl) B.q boot_sum (ag (v_ (bQ rfl nd (qD (fv 0)) (aX (own:=[("lock",3)]) (by rfl))
  (by exact λ_ _ _ _ _=>(aT 3 nd))
  (by exact λ_ _ _ _ _=>(cC (aA bY (bv (K:=K) rfl (pv 3) rfl) (pv 1) (aD _))))
  (by exact λ_ _ _ _ _=>(bv (K:=K) rfl (pv 3) rfl)))) aq)))
 (rt (bH sC (iz hu (fv 0) (pv 1) aI ⟨rfl,rfl,rfl,rfl⟩) (pv 2)))),?_⟩
 have nxl:x≠al:=aF hC.obj hC.lock;have lls:ls.length<=1000:=by rw[<-hC.lEq,G8]at hz;exact hz
 refine⟨al,_,hC.lock,Jy,λod=>?_⟩;refine bq ?_;refine⟨_,rfl,rfl,(ai nxl).trans hC.obj,T.Cell.o,rfl,al,od,_,rfl,aa,?_⟩;refine bT ls (λz=>z.2.who==p) (λz=>V.int (z.2.parts:Nat)) (Item:=λi x _=>∃k,(numL ls)[i]?=some (k,x)) ?_ (aG lls) ?_ ?_
 .have q:=qK (d:=al) (o:=od) (kvs:=numL ls) (G:=λH'=>ak (upd H al (.frz od (.dK (numL ls)))) H') λH' s=>s _ _ aa;unfold numL at q⊢;rw[G8]at q;exact q
 .rintro i z v H' R hi s' ⟨key,hv⟩ k';unfold numL at hv;rw[Hd,hi]at hv;cases hv;obtain⟨dz,hzz⟩:=hC.lAt z (Hl hi);have Oy:=s' z.1 _ (by rw[ai (aF hzz hC.lock)];exact hzz);refine⟨rfl,?_⟩;have kk:=k' H' (ak.refl _);refine⟨_,rfl,rfl,Oy,T.Lock.o,rfl,_,rfl,rfl,_,rfl,aP (λh=>?_) λh=>kk.2 (by rw[<-cH];exact dM h)⟩;exact⟨_,rfl,rfl,Oy,T.Lock.o,rfl,kk.1 (by rw[<-cH];exact h)⟩
 .intro D H' hD s' hl;have su:=pf hC.lock s';have nD:D≠al:=λe=>by rw[e,aa]at hD;cases hD
  refine⟨s' _ _ aa,?_⟩;refine⟨D,(ls.filter λz=>z.2.who==p).map (λz=>(z.2.parts:Int)),rfl,SqL.of (by rw[ai nD,hl,HM];rfl),?_⟩;have hC':=hC.same su;refine⟨_,rfl,rfl,hC'.obj,T.Cell.o,rfl,ah,rfl,.inl ⟨_,.inl hC'.held⟩,_,rfl,_,bP.k (k:=Sum.inl (p:Int)) hC'.held,?_⟩;have e1:((ls.filter λz=>z.2.who==p).map (λz=>(z.2.parts:Int))).sum=(lockedOf C p:Int):=by unfold lockedOf;rw[<-nu,<-hC.lEq,<-d5 (λk:Vbptaj.Lock=>k.who==p),HM,HM];rfl
  have e2:(aQ (pN ps) (Sum.inl (p:Int))).getD (V.int 0)=V.int (partsOf C.hold p:Nat):=by rw[vS,k_ hC.hPm hn];unfold partsOf;cases(C.hold.find? λx=>x.1==p)<;>rfl
  rw[e2,e1];exact⟨_,rfl,_,_,rfl,rfl,k _ su⟩
inductive jv(c:Cs)(vs:List V)(H:Hp)(Q:VK)(E:XK):Prop|mk(H0:Hp)(x:Addr)(C:Vbptaj.Cell)(p:Nat)(_:vs=[.ref x,.int p])(_:CellAt c H0 H x C)(_:∀H' D,ak H H'->H D=none->H' D=some (.lst (nI (onP C.bound p)))->Q (.ref D) H')
theorem rQ(T:Txt P w K mg c):T.FV.H P w base 1 (jv c):=by
 have B:=T.B;refine aS T.FV ["cell","person"] ?_;rintro _ _ _ _ _ H vs Q E hr hu _ _ nd ⟨H0,x,C,p,rfl,⟨dx,ah,al,ab,ad,ps,ls,bk,ts,hC,Mo⟩,k⟩;refine⟨_,(rt (fX (uc rfl) (by rfl) B.q boot_list (ag (iz hu (fv 0) (pv 1) cZ ⟨rfl,rfl,rfl,rfl⟩) aq))),?_⟩;refine⟨_,rfl,rfl,hC.obj,T.Cell.o,rfl,ab,rfl,.inl ⟨_,.inl hC.bond⟩,_,rfl,λq hq=>?_⟩;have s1:ak H (upd H q (.dK [])):=ak.upd hq;have M3:=hC.same s1;refine⟨_,bP.k (k:=Sum.inl (p:Int)) M3.bond,?_⟩;have ek:∀l:List Nat,(dc l).map (λkv=>kV kv.1)=nI l:=λl=>by unfold dc;rw[HM,d7];rfl
 rcases M3.bAt p with⟨h1,h2⟩|⟨b,h1,h2,_⟩
 .rw[h1];refine⟨q,[],rfl,aa,λD hD=>k _ D (s1.trans (ak.upd hD)) (s1.free hD) ?_⟩;rw[aa,h2];rfl
 .rw[h1];refine⟨b,_,rfl,h2,λD hD=>k _ D (s1.trans (ak.upd hD)) (s1.free hD) ?_⟩;rw[aa,ek]
end
end Wh
namespace Wh
open Vbptaj
theorem dm{α:Type} [DecidableEq α]:∀{l m:List α},l.Nodup->(∀x∈l,x∈m)->l.length<=m.length
 |[],m,_,_=>HJ _
 |a::l,m,hn,hs=>by
  rw[Ik]at hn;have ha:=hs a (Hk ..);have ih:=dm (l:=l) (m:=m.erase a) hn.2 λx hx=>by have hxa:x≠a:=λe=>hn.1 (e▸hx);exact(List.mem_erase_of_ne hxa).mpr (hs x (Hh _ hx))
  rw[Ln ha]at ih;have:0<m.length:=LG ha;rw[Hr];omega
structure CWf(C:Cell)(done:List Nat):Prop where
 srt:C.hold.Pairwise λa b=>a.1<b.1
 pos:∀h∈C.hold,0<h.2/\h.1<=20
 lkn:(C.locks.map (·.pledge)).Nodup
 lkp:∀k∈C.locks,0<k.parts/\k.pledge∈done/\k.who<=20/\k.creditor<=20
 bnn:C.bound.Nodup
 bnd:∀b∈C.bound,b.1∈done/\b.2<=20
 fre:∀p,lockedOf C p<=partsOf C.hold p
theorem b_{l:List (Nat×Nat)}(h:l.Pairwise λa b=>a.1<b.1):(l.map (·.1)).Nodup:=by unfold Nodup;rw[IL];exact h.imp λq=>HW q
theorem CWf.holdLen{C:Cell}{done:List Nat}(h:CWf C done):C.hold.length<=21:=by
 have:=dm (m:=List.range 21) (b_ h.srt) λx hx=>by obtain⟨q,hq,rfl⟩:=HA.mp hx;have:=(h.pos q hq).2;exact J5.mpr (by omega)
 rwa[G8,Ic]at this
theorem CWf.lockLen(h:CWf C done):C.locks.length<=done.length:=by
 have:=dm h.lkn λx hx=>by obtain⟨q,hq,rfl⟩:=HA.mp hx;exact(h.lkp q hq).2.1
 rwa[G8]at this
theorem CWf.boundLen(h:CWf C done):C.bound.length<=done.length*21:=by
 have key:∀(ds:List Nat),(ds.flatMap λd=>(List.range 21).map λp=>(d,p)).length=ds.length*21:=by
  intro ds;induction ds with
  |nil=>rfl
  |cons d ds ih=>rw[Iu,Hx,ih,G8,Ic,Hr];omega
 have:=dm (m:=done.flatMap λd=>(List.range 21).map λp=>(d,p)) h.bnn λx hx=>by obtain⟨h1,h2⟩:=h.bnd x hx;exact mem_flatMap.mpr ⟨x.1,h1,HA.mpr ⟨x.2,J5.mpr (by omega),rfl⟩⟩
 rwa[key]at this
theorem pq{l:List (Nat×Nat)}{p:Nat}(h:∀x∈l,p<x.1):(l.find? λx=>x.1==p)=none:=by rw[Jd];intro x hx;have:=h x hx;simp;omega
theorem c7(x:Nat×Nat)(l:List (Nat×Nat))(q:Nat):partsOf (x::l) q=if x.1=q then x.2 else partsOf l q:=by
 unfold partsOf;rw[Jc];by_cases h:x.1=q
 .simp[h]
 .have:(x.1==q)=false:=by simpa using h
  rw[this,G9 h]
theorem oT{l:List (Nat×Nat)}{p:Nat}(h:∀x∈l,p<x.1):partsOf l p=0:=by unfold partsOf;rw[pq h];rfl
theorem gh:∀{l:List (Nat×Nat)}(p n q:Nat),(l.Pairwise λa b=>a.1<b.1)->partsOf (withParts p n l) q=if q=p then n else partsOf l q
 |[],p,n,q,_=>by
  unfold withParts;by_cases hn:n=0
  .subst hn;rw[Hc rfl];by_cases h:q=p
   .rw[Hc h];rfl
   .rw[G9 h]
  .rw[G9 hn,c7];by_cases h:q=p
   .rw[Hc h,Hc h.symm]
   .rw[G9 h,G9 (Ho h)]
 |x::l,p,n,q,hp=>by
  rw[HF]at hp;unfold withParts;by_cases h1:x.1=p
  .rw[Hc h1];by_cases hn:n=0
   .subst hn;rw[Hc rfl];by_cases h:q=p
    .subst h;rw[Hc rfl];exact oT λy hy=>h1▸hp.1 y hy
    .rw[G9 h,c7,G9 (by omega)]
   .rw[G9 hn,c7,c7];by_cases h:q=p
    .rw[Hc h,Hc h.symm]
    .rw[G9 h,G9 (Ho h),G9 (by omega)]
  .rw[G9 h1];by_cases h2:p<x.1
   .rw[Hc h2];have z:partsOf (x::l) p=0:=oT λy hy=>by
     rcases Hi.mp hy with rfl|hy
     .exact h2
     .have:=hp.1 y hy;omega
    by_cases hn:n=0
    .subst hn;rw[Hc rfl];by_cases h:q=p
     .rw[Hc h,h,z]
     .rw[G9 h]
    .rw[G9 hn,c7];by_cases h:q=p
     .rw[Hc h,Hc h.symm]
     .rw[G9 h,G9 (Ho h)]
   .rw[G9 h2,c7,c7,gh p n q hp.2];by_cases h3:x.1=q
    .rw[Hc h3,G9 (by omega),Hc h3]
    .rw[G9 h3,G9 h3]
theorem jO:∀{l:List (Nat×Nat)}{p n:Nat}{x:Nat×Nat},x∈withParts p n l->(x∈l\/(x=(p,n)/\n≠0))
 |[],p,n,x,h=>by
  unfold withParts at h;by_cases hn:n=0
  .rw[Hc hn]at h;cases h
  .rw[G9 hn]at h;exact .inr ⟨HH.mp h,hn⟩
 |y::l,p,n,x,h=>by
  unfold withParts at h;split at h
  .split at h
   .exact .inl (Hh _ h)
   .rename_i hn;rcases Hi.mp h with h|h
    .exact .inr ⟨h,hn⟩
    .exact .inl (Hh _ h)
  .split at h
   .split at h
    .exact .inl h
    .rename_i hn;rcases Hi.mp h with h|h
     .exact .inr ⟨h,hn⟩
     .exact .inl h
   .rcases Hi.mp h with h|h
    .exact .inl (h▸Hk ..)
    .rcases jO h with h|h
     .exact .inl (Hh _ h)
     .exact .inr h
theorem jK:∀{l:List (Nat×Nat)}(p n:Nat),(l.Pairwise λa b=>a.1<b.1)->(withParts p n l).Pairwise λa b=>a.1<b.1
 |[],p,n,_=>by
  unfold withParts;split
  .exact .nil
  .exact IG _ _
 |x::l,p,n,hp=>by
  have hp':=hp;rw[HF]at hp;unfold withParts;split
  .rename_i h1;split
   .exact hp.2
   .exact HF.mpr ⟨λy hy=>h1▸hp.1 y hy,hp.2⟩
  .split
   .rename_i h1 h2;split
    .exact hp'
    .refine HF.mpr ⟨λy hy=>?_,hp'⟩;rcases Hi.mp hy with rfl|hy
     .exact h2
     .have:=hp.1 y hy;show p<y.1;omega
   .rename_i h1 h2;refine HF.mpr ⟨λy hy=>?_,jK p n hp.2⟩;rcases jO hy with hy|⟨hy,_⟩
    .exact hp.1 y hy
    .rw[hy];show x.1<p;omega
theorem qT{l:List (Nat×Nat)}{p:Nat}(h:∀x∈l,p<x.1):l.filter (λx=>x.1 !=p)=l:=by rw[J8];intro x hx;have:=h x hx;simp;omega
theorem qh:∀{l:List (Nat×Nat)}(p n:Nat),(l.Pairwise λa b=>a.1<b.1)->(withParts p n l).Perm (if n=0 then l.filter (λx=>x.1 !=p)else(p,n)::l.filter (λx=>x.1 !=p))
 |[],p,n,_=>by
  unfold withParts;split
  .exact HS _
  .exact HS _
 |x::l,p,n,hp=>by
  have hp':=hp;rw[HF]at hp;unfold withParts;by_cases h1:x.1=p
  .have f:l.filter (λx=>x.1 !=p)=l:=qT λy hy=>h1▸hp.1 y hy;have f2:(x::l).filter (λx=>x.1 !=p)=l:=by
    have hb:¬(x.1 !=p)=true:=by simp[h1]
    rw[Hy,G9 hb,f]
   rw[Hc h1,f2]
  .have hb:(x.1 !=p)=true:=by simpa using h1
   have f2:(x::l).filter (λx=>x.1 !=p)=x::l.filter (λx=>x.1 !=p):=by rw[Hy,Hc hb]
   rw[G9 h1,f2];by_cases h2:p<x.1
   .have f:l.filter (λx=>x.1 !=p)=l:=qT λy hy=>K3 h2 (hp.1 y hy);rw[Hc h2,f]
   .rw[G9 h2];have ih:=qh p n hp.2;refine(ih.cons x).trans ?_;split
    .exact HS _
    .exact List.Perm.swap _ _ _
theorem rK{l:List Lock}(p:Nat)(f:Lock->Bool):(((l.filter f).filter λk=>k.who==p).map λk=>k.parts).sum<=((l.filter λk=>k.who==p).map λk=>k.parts).sum:=by
 induction l with
 |nil=>exact Hu _
 |cons k l ih=>
  rw[Hy,Hy];by_cases h1:f k=true<;>by_cases h2:(k.who==p)=true
  .rw[Hc h1,Hc h2,Hy,Hc h2,Hf,Hf,JS,JS];omega
  .rw[Hc h1,G9 h2,Hy,G9 h2];exact ih
  .rw[G9 h1,Hc h2,Hf,JS];omega
  .rw[G9 h1,G9 h2];exact ih
theorem oY{l:List Lock}(p:Nat)(hn:(l.map (·.pledge)).Nodup){k:Lock}(hk:k∈l):(((l.filter λx=>x.pledge !=k.pledge).filter λk=>k.who==p).map λk=>k.parts).sum+(if k.who=p then k.parts else 0)=((l.filter λk=>k.who==p).map λk=>k.parts).sum:=by
 induction l with
 |nil=>cases hk
 |cons x l ih=>
  rw[Hf,Ik]at hn;rcases Hi.mp hk with e|ML
  .subst e;have f:(l.filter λx=>x.pledge !=k.pledge)=l:=by rw[J8];intro y hy;have:y.pledge≠k.pledge:=λe=>hn.1 (e▸HA.mpr ⟨y,hy,rfl⟩);simpa using this
   rw[Hy,G9 (by simp),f,Hy];by_cases h:k.who=p
   .rw[Hc h,Hc (by simpa using h),Hf,JS];omega
   .rw[G9 h,G9 (by simpa using h)];omega
  .have ne:x.pledge≠k.pledge:=λe=>hn.1 (e▸HA.mpr ⟨k,ML,rfl⟩);have ih:=ih hn.2 ML;rw[Hy,Hc (by simpa using ne),Hy,Hy];by_cases h:(x.who==p)=true
   .rw[Hc h,Hc h,Hf,Hf,JS,JS];omega
   .rw[G9 h,G9 h];exact ih
def eS(b:List (Nat×Nat))(l p:Nat):List (Nat×Nat):=if b.contains (l,p)=true then b else b++[(l,p)]
theorem wg:l∈onP b p↔(l,p)∈b:=by
 unfold onP;rw[HA];constructor
 .rintro⟨x,hx,rfl⟩;rw[HK]at hx;have e:x.2=p:=by simpa using hx.2
  rw[<-e];exact hx.1
 .intro h;exact⟨(l,p),HK.mpr ⟨h,by simp⟩,rfl⟩
theorem qE(h:b.Nodup)(p:Nat):(onP b p).Nodup:=by
 unfold onP Nodup;rw[IL];refine J2 ?_ (Pairwise.filter _ h);intro x y hx hy MA e;have e1:x.2=p:=by simpa using(HK.mp hx).2
 have e2:y.2=p:=by simpa using(HK.mp hy).2
 exact MA (Prod.ext e (e1.trans e2.symm))
theorem lB(t:Nat):∀(ls:List Nat)(b:List (Nat×Nat)),ls.Nodup->ls.foldl (λb l=>eS b l t) b=b++(ls.filter λl=> !b.contains (l,t)).map λl=>(l,t)
 |[],b,_=>by simp
 |l::ls,b,hn=>by
  rw[Ik]at hn;rw[IV,lB t ls _ hn.2,Hy];unfold eS;by_cases h:b.contains (l,t)=true
  .rw[Hc h,G9 (by rw[h];simp)]
  .rw[G9 h,Hc (by simpa using h),Hf,Jz,List.singleton_append];congr 2;congr 1;apply JL;intro x hx;have hxl:x≠l:=λe=>hn.1 (e▸hx);rw[List.contains_append];have:([(l,t)]:List (Nat×Nat)).contains (x,t)=false:=by rw[<-Jw,HZ];intro q;have:=HH.mp q;injection this with h1 _;exact hxl h1
   rw[this,Lq]
theorem zi(hn:b.Nodup)(a t:Nat):(onP b a).foldl (λb l=>eS b l t) b=b++(b.filter λx=>x.2==a&& !b.contains (x.1,t)).map λx=>(x.1,t):=by
 rw[lB t _ _ (qE hn a)];congr 1;unfold onP;rw[filter_map,HM,Je];have e:(λx:Nat×Nat=>(((λl=> !b.contains (l,t))∘λx=>x.1) x&&x.2==a))=λx=>x.2==a&& !b.contains (x.1,t):=by funext x;exact Jm _ _
 rw[e];rfl
theorem xw{b:List (Nat×Nat)}(hn:b.Nodup)(a t:Nat)(hat:a≠t):(b++(b.filter λx=>x.2==a&& !b.contains (x.1,t)).map λx=>(x.1,t)).Nodup:=by
 rw[K7];refine⟨hn,?_,?_⟩
 .unfold Nodup;rw[IL];refine J2 ?_ (Pairwise.filter _ hn);intro x y hx hy MA e;have q1:=(Ir.mp (HK.mp hx).2).1;have q2:=(Ir.mp (HK.mp hy).2).1;have e1:x.2=a:=by simpa using q1
  have e2:y.2=a:=by simpa using q2
  injection e with e _;exact MA (Prod.ext e (e1.trans e2.symm))
 .intro x hx y hy e;subst e;obtain⟨z,hz,e⟩:=HA.mp hy;have q:=(Ir.mp (HK.mp hz).2).2;rw[e]at q;have Nt:=HZ.mpr hx;rw[Nt]at q;cases q
theorem CWf.move{C:Cell}{done:List Nat}(h:CWf C done){a b n:Nat}(hb:b<=20)(hn:lockedOf C a+n<=partsOf C.hold a):CWf (Vbptaj.move C a b n) done:=by
 unfold Vbptaj.move;by_cases hz:n=0\/a=b
 .rw[Hc hz];exact h
 .rw[G9 hz];have ha:0<partsOf C.hold a:=by omega
  have s1:=jK a (partsOf C.hold a-n) h.srt;refine⟨jK _ _ s1,λx hx=>?_,h.lkn,h.lkp,xw h.bnn a b (λe=>hz (.inr e)),λx hx=>?_,λp=>?_⟩
  .dsimp only at hx;rcases jO hx with hx|⟨hx,N2⟩
   .rcases jO hx with hx|⟨hx,N2⟩
    .exact h.pos x hx
    .rw[hx];refine⟨KG N2,?_⟩;unfold partsOf at ha;cases hf:C.hold.find? (λx=>x.1==a)with
     |none=>rw[hf]at ha;exact absurd ha (Jh _)
     |some y=>
      have:=(h.pos y (Io hf)).2;have e:y.1=a:=by simpa using JQ hf
      show a<=20;omega
   .rw[hx];exact⟨KG N2,hb⟩
  .dsimp only at hx;rcases H_.mp hx with hx|hx
   .exact h.bnd x hx
   .obtain⟨y,hy,rfl⟩:=HA.mp hx;exact⟨(h.bnd y (HK.mp hy).1).1,hb⟩
  .have hf:=h.fre p;have e1:=gh b (partsOf (withParts a (partsOf C.hold a-n) C.hold) b+n) p s1;have e2:=gh a (partsOf C.hold a-n) p h.srt;have e3:=gh a (partsOf C.hold a-n) b h.srt;show lockedOf C p<=_;dsimp only;rw[e1];by_cases hp:p=b
   .rw[Hc hp,e3,G9 (λe=>hz (.inr e.symm))];rw[hp]at hf⊢;omega
   .rw[G9 hp,e2];by_cases hp2:p=a
    .rw[Hc hp2];rw[hp2]at hf⊢;omega
    .rw[G9 hp2];exact hf
theorem CWf.mono(h:CWf C done)(s:∀x∈done,x∈Ob):CWf C Ob:=
 ⟨h.srt,h.pos,h.lkn,λk m=>let⟨a,b,c⟩:=h.lkp k m;⟨a,s _ b,c⟩,h.bnn,λb m=>⟨s _ (h.bnd b m).1,(h.bnd b m).2⟩,h.fre⟩
theorem CWf.drop{C:Cell}{done:List Nat}(h:CWf C done)(q:Nat):CWf {C with locks:=C.locks.filter λk=>k.pledge !=q} done:=
 ⟨h.srt,h.pos,JE (KJ _ Ip) h.lkn,λk m=>h.lkp k (HK.mp m).1,h.bnn,h.bnd,λp=>Hv (rK p _) (h.fre p)⟩
theorem CWf.work{C:Cell}{done:List Nat}(h:CWf C done){d:Deed}(hd:d.num∉done)(hg:d.kind<=2->d.giver<=20/\d.taker<=20):CWf (Vbptaj.work C d).1 (d.num::done):=by
 have up:CWf C (d.num::done):=h.mono λx hx=>Hh _ hx;unfold Vbptaj.work;split
 .rename_i hk;refine up.move (hg (by omega)).2 ?_;have:=h.fre d.giver;unfold freeOf;have:=KY d.parts (partsOf C.hold d.giver-lockedOf C d.giver);omega
 .rename_i hk;split
  .refine⟨h.srt,h.pos,h.lkn,up.lkp,?_,λb m=>?_,h.fre⟩
   .dsimp only;rw[K7];refine⟨h.bnn,IG _ _,λx hx y hy e=>?_⟩;rw[HH.mp hy]at e;exact hd (by have:=(h.bnd x hx).1;rw[e]at this;exact this)
   .dsimp only at m;rcases H_.mp m with m|m
    .exact up.bnd b m
    .rw[HH.mp m];exact⟨Hk ..,(hg (by omega)).1⟩
  .exact up
 .rename_i hk;dsimp only;split
  .exact up
  .rename_i hz;refine⟨h.srt,h.pos,?_,λk m=>?_,h.bnn,up.bnd,λp=>?_⟩
   .dsimp only;rw[HL,K7];refine⟨h.lkn,IG _ _,λx hx y hy e=>?_⟩;obtain⟨k,hk,rfl⟩:=HA.mp hx;have MS:y=d.num:=HH.mp hy;rw[MS]at e;exact hd (e▸(h.lkp k hk).2.1)
   .dsimp only at m;rcases H_.mp m with m|m
    .exact up.lkp k m
    .rw[HH.mp m];exact⟨KG hz,Hk ..,(hg (by omega)).1,(hg (by omega)).2⟩
   .have hf:=h.fre p;have hf2:=h.fre d.giver;unfold lockedOf at hf⊢;dsimp only;rw[IK,HL,List.sum_append,Hy];by_cases hp:d.giver=p
    .rw[Hc (by simpa using hp)];have hm:min d.parts (freeOf C d.giver)<=freeOf C d.giver:=KY _ _;unfold freeOf lockedOf at hm;unfold lockedOf at hf2;rw[hp]at hm hf2;show _+(List.map _ [_]).sum<=_;rw[Hf,Kc,JS,sum_nil];dsimp only;unfold freeOf lockedOf;rw[hp];omega
    .rw[G9 (by simpa using hp),filter_nil,Kc,sum_nil];omega
 .exact up.drop _
 .split
  .exact up
  .rename_i hk k hf;have hm:=Io hf;have hp:k.pledge=d.about:=by simpa using JQ hf
   dsimp only;refine(up.drop d.about).move (h.lkp k hm).2.2.2 ?_;have e:=oY k.who h.lkn hm;rw[Hc rfl,hp]at e;have:=h.fre k.who;unfold lockedOf at this⊢;dsimp only;omega
 .exact up
end Wh
namespace Wh
open PySem PySem.Spec PyProof.Rows L2
def dS(ps:List (Nat×Nat))(a n:Nat):List (Nat×Nat):=if(ps.any λx=>x.1==a)=true then ps.map (λx=>if x.1=a then(a,n)else x)else ps++[(a,n)]
theorem d8(a b:Nat):((Sum.inl (a:Int):Key)=Sum.inl (b:Int))↔a=b:=⟨λh=>by injection h with h;omega,λh=>by rw[h]⟩
theorem mj(ps:List (Nat×Nat))(a n:Nat):bG (pN ps) (Sum.inl (a:Int)) (.int (n:Nat))=pN (dS ps a n):=by
 unfold bG dS pN;have e:((ps.map λp=>((Sum.inl (p.1:Int):Key),V.int (p.2:Int))).any λkv=>decide (kv.1=Sum.inl (a:Int)))=ps.any λx=>x.1==a:=by rw[Kv];congr 1;funext x;show decide ((Sum.inl (x.1:Int):Key)=Sum.inl (a:Int))=(x.1==a);apply HD.mpr;rw[Ht,d8,IX]
 rw[e];split
 .rw[HM,HM];congr 1;funext x;show(if(Sum.inl (x.1:Int):Key)=Sum.inl (a:Int)then((Sum.inl (x.1:Int):Key),V.int (n:Int))else(Sum.inl (x.1:Int),V.int (x.2:Int)))=_;by_cases h:x.1=a
  .rw[Hc ((d8 _ _).mpr h)];show _=(Sum.inl (((if x.1=a then(a,n)else x).1:Nat):Int),V.int (((if x.1=a then(a,n)else x).2:Nat):Int));rw[Hc h,h]
  .rw[G9 (λz=>h ((d8 _ _).mp z))];show _=(Sum.inl (((if x.1=a then(a,n)else x).1:Nat):Int),V.int (((if x.1=a then(a,n)else x).2:Nat):Int));rw[G9 h]
 .rw[HL];rfl
theorem AH(ps:List (Nat×Nat))(a:Nat):dY (pN ps) (Sum.inl (a:Int))=pN (ps.filter λx=>x.1 !=a):=by unfold dY pN;rw[filter_map];congr 1;apply JL;intro x _;show decide ((Sum.inl (x.1:Int):Key)≠Sum.inl (a:Int))=(x.1 !=a);apply HD.mpr;rw[Ht,bne_iff_ne,Ne,d8]
theorem yL(hn:(ps.map (·.1)).Nodup)(a n:Nat):(dS ps a n).Perm ((a,n)::ps.filter λx=>x.1 !=a):=by
 unfold dS;have Mi:∀l:List (Nat×Nat),(∀x∈l,x.1≠a)->(l.map λx=>if x.1=a then(a,n)else x)=l/\(l.filter λx=>x.1 !=a)=l:=λl h=>by
  constructor
  .conv=>rhs;rw[<-map_id l]
   apply J9;intro x hx;rw[G9 (h x hx)];rfl
  .rw[J8];intro x hx;simpa using h x hx
 by_cases hh:(ps.any λx=>x.1==a)=true
 .rw[Hc hh];have key:∀l:List (Nat×Nat),(l.map (·.1)).Nodup->(l.any λx=>x.1==a)=true->(l.map λx=>if x.1=a then(a,n)else x).Perm ((a,n)::l.filter λx=>x.1 !=a):=by
   intro l;induction l with
   |nil=>intro _ h;cases h
   |cons q r ih=>
    intro hn h;rw[Hf,Ik]at hn;by_cases e:q.1=a
    .have hr:∀x∈r,x.1≠a:=λx hx z=>hn.1 (by rw[e,<-z];exact HA.mpr ⟨x,hx,rfl⟩);obtain⟨f1,f2⟩:=Mi r hr;have f3:(q::r).filter (λx=>x.1 !=a)=r:=by
      have hb:¬(q.1 !=a)=true:=by simp[e]
      rw[Hy,G9 hb,f2]
     rw[Hf,Hc e,f1,f3]
    .have f3:(q::r).filter (λx=>x.1 !=a)=q::r.filter (λx=>x.1 !=a):=by
      have hb:(q.1 !=a)=true:=by simpa using e
      rw[Hy,Hc hb]
     rw[Hf,G9 e,f3];have h':(r.any λx=>x.1==a)=true:=by
      rw[J7]at h;have:(q.1==a)=false:=by simpa using e
      rwa[this,J6]at h
     exact((ih hn.2 h').cons q).trans (List.Perm.swap _ _ _)
  exact key ps hn hh
 .rw[G9 hh];have hr:∀x∈ps,x.1≠a:=λx hx z=>hh (IR.mpr ⟨x,hx,by simpa using z⟩);rw[(Mi ps hr).2];exact Kn
theorem iN(l:List Nat)(n:Nat):(aQ (dc l) (Sum.inl (n:Int))).isSome=l.contains n:=by
 induction l with
 |nil=>rfl
 |cons a r ih=>
  unfold dc at ih⊢;rw[Hf,List.contains_cons];by_cases e:a=n
  .rw[b8 (by rw[e])];simp[e]
  .rw[bR (λz=>e ((d8 _ _).mp z)),ih];have:(n==a)=false:=by simpa using Ho e
   rw[this,J6]
theorem qw{l:List Nat}{n:Nat}(h:l.contains n=false):bG (dc l) (Sum.inl (n:Int)) (.bl true)=dc (l++[n]):=by
 have hn:aQ (dc l) (Sum.inl (n:Int))=none:=by
  have:=iN l n;rw[h]at this;cases hv:aQ (dc l) (Sum.inl (n:Int))with
  |none=>rfl
  |some v=>rw[hv]at this;cases this
 rw[jM _ hn];unfold dc;rw[HL];rfl
theorem tH(b:List (Nat×Nat))(l p q:Nat):onP (b++[(l,p)]) q=if q=p then onP b q++[l]else onP b q:=by
 unfold onP;rw[IK,HL,Hy];by_cases h:q=p
 .rw[Hc h,Hc (by simp[h])];rfl
 .have hb:¬((l,p).2==q)=true:=by simpa using Ho h
  rw[G9 h,G9 hb];simp
theorem kM(ls:List (Addr×Vbptaj.Lock))(q:Nat):aQ (numL ls) (Sum.inl (q:Int))=(ls.find? λz=>z.2.pledge==q).map λz=>V.ref z.1:=by
 induction ls with
 |nil=>rfl
 |cons z r ih=>
  unfold numL at ih⊢;rw[Hf,Jc];by_cases e:z.2.pledge=q
  .rw[b8 (by rw[e])];simp[e]
  .rw[bR (λw=>e ((d8 _ _).mp w))];have:(z.2.pledge==q)=false:=by simpa using e
   rw[this];exact ih
theorem j8(ls:List (Addr×Vbptaj.Lock))(q:Nat):dY (numL ls) (Sum.inl (q:Int))=numL (ls.filter λz=>z.2.pledge !=q):=by unfold dY numL;rw[filter_map];congr 1;apply JL;intro z _;show decide ((Sum.inl (z.2.pledge:Int):Key)≠Sum.inl (q:Int))=(z.2.pledge !=q);apply HD.mpr;rw[Ht,bne_iff_ne,Ne,d8]
theorem t_{α:Type}(p:α->Bool):∀zs:List (Addr×α),((zs.find? λz=>p z.2).map (·.2))=(zs.map (·.2)).find? p
 |[]=>rfl
 |z::zs=>by
  rw[Jc,Hf,Jc];cases h:p z.2 with
  |true=>rfl
  |false=>exact t_ p zs
section
variable{c:Cs}{H0 H:Hp}{x dx ah al ab ad:Addr}{ps:List (Nat×Nat)}{ls:List (Addr×Vbptaj.Lock)}{bk:List (Key×V)}{ts:List Addr}{C:Vbptaj.Cell}
theorem cp.bind(h:cp c H0 H x dx ah al ab ad ps ls bk ts C){p l:Nat}{b t:Addr}(hb:aQ bk (Sum.inl (p:Int))=some (.ref b))(Mi:(onP C.bound p).contains l=false)(ht:(upd H b (.dK (dc (onP C.bound p++[l])))) t=none):cp c H0 (upd (upd (upd H b (.dK (dc (onP C.bound p++[l])))) t (.tup [.int (l:Nat),.int (p:Nat)])) ad (.lst ((ts++[t]).map V.ref))) x dx ah al ab ad ps ls bk (ts++[t]) {C with bound:=C.bound++[(l,p)]}:=by
 obtain⟨Oj,hb0,hbh,Px,hbb⟩:H b=some (.dK (dc (onP C.bound p)))/\H0 b=none/\b≠ah/\b≠al/\b≠ab:=by
  rcases h.bAt p with⟨e,_⟩|⟨b',e,h1,h2,h3⟩
  .rw[hb]at e;cases e
  .rw[hb]at e;have e':b=b':=by injection e with e;injection e
   subst e';exact⟨h1,h2,h3⟩
 have nbt:t≠b:=λe=>by rw[e,aa]at ht;cases ht
 have ht':H t=none:=by rwa[ai nbt]at ht
 have Py:b≠ad:=aF Oj h.bnd;have keep:∀y o,H y=some o->y≠b->y≠ad->(upd (upd (upd H b (.dK (dc (onP C.bound p++[l])))) t (.tup [.int (l:Nat),.int (p:Nat)])) ad (.lst ((ts++[t]).map V.ref))) y=some o:=λy o e n1 n2=>by rw[ai n2,ai (au e ht'),ai n1];exact e
 have kd:∀y kvs,H y=some (.dK kvs)->y≠ad:=λy kvs e=>aF e h.bnd;have ki:∀y C dy fs,H y=some (.ins C dy fs)->y≠b/\y≠ad:=λy C dy fs e=>⟨aF e Oj,aF e h.bnd⟩;refine⟨keep _ _ h.obj (ki _ _ _ _ h.obj).1 (ki _ _ _ _ h.obj).2,keep _ _ h.held (Ho hbh) (kd _ _ h.held),h.hPm,keep _ _ h.lock (Ho Px) (kd _ _ h.lock),h.lEq,λz m=>?_,keep _ _ h.bond (Ho hbb) (kd _ _ h.bond),λq=>?_,h.bIn,aa,?_,h.n1,h.n2,h.n3,h.fx,h.fh,h.fl,h.fb,h.fd⟩
 .obtain⟨dz,hz⟩:=h.lAt z m;exact⟨dz,keep _ _ hz (ki _ _ _ _ hz).1 (ki _ _ _ _ hz).2⟩
 .by_cases hq:q=p
  .subst hq;refine .inr ⟨b,hb,?_,hb0,hbh,Px,hbb⟩;rw[ai Py,ai (Ho nbt),aa];show _=some (HO.dK (dc (onP (C.bound++[(l,q)]) q)));rw[tH,Hc rfl]
  .have e:onP (C.bound++[(l,p)]) q=onP C.bound q:=by rw[tH,G9 hq]
   rcases h.bAt q with⟨h1,h2⟩|⟨b',h1,h2,h3,h4⟩
   .exact .inl ⟨h1,by show onP (C.bound++[(l,p)]) q=[];rw[e];exact h2⟩
   .refine .inr ⟨b',h1,?_,h3,h4⟩;show _=some (HO.dK (dc (onP (C.bound++[(l,p)]) q)));rw[e];exact keep _ _ h2 (λz=>hq (h.bIn q p b (by rw[<-z];exact h1) hb)) (kd _ _ h2)
 .refine Paired.snoc (Paired.mapP h.tAt λt' b' q=>keep _ _ q (aF q Oj) (aF q h.bnd)) ?_;have ntd:t≠ad:=λe=>by rw[e,h.bnd]at ht';cases ht'
  rw[ai ntd];exact aa
theorem cp.dict(h:cp c H0 H x dx ah al ab ad ps ls bk ts C){p:Nat}{q:Addr}(hp:aQ bk (Sum.inl (p:Int))=none)(hq:H q=some (.dK []))(h0:H0 q=none)(n1:q≠ah)(n2:q≠al)(n3:q≠ab)(hnew:∀(r:Nat) b,aQ bk (Sum.inl (r:Int))=some (.ref b)->b≠q):cp c H0 (upd H ab (.dK (bG bk (Sum.inl (p:Int)) (.ref q)))) x dx ah al ab ad ps ls (bG bk (Sum.inl (p:Int)) (.ref q)) ts C:=by
 have keep:∀y o,H y=some o->y≠ab->(upd H ab (.dK (bG bk (Sum.inl (p:Int)) (.ref q)))) y=some o:=λy o e n=>by rw[ai n];exact e
 refine⟨keep _ _ h.obj (aF h.obj h.bond),keep _ _ h.held h.n2,h.hPm,keep _ _ h.lock h.n3,h.lEq,λz m=>?_,aa,λr=>?_,λr r' b e1 e2=>?_,keep _ _ h.bnd (aF h.bnd h.bond),Paired.mapP h.tAt λt' b' q=>keep _ _ q (aF q h.bond),h.n1,h.n2,h.n3,h.fx,h.fh,h.fl,h.fb,h.fd⟩
 .obtain⟨dz,hz⟩:=h.lAt z m;exact⟨dz,keep _ _ hz (aF hz h.bond)⟩
 .rw[iq];by_cases hr:r=p
  .subst hr;rw[Hc rfl];have e:onP C.bound r=[]:=by
    rcases h.bAt r with⟨_,e⟩|⟨b,e,_⟩
    .exact e
    .rw[hp]at e;cases e
   refine .inr ⟨q,rfl,?_,h0,n1,n2,n3⟩;rw[e];exact keep _ _ hq n3
  .rw[G9 (λz=>hr ((d8 _ _).mp z))];rcases h.bAt r with e|⟨b,e1,e2,e3,e4⟩
   .exact .inl e
   .exact .inr ⟨b,e1,keep _ _ e2 e4.2.2,e3,e4⟩
 .rw[iq]at e1 e2;by_cases hr:r=p
  .by_cases Oh:r'=p
   .rw[hr,Oh]
   .exfalso;rw[hr,Hc rfl]at e1;rw[G9 (λz=>Oh ((d8 _ _).mp z))]at e2;have eb:q=b:=by injection e1 with e1;injection e1
    exact hnew r' b e2 eb.symm
  .by_cases Oh:r'=p
   .exfalso;rw[Oh,Hc rfl]at e2;rw[G9 (λz=>hr ((d8 _ _).mp z))]at e1;have eb:q=b:=by injection e2 with e2;injection e2
    exact hnew r b e1 eb.symm
   .rw[G9 (λz=>hr ((d8 _ _).mp z))]at e1;rw[G9 (λz=>Oh ((d8 _ _).mp z))]at e2;exact h.bIn r r' b e1 e2
end
section
variable{P:Program}{w:World}{K:LS}{mg:Str->Option Value}{base:Heap}{c:Cs}
theorem fW(h:n<=5000):n<sizeLine:=JX h (by decide)
inductive vU(c:Cs)(vs:List V)(H:Hp)(Q:VK)(E:XK):Prop|mk(H0:Hp)(x:Addr)(C:Vbptaj.Cell)(p l:Nat)(_:vs=[.ref x,.int p,.int l])(_:ak H0 H)(_:CellAt c H0 H x C)(_:C.bound.length<=4000)(_:∀H',ak H0 H'->CellAt c H0 H' x {C with bound:=eS C.bound l p}->Q .non H')
theorem yf(T:Txt P w K mg c):T.FW.H P w base 1 (vU c):=by
 refine aS T.FW ["cell","person","licence","binding"] ?_;rintro _ _ _ _ _ H vs Q E hr hu _ _ nd ⟨H0,x,C,p,l,rfl,s0,⟨dx,ah,al,ab,ad,ps,ls,bk,ts,hC,Mo⟩,hz,k⟩
 refine⟨_,(aj (aO 3 nd (xq (fv 0) (pv 1) cZ ⟨rfl,rfl,rfl,rfl⟩))
 (aL (a9 (gK (kR hu (pv 2) (pv 3))) (aj (fS hu (pv 3) (pv 2) eR rfl)
 (aL (bU (dG Ib Ix ID fZ (fv 0) (ag (xU (p2 2 1)) aq))))) aM))),?_⟩
 have lts:ts.length=C.bound.length:=HC hC.tAt;have N3:(onP C.bound p).contains l=C.bound.contains (l,p):=by apply HD.mpr;rw[HZ,HZ];exact wg
 refine⟨_,rfl,rfl,hC.obj,T.Cell.o,rfl,ab,rfl,.inl ⟨_,.inl hC.bond⟩,_,rfl,λq hq=>?_⟩;have s1:ak H (upd H q (.dK [])):=ak.upd hq;have M3:=hC.same s1;have lonp:(onP C.bound p).length<=C.bound.length:=by unfold onP;rw[G8];exact Hz _ _
 refine⟨bk,Sum.inl (p:Int),M3.bond,rfl,λv hv=>?_,λhv=>⟨fW (by omega),?_⟩⟩
 .obtain⟨b,hb,Oj,hb0,hbn⟩:∃b,aQ bk (Sum.inl (p:Int))=some (.ref b)/\(upd H q (.dK [])) b=some (.dK (dc (onP C.bound p)))/\H0 b=none/\b≠ah/\b≠al/\b≠ab:=by
   rcases M3.bAt p with⟨e,_⟩|e
   .rw[hv]at e;cases e
   .exact e
  have ev:v=.ref b:=Hg (hv.symm.trans hb);subst ev;refine⟨_,rfl,_,rfl,b,_,rfl,bP.k (k:=Sum.inl (l:Int)) Oj,_,rfl,?_⟩;rw[iN,N3];refine aP (λhn=>?_) λhn=>?_
  .have O3:C.bound.contains (l,p)=false:=by simpa using hn
   have Mi:(onP C.bound p).contains l=false:=N3.trans O3;refine⟨_,rfl,_,rfl,b,_,rfl,dX.k (k:=Sum.inl (l:Int)) Oj (by unfold dc;rw[G8];exact fW (by omega)),?_⟩;rw[qw Mi];have nbx:x≠b:=aF M3.obj Oj;have Py:ad≠b:=aF M3.bnd Oj;refine⟨_,rfl,rfl,(ai nbx).trans M3.obj,T.Cell.o,rfl,.inl ⟨rfl,_,SqL.of (by rw[ai Py];exact M3.bnd)⟩,_,rfl,_,rfl,by show 2<=sizeLine;decide,λt ht=>?_⟩;have ntd:ad≠t:=λe=>by rw[<-e,ai Py,M3.bnd]at ht;cases ht
   refine⟨ad,_,_,rfl,rfl,by rw[ai ntd,ai Py];exact M3.bnd,by rw[G8];exact fW (by omega),?_⟩;have hf:=M3.bind hb Mi ht;have eb:eS C.bound l p=C.bound++[(l,p)]:=by unfold eS;rw[O3];rfl
   refine k _ ?_ ⟨dx,ah,al,ab,ad,ps,ls,bk,ts++[t],?_,?_⟩
   .have fq:H0 t=none:=by
     have nbt:t≠b:=λe=>by rw[e,aa]at ht;cases ht
     rw[ai nbt]at ht;exact s0.free (s1.free ht)
    exact a_ (a_ (a_ (s0.trans s1) hb0) fq) hC.fd
   .rw[eb];rw[HL]at hf;exact hf
   .rw[eb];show bk.length<=(C.bound++[(l,p)]).length;rw[Hx];omega
  .have O3:C.bound.contains (l,p)=true:=by simpa using hn
   have eb:eS C.bound l p=C.bound:=by unfold eS;rw[Hc O3]
   rw[eb]at k;exact k _ (s0.trans s1) ⟨dx,ah,al,ab,ad,ps,ls,bk,ts,M3,Mo⟩
 .have fq0:H0 q=none:=s0.free hq;have nqa:q≠ah:=Ho (au hC.held hq);have nql:q≠al:=Ho (au hC.lock hq);have nqb:q≠ab:=Ho (au hC.bond hq)
  have Mw:=M3.dict hv aa fq0 nqa nql nqb (λr b e z=>by
   rcases hC.bAt r with⟨e1,_⟩|⟨b',e1,e2,_⟩
   .rw[e]at e1;cases e1
   .rw[e]at e1;have eb:b=b':=by injection e1 with e1;injection e1
    rw[<-eb,z,hq]at e2
    cases e2)
  have hb:aQ (bG bk (Sum.inl (p:Int)) (.ref q)) (Sum.inl (p:Int))=some (.ref q):=by rw[iq,Hc rfl]
  have e0:onP C.bound p=[]:=by
   rcases hC.bAt p with⟨_,e⟩|⟨b,e,_⟩
   .exact e
   .rw[hv]at e;cases e
  have Oj:(upd (upd H q (.dK [])) ab (.dK (bG bk (Sum.inl (p:Int)) (.ref q)))) q=some (.dK (dc (onP C.bound p))):=by rw[ai nqb,aa,e0];rfl
  have Mi:(onP C.bound p).contains l=false:=by rw[e0];rfl
  refine⟨_,rfl,_,rfl,q,_,rfl,bP.k (k:=Sum.inl (l:Int)) Oj,_,rfl,?_⟩;rw[iN,Mi];refine bS ?_;refine⟨_,rfl,_,rfl,q,_,rfl,dX.k (k:=Sum.inl (l:Int)) Oj (by unfold dc;rw[G8];exact fW (by omega)),?_⟩;rw[qw Mi];have nbx:x≠q:=aF Mw.obj Oj;have Py:ad≠q:=aF Mw.bnd Oj;refine⟨_,rfl,rfl,(ai nbx).trans Mw.obj,T.Cell.o,rfl,.inl ⟨rfl,_,SqL.of (by rw[ai Py];exact Mw.bnd)⟩,_,rfl,_,rfl,by show 2<=sizeLine;decide,λt ht=>?_⟩;have ntd:ad≠t:=λe=>by rw[<-e,ai Py,Mw.bnd]at ht;cases ht
  refine⟨ad,_,_,rfl,rfl,by rw[ai ntd,ai Py];exact Mw.bnd,by rw[G8];exact fW (by omega),?_⟩;have hf:=Mw.bind hb Mi ht;have O3:C.bound.contains (l,p)=false:=N3.symm.trans Mi;have eb:eS C.bound l p=C.bound++[(l,p)]:=by unfold eS;rw[O3];rfl
  refine k _ ?_ ⟨dx,ah,al,ab,ad,ps,ls,bG bk (Sum.inl (p:Int)) (.ref q),ts++[t],?_,?_⟩
  .have fq:H0 t=none:=by
    have nbt:t≠q:=λe=>by rw[e,aa]at ht;cases ht
    have nbt2:t≠ab:=λe=>by rw[e,ai (Ho nqb),aa]at ht;cases ht
    rw[ai nbt,ai nbt2]at ht;exact s0.free (s1.free ht)
   exact a_ (a_ (a_ (a_ (s0.trans s1) hC.fb) fq0) fq) hC.fd
  .rw[eb];rw[HL]at hf;exact hf
  .rw[eb];have:=fu bk (Sum.inl (p:Int)) (.ref q);show(bG bk (Sum.inl (p:Int)) (.ref q)).length<=(C.bound++[(l,p)]).length;rw[Hx,IE];omega
theorem eE{b:Bool}{A B:Prop}(h:b=false)(q:B):if b=true then A else B:=by rw[h];exact eh q
theorem n6{b:Bool}{A B:Prop}(h:b=true)(q:A):if b=true then A else B:=by rw[h];exact bS q
theorem gf(pm:ps.Perm hold)(hn:(hold.map (·.1)).Nodup)(p:Nat):aQ (pN ps) (Sum.inl (p:Int))=((hold.find? λx=>x.1==p).map λx=>V.int (x.2:Nat)):=by rw[vS,k_ pm hn]
theorem xr(h:0<partsOf hold p):((hold.find? λx=>x.1==p).map λx=>V.int (x.2:Nat))=some (.int (partsOf hold p:Nat)):=by
 unfold partsOf at h⊢;cases e:(hold.find? λx=>x.1==p)with
 |none=>rw[e]at h;exact absurd h (Jh _)
 |some x=>rfl
theorem oR(hold:List (Nat×Nat))(p:Nat):(((hold.find? λx=>x.1==p).map λx=>V.int (x.2:Nat))).getD (.int 0)=.int (partsOf hold p:Nat):=by unfold partsOf;cases(hold.find? λx=>x.1==p)<;>rfl
theorem qG(pm:ps.Perm hold)(srt:hold.Pairwise λa b=>a.1<b.1)(a m:Nat):(if m=0 then(dS ps a m).filter (λx=>x.1 !=a)else dS ps a m).Perm (withParts a m hold):=by
 have hn:(ps.map (·.1)).Nodup:=(pm.map _).nodup_iff.mpr (b_ srt);have p1:=yL hn a m;have p2:=qh a m srt;have p3:=pm.filter λx=>x.1 !=a;by_cases hm:m=0
 .rw[Hc hm]at p2⊢;have p4:=p1.filter λx=>x.1 !=a;have hb:¬((a,m).1 !=a)=true:=by simp
  rw[Hy,G9 hb,Je]at p4;have e:(ps.filter λx=>(x.1 !=a&&x.1 !=a))=ps.filter λx=>x.1 !=a:=by apply JL;intro x _;exact Bool.and_self _
  rw[e]at p4;exact p4.trans (p3.trans p2.symm)
 .rw[G9 hm]at p2⊢;exact p1.trans ((p3.cons _).trans p2.symm)
theorem z_(ps:List (Nat×Nat))(a n:Nat):(dS ps a n).length<=ps.length+1:=by
 unfold dS;split
 .rw[G8];omega
 .rw[Hx,IE];exact Hu _
theorem yr(ps:List (Nat×Nat))(a n:Nat):aQ (pN (dS ps a n)) (Sum.inl (a:Int))=some (.int (n:Nat)):=by rw[<-mj,iq,Hc rfl]
inductive rB(c:Cs)(vs:List V)(H:Hp)(Q:VK)(E:XK):Prop|mk(H0:Hp)(x:Addr)(C:Vbptaj.Cell)(a b n:Nat)(done:List Nat)(_:vs=[.ref x,.int a,.int b,.int n])(_:ak H0 H)(_:CellAt c H0 H x C)(_:CWf C done)(_:done.length<=60)(_:∀H',ak H0 H'->CellAt c H0 H' x (Vbptaj.move C a b (min n (Vbptaj.freeOf C a)))->Q .non H')
theorem lQ(T:Txt P w K mg c):T.FX.H P w base 2 (rB c):=by
 have B:=T.B;refine aS T.FX ["cell","giver","taker","parts","going","licence"] ?_;rintro _ _ _ _ s H vs Q E hr hu _ _ nd ⟨H0,x,C,a,b,n,done,rfl,s0,hCA,wf,M9,k⟩
 refine⟨_,(aj (aO 4 nd (aK (qY rfl) (by rfl) B.q boot_min (ag (pv 3) (ag (az (iE T) hr (p2 0 1)) aq))))
 (aj (a9 (PW.pt (jE (aA bY (pv 4) aI (aD _)) (jd (aA bY (pv 1) (pv 2) (aD _))))) (aL BB) aM)
 (aj (fS hu (fv 0) (pv 1) (bH sC (dg hu (fv 0) (pv 1) (λ_ _=>rfl)) (pv 4)) rfl)
 (aj (a9 (aA bY (dg hu (fv 0) (pv 1) (λ_ _=>rfl)) aI (aD _)) (aL (bU (Ae (fv 0) (pv 1) ⟨rfl,rfl,rfl,rfl⟩))) aM)
 (aj (fS hu (fv 0) (pv 2) (bH d6 (iz hu (fv 0) (pv 2) aI ⟨rfl,rfl,rfl,rfl⟩) (pv 4)) rfl)
 (aL (cy HI rfl (a8 (az (rQ T) hr (p2 0 1))) (aT 5 nd)
 (aL (bU (az (yf T) hr (ag (pv 0) (p2 2 5)))))))))))),?_⟩
 have MU:=b_ wf.srt;have hll:=wf.lockLen;have Px:=wf.boundLen;have hhl:=wf.holdLen;have Pz:=wf.fre a;refine⟨_,rfl,_,rfl,_,rfl,H0,x,C,a,rfl,hCA,MU,by omega,λH1 s1=>?_⟩;refine⟨_,_,rfl,?_⟩;generalize hg:min n (Vbptaj.freeOf C a)=g at k;have eg:(if(partsOf C.hold a:Int)-(lockedOf C a:Int)<(n:Int)then(partsOf C.hold a:Int)-(lockedOf C a:Int)else(n:Int))=(g:Nat):=by rw[<-hg];unfold Vbptaj.freeOf;split<;>omega
 rw[eg];obtain⟨dx,ah,al,ab,ad,ps,ls,bk,ts,hC,Mo⟩:=id hCA;have M3:=hC.same s1;have s01:=s0.trans s1;refine⟨_,rfl,rfl,_,rfl,aP (λh1=>bS ?_) λh1=>?_⟩
 .have hz:g=0:=by have:=(cH g 0).symm.trans h1;simpa using this
  have e:Vbptaj.move C a b g=C:=by unfold Vbptaj.move;rw[Hc (.inl hz)]
  rw[e]at k;exact k H1 s01 ⟨dx,ah,al,ab,ad,ps,ls,bk,ts,M3,Mo⟩
 refine⟨_,rfl,_,rfl,rfl,_,rfl,aP (λh2=>?_) λh2=>?_⟩
 .have hz:a=b:=by have:=(cH a b).symm.trans h2;simpa using this
  have e:Vbptaj.move C a b g=C:=by unfold Vbptaj.move;rw[Hc (.inr hz)]
  rw[e]at k;exact k H1 s01 ⟨dx,ah,al,ab,ad,ps,ls,bk,ts,M3,Mo⟩
 have hg0:¬g=0:=λz=>h1 (by rw[z];rfl);have MP:¬a=b:=λz=>h2 (by rw[z];exact He rfl);have hga:g<=Vbptaj.freeOf C a:=by rw[<-hg];exact KY _ _
 have hpa:0<partsOf C.hold a:=by unfold Vbptaj.freeOf at hga;omega
 have hgp:g<=partsOf C.hold a:=by unfold Vbptaj.freeOf at hga;omega
 have lps:ps.length<=21:=by rw[hC.hPm.length_eq];exact hhl
 generalize hm:partsOf C.hold a-g=m at*;have v1:aQ (pN ps) (Sum.inl (a:Int))=some (.int (partsOf C.hold a:Nat)):=by rw[gf hC.hPm MU,xr hpa]
 have em:(partsOf C.hold a:Int)-(g:Int)=(m:Nat):=by omega
 have dp:dX H1 ah (.int (a:Nat)) (.int ((partsOf C.hold a:Int)-(g:Int))) (upd H1 ah (.dK (pN (dS ps a m)))):=by rw[em,<-mj];exact dX.k (k:=Sum.inl (a:Int)) M3.held (by unfold pN;rw[G8];exact aG (by omega))
 refine⟨_,rfl,rfl,M3.obj,T.Cell.o,rfl,_,rfl,ah,_,rfl,v1▸bP.k (k:=Sum.inl (a:Int)) M3.held,_,rfl,_,_,rfl,rfl,_,rfl,rfl,M3.obj,T.Cell.o,rfl,_,rfl,ah,_,rfl,dp,?_⟩;have Mw:=M3.setHeld (ps':=dS ps a m) (HS _);have s02:ak H0 (upd H1 ah (.dK (pN (dS ps a m)))):=a_ s01 hC.fh;generalize upd H1 ah (.dK (pN (dS ps a m)))=H2 at Mw s02;have v2:=yr ps a m;have rest:∀(H3:Hp)(Pb:List (Nat×Nat)),ak H0 H3->cp c H0 H3 x dx ah al ab ad Pb ls bk ts {C with hold:=Pb}->Pb.length<=22->Pb.Perm (withParts a m C.hold)->∀(u v5:Option V)(D:jC),D.nx=(λ_ H'=>Q .non H')->
   (b6 (AZ (f7 K (bA 0) "held") (bA 2) (tOp (rI0 λi j=>V.int (i+j)) (sv (f7 K (bA 0) "held") (bA 2) (tC (.int 0))) (bA 4))) (zq (sf K (g4 (jv c) [] E0 (br (bA 0) (br (bA 1) c9)))) (bu 5) (l0 (g4 (vU c) [] E0 (br (bA 0) (br (bA 2) (br (bA 5) c9))))))) D [some (.ref x),some (.int (a:Nat)),some (.int (b:Nat)),u,some (.int (g:Nat)),v5] H3:=by
  intro H3 Pb s03 Pc l2 pm2 u v5 D hD;have srt2:=jK a m wf.srt;have nod2:=b_ srt2;have vb:(aQ (pN Pb) (Sum.inl (b:Int))).getD (.int 0)=.int (partsOf (withParts a m C.hold) b:Nat):=by rw[gf pm2 nod2,oR]
  refine⟨_,rfl,rfl,Pc.obj,T.Cell.o,rfl,ah,rfl,.inl ⟨_,.inl Pc.held⟩,_,rfl,_,bP.k (k:=Sum.inl (b:Int)) Pc.held,?_⟩;rw[vb];have e5:((partsOf (withParts a m C.hold) b:Nat):Int)+(g:Int)=((partsOf (withParts a m C.hold) b+g:Nat):Int):=by omega
  have dp3:dX H3 ah (.int (b:Nat)) (.int (((partsOf (withParts a m C.hold) b:Nat):Int)+(g:Int))) (upd H3 ah (.dK (pN (dS Pb b (partsOf (withParts a m C.hold) b+g))))):=by rw[e5,<-mj];exact dX.k (k:=Sum.inl (b:Int)) Pc.held (by unfold pN;rw[G8];exact aG (by omega))
  refine⟨_,rfl,_,_,rfl,rfl,_,rfl,rfl,Pc.obj,T.Cell.o,rfl,_,rfl,ah,_,rfl,dp3,?_⟩;have pm3:(dS Pb b (partsOf (withParts a m C.hold) b+g)).Perm (withParts b (partsOf (withParts a m C.hold) b+g) (withParts a m C.hold)):=by have:=qG pm2 srt2 b (partsOf (withParts a m C.hold) b+g);rwa[G9 (by omega)]at this
  have M4:=Pc.setHeld pm3;have s04:ak H0 (upd H3 ah (.dK (pN (dS Pb b (partsOf (withParts a m C.hold) b+g))))):=a_ s03 hC.fh;generalize upd H3 ah (.dK (pN (dS Pb b (partsOf (withParts a m C.hold) b+g))))=H4 at M4 s04;dsimp only;refine cw ?_;refine⟨_,rfl,_,rfl,H0,x,_,a,rfl,⟨dx,ah,al,ab,ad,_,ls,bk,ts,M4,Mo⟩,λH5 L s5 hL hL5=>?_⟩;refine⟨L,rfl,⟨_,SqL.of hL5⟩,?_⟩;have hL5:H5 L=some (.lst (nI (onP C.bound a))):=hL5;have fL0:H0 L=none:=s04.free hL;have lon:(onP C.bound a).length<=C.bound.length:=by unfold onP;rw[G8];exact Hz _ _
  refine cB (b9 (K:=K) (a:=L) (xs:=nI (onP C.bound a)) (G:=λH'=>ak (upd H0 L (.lst (nI (onP C.bound a)))) H') λH' s=>SqL.of (s _ _ aa)) (λi σ H'=>∃v5,σ=[some (.ref x),some (.int (a:Nat)),some (.int (b:Nat)),u,some (.int (g:Nat)),v5]/\ak (upd H0 L (.lst (nI (onP C.bound a)))) H'/\
   CellAt c (upd H0 L (.lst (nI (onP C.bound a)))) H' x {hold:=withParts b (partsOf (withParts a m C.hold) b+g) (withParts a m C.hold),bound:=((onP C.bound a).take i).foldl (λbb l=>eS bb l b) C.bound,locks:=C.locks}) ?_ ?_ ?_ ?_
  .refine⟨v5,rfl,λy o e=>?_,dx,ah,al,ab,ad,_,ls,bk,ts,(M4.base λy o e e0=>?_).same s5,Mo⟩
   .by_cases hy:y=L
    .subst hy;rw[aa]at e;rw[<-e,hL5]
    .rw[ai hy]at e;exact s5 _ _ (s04 _ _ e)
   .rw[ai (au e hL)];exact e0
  .rintro i σ H' _ ⟨_,_,e,_⟩;exact e
  .rintro i v σ H6 H7 hi ⟨v5,rfl,s6,cA⟩ s7 hv;obtain⟨l,hl,rfl⟩:=jf hv;refine⟨_,rfl,_,rfl,_,rfl,_,x,_,b,l,rfl,s6.trans s7,cA.same s7,?_,λH8 s8 c8=>⟨_,rfl,s8,?_⟩⟩
   .dsimp only;rw[lB b _ _ (JE (take_sublist _ _) (qE wf.bnn a)),Hx,G8];have h9:=Hz (λl=> !C.bound.contains (l,b)) ((onP C.bound a).take i);have h10:((onP C.bound a).take i).length<=(onP C.bound a).length:=by rw[Iv];omega
    omega
   .rw[a6 hl,JM];exact c8
  .rintro σ H' ⟨v5,rfl,s6,cA⟩;rw[bE,Im,zi wf.bnn]at cA;rw[hD];refine k H' (λy o e=>s6 _ _ (by rw[ai (au e fL0)];exact e)) ?_;have e:Vbptaj.move C a b g={hold:=withParts b (partsOf (withParts a m C.hold) b+g) (withParts a m C.hold),bound:=C.bound++(C.bound.filter λx=>x.2==a&& !C.bound.contains (x.1,b)).map λx=>(x.1,b),locks:=C.locks}:=by unfold Vbptaj.move;rw[G9 (λz=>z.elim hg0 MP)];dsimp only;rw[hm]
   rw[e];refine cA.base λy o _ e0=>?_;by_cases hy:y=L
   .rw[hy];exact fL0
   .rwa[ai hy]at e0
 have pm1:=qG hC.hPm wf.srt a m;have lp1:=z_ ps a m;refine⟨_,rfl,rfl,Mw.obj,T.Cell.o,rfl,_,rfl,ah,_,rfl,v2▸bP.k (k:=Sum.inl (a:Int)) Mw.held,rfl,_,rfl,aP (λh3=>?_) λh3=>?_⟩
 .have hz:m=0:=by have:=(cH m 0).symm.trans h3;simpa using this
  rw[Hc hz]at pm1;refine⟨_,rfl,rfl,Mw.obj,T.Cell.o,rfl,ah,rfl,.inl ⟨_,.inl Mw.held⟩,_,rfl,_,Sum.inl (a:Int),_,Mw.held,rfl,v2,?_⟩;rw[AH];have Pc:=Mw.setHeld (ps':=(dS ps a m).filter λx=>x.1 !=a) (HS _);exact rest _ _ (a_ s02 hC.fh) Pc (Hv (Hz _ _) (by omega)) pm1 _ _ _ rfl
 .have hz:¬m=0:=λz=>h3 (by rw[z];rfl);rw[G9 hz]at pm1;exact rest _ _ s02 Mw (by omega) pm1 _ _ _ rfl
def wS(C:Vbptaj.Cell)(d:LV):Vbptaj.Cell:=if min d.parts (Vbptaj.freeOf C d.giver)=0 then C else{C with locks:=C.locks++[{pledge:=d.num,who:=d.giver,creditor:=d.taker,parts:=min d.parts (Vbptaj.freeOf C d.giver)}]}
inductive kh(c:Cs)(vs:List V)(H:Hp)(Q:VK)(E:XK):Prop|mk(H0:Hp)(x y:Addr)(C:Vbptaj.Cell)(d:LV)(vr:List (List Nat))(done:List Nat)(_:vs=[.ref x,.ref y])(_:ak H0 H)(_:CellAt c H0 H x C)(_:CWf C done)(_:done.length<=60)(_:b0 c vr H y d)(_:d.num∉done)(_:∀H',ak H0 H'->CellAt c H0 H' x (wS C d)->Q .non H')
theorem uK(T:Txt P w K mg c):T.FY.H P w base 3 (kh c):=by
 have B:=T.B;refine aS T.FY ["cell","pledge","locked"] ?_;rintro _ _ _ _ _ H vs Q E hr hu _ _ nd ⟨H0,x,y,C,d,vr,done,rfl,s0,hCA,wf,M9,⟨dy,yb,yc,hy,hyb,hyc⟩,hnum,k⟩
 refine⟨_,(aj (aO 2 nd (aK (qY rfl) (by rfl) B.q boot_min (ag (fv 1) (ag (az (iE T) hr (ag (pv 0) (ag (fv 1) aq))) aq))))
 (aL (a9 (aA l8 (pv 2) aI (aD _)) (aL (fS hu (fv 0) (fv 1) (iy (Dr T) (hr.mono (by decide)) rfl (ag (fv 1) (ag (fv 1) (p1 2)))) rfl)) aM))),?_⟩
 have MU:=b_ wf.srt;have hll:=wf.lockLen;have Pz:=wf.fre d.giver;refine⟨_,rfl,rfl,hy,T.Deed.o,rfl,_,rfl,_,rfl,rfl,hy,T.Deed.o,rfl,H0,x,C,d.giver,rfl,hCA,MU,by omega,λH1 s1=>?_⟩;refine⟨_,_,rfl,?_⟩;unfold wS at k;generalize hg:min d.parts (Vbptaj.freeOf C d.giver)=g at k;have eg:(if(partsOf C.hold d.giver:Int)-(lockedOf C d.giver:Int)<(d.parts:Int)then(partsOf C.hold d.giver:Int)-(lockedOf C d.giver:Int)else(d.parts:Int))=(g:Nat):=by rw[<-hg];unfold Vbptaj.freeOf;split<;>omega
 rw[eg];have s01:=s0.trans s1;obtain⟨dx,ah,al,ab,ad,ps,ls,bk,ts,hC,Mo⟩:=id hCA;have M3:=hC.same s1;have Nk:=s1 _ _ hy;refine⟨_,rfl,_,_,rfl,rfl,_,rfl,aP (λh1=>?_) λh1=>?_⟩
 .have hz:¬g=0:=by have:=Hb h1;omega
  rw[G9 hz]at k;refine⟨_,rfl,rfl,Nk,T.Deed.o,rfl,_,rfl,rfl,Nk,T.Deed.o,rfl,_,rfl,λz dz hz Oc ne=>?_⟩;refine⟨z,dz,_,_,_,rfl,aa,λH2 h2 kp=>⟨rfl,?_⟩⟩;have s2:ak H1 H2:=ak.made hz Oc kp;have Mw:=M3.same s2;have hy2:=s2 _ _ Nk;have fz:H0 z=none:=s01.free hz;have nv:aQ (numL ls) (Sum.inl (d.num:Int))=none:=by
   rw[kM];have:(ls.find? λz=>z.2.pledge==d.num)=none:=by
    rw[Jd];intro q hq;have hm:q.2∈C.locks:=by rw[<-hC.lEq];exact HA.mpr ⟨q,hq,rfl⟩
    have:=(wf.lkp q.2 hm).2.1;simp;exact λe=>hnum (e▸this)
   rw[this];rfl
  have lls:ls.length<=60:=by
   have:ls.length=C.locks.length:=by rw[<-hC.lEq,G8]
   omega
  have dp:dX H2 al (.int (d.num:Nat)) (.ref z) (upd H2 al (.dK (numL (ls++[(z,{pledge:=d.num,who:=d.giver,creditor:=d.taker,parts:=g})])))):=by
   have e:numL (ls++[(z,{pledge:=d.num,who:=d.giver,creditor:=d.taker,parts:=g})])=bG (numL ls) (Sum.inl (d.num:Int)) (.ref z):=by rw[jM _ nv];unfold numL;rw[HL];rfl
   rw[e];exact dX.k (k:=Sum.inl (d.num:Int)) Mw.lock (by unfold numL;rw[G8];exact aG (by omega))
  refine⟨_,rfl,rfl,Mw.obj,T.Cell.o,rfl,_,rfl,rfl,hy2,T.Deed.o,rfl,al,_,rfl,dp,?_⟩
  have Pc:=Mw.setLocks (ls':=ls++[(z,{pledge:=d.num,who:=d.giver,creditor:=d.taker,parts:=g})]) (locks':=C.locks++[{pledge:=d.num,who:=d.giver,creditor:=d.taker,parts:=g}]) (by rw[HL,hC.lEq];rfl) (λq hq=>by
   rcases H_.mp hq with hq|hq
   .exact Mw.lAt q hq
   .rw[HH.mp hq]
    exact⟨dz,h2⟩)
  exact k _ (a_ (s01.trans s2) hC.fl) ⟨dx,ah,al,ab,ad,ps,_,bk,ts,Pc,Mo⟩
 .have hz:g=0:=by
   by_cases e:g=0
   .exact e
   .exact absurd (He (by omega:(0:Int)<(g:Int))) h1
  rw[Hc hz]at k;exact k H1 s01 ⟨dx,ah,al,ab,ad,ps,ls,bk,ts,M3,Mo⟩
def ku(C:Vbptaj.Cell)(q:Nat):Vbptaj.Cell:=match C.locks.find? λk=>k.pledge==q with
 |none=>C
 |some k=>Vbptaj.move {C with locks:=C.locks.filter λx=>x.pledge !=q} k.who k.creditor k.parts
inductive gy(c:Cs)(vs:List V)(H:Hp)(Q:VK)(E:XK):Prop|mk(H0:Hp)(x:Addr)(C:Vbptaj.Cell)(q:Nat)(done:List Nat)(_:vs=[.ref x,.int q])(_:ak H0 H)(_:CellAt c H0 H x C)(_:CWf C done)(_:done.length<=60)(_:∀H',ak H0 H'->CellAt c H0 H' x (ku C q)->Q .non H')
theorem rO(T:Txt P w K mg c):T.FZ.H P w base 3 (gy c):=by
 refine aS T.FZ ["cell","pledge","lock"] ?_;rintro _ _ _ _ _ H vs Q E hr _ _ _ nd ⟨H0,x,C,q,done,rfl,s0,⟨dx,ah,al,ab,ad,ps,ls,bk,ts,hC,Mo⟩,wf,M9,k⟩
 refine⟨_,(aj (aO 2 nd (tz (fv 0) (pv 1) fj ⟨rfl,rfl,rfl,rfl⟩))
 (aL (a9 (aA wb (pv 2) fj (aD _)) (aL (bU (az (lQ T) hr (ag (pv 0) (ag (fv 2) (ag (fv 2) (ag (fv 2) aq))))))) aM))),?_⟩
 have fs:=t_ (λk:Vbptaj.Lock=>k.pledge==q) ls;rw[hC.lEq]at fs;refine⟨_,rfl,rfl,hC.obj,T.Cell.o,rfl,al,rfl,.inl ⟨_,.inl hC.lock⟩,_,rfl,_,Sum.inl (q:Int),hC.lock,rfl,λv hv=>?_,λhv=>?_⟩
 .rw[kM]at hv;cases hf:(ls.find? λz=>z.2.pledge==q)with
  |none=>rw[hf]at hv;cases hv
  |some z=>
   rw[hf]at hv fs;cases hv;have Od:=Io hf;obtain⟨dz,hz⟩:=hC.lAt z Od;have hkm:z.2∈C.locks:=by rw[<-hC.lEq];exact HA.mpr ⟨z,Od,rfl⟩
   have hpq:z.2.pledge=q:=by simpa using JQ hf
   unfold ku at k;rw[<-fs]at k;dsimp only[map]at k;rw[j8];have Mw:=hC.setLocks (ls':=ls.filter λz=>z.2.pledge !=q) (locks':=C.locks.filter λx=>x.pledge !=q) (by rw[<-hC.lEq];exact d5 (λk:Vbptaj.Lock=>k.pledge !=q) ls) (λy hy=>hC.lAt y (HK.mp hy).1);have s02:ak H0 (upd H al (.dK (numL (ls.filter λz=>z.2.pledge !=q)))):=a_ s0 hC.fl;have O9:(upd H al (.dK (numL (ls.filter λz=>z.2.pledge !=q)))) z.1=some (.ins c.Lock dz (r_ z.2.who z.2.creditor z.2.parts)):=by rw[ai (aF hz hC.lock)];exact hz
   refine⟨_,rfl,rfl,_,rfl,bS ?_⟩;have wf2:=wf.drop q;have lo:=oY z.2.who wf.lkn hkm;rw[Hc rfl,hpq]at lo;have Pz:=wf.fre z.2.who;have emin:min z.2.parts (Vbptaj.freeOf {C with locks:=C.locks.filter λx=>x.pledge !=q} z.2.who)=z.2.parts:=by unfold Vbptaj.freeOf lockedOf;unfold lockedOf at Pz;dsimp only;omega
   refine⟨_,rfl,_,rfl,rfl,O9,T.Lock.o,rfl,_,rfl,rfl,O9,T.Lock.o,rfl,_,rfl,rfl,O9,T.Lock.o,rfl,?_⟩;refine⟨H0,x,_,z.2.who,z.2.creditor,z.2.parts,done,rfl,s02,⟨dx,ah,al,ab,ad,ps,_,bk,ts,Mw,Mo⟩,wf2,M9,λH' s' c'=>k H' s' ?_⟩;rw[emin]at c';exact c'
 .rw[kM]at hv;have hf:(ls.find? λz=>z.2.pledge==q)=none:=by
   cases hf:(ls.find? λz=>z.2.pledge==q)with
   |none=>rfl
   |some z=>rw[hf]at hv;cases hv
  rw[hf]at fs;unfold ku at k;rw[<-fs]at k;dsimp only[map]at k;refine⟨_,rfl,rfl,_,rfl,eh ?_⟩;exact k H s0 ⟨dx,ah,al,ab,ad,ps,ls,bk,ts,hC,Mo⟩
inductive Be(c:Cs)(vs:List V)(H:Hp)(Q:VK)(E:XK):Prop|mk(H0:Hp)(x y:Addr)(C:Vbptaj.Cell)(d:LV)(vr:List (List Nat))(done:List Nat)(_:vs=[.ref x,.ref y])(_:ak H0 H)(_:CellAt c H0 H x C)(_:CWf C done)(_:done.length<=60)(_:b0 c vr H0 y d)(_:d.num∉done)(_:d.kind<=4)(_:∀H',ak H0 H'->CellAt c H0 H' x (Vbptaj.work C d).1->Q .non H')
theorem held_in(wf:CWf C done)(pm:ps.Perm C.hold)(p:Nat):(aQ (pN ps) (Sum.inl (p:Int))).isSome=decide (0<partsOf C.hold p):=by
 rw[gf pm (b_ wf.srt)];unfold partsOf;cases h:(C.hold.find? λx=>x.1==p)with
 |none=>rfl
 |some q=>have:=(wf.pos q (Io h)).1;show true=decide (0<q.2);rw[He this]
theorem Dm(T:Txt P w K mg c):T.F0.H P w base 4 (Be c):=by
 refine aS T.F0 ["cell","deed"] ?_;rintro _ _ _ _ _ H vs Q E hr hu _ _ nd ⟨H0,x,y,C,d,vr,done,rfl,s0,hCA,wf,M9,hd0,hnum,hkd,k⟩
 refine⟨_,(aj (a9 (aA bY (fv 1) (bf rfl T.Gz) (aD _)) (aL (bU (az (lQ T) hr (ag (pv 0) (ag (fv 1) (ag (fv 1) (ag (fv 1) aq))))))) aM)
 (aj (a9 (PW.pt (kC (aA bY (fv 1) (bf rfl T.GA) (aD _)) (jo (gK (il hu (fv 1) (fv 0)))))) (aL (bU (az (yf T) hr (ag (pv 0) (ag (fv 1) (ag (fv 1) aq)))))) aM)
 (aj (a9 (aA bY (fv 1) (bf rfl T.GB) (aD _)) (aL (bU (az (uK T) hr (p2 0 1)))) aM)
 (aj (a9 (aA bY (fv 1) (bf rfl T.GC) (aD _)) (aL (bU (tz (fv 0) (fv 1) fj ⟨rfl,rfl,rfl,rfl⟩))) aM)
 (aL (a9 (aA bY (fv 1) (bf rfl T.GD) (aD _)) (aL (bU (az (rO T) hr (ag (pv 0) (ag (fv 1) aq))))) aM)))))),?_⟩
 obtain⟨dy,yb,yc,hy0,hyb,hyc⟩:=id hd0;have nk:∀m:Nat,¬d.kind=m->decide (V.int (d.kind:Int)=V.int (m:Int))=false:=λm h=>by rw[cH];simpa using h
 have yk:∀m:Nat,d.kind=m->decide (V.int (d.kind:Int)=V.int (m:Int))=true:=λm h=>by rw[cH];simpa using h
 have hy:=s0 _ _ hy0;by_cases k0:d.kind=0
 .refine⟨_,rfl,rfl,hy,T.Deed.o,rfl,rfl,_,rfl,n6 (yk 0 k0) ?_⟩;refine⟨_,rfl,_,rfl,rfl,hy,T.Deed.o,rfl,_,rfl,rfl,hy,T.Deed.o,rfl,_,rfl,rfl,hy,T.Deed.o,rfl,?_⟩;refine⟨H0,x,C,d.giver,d.taker,d.parts,done,rfl,s0,hCA,wf,M9,λH' s' c'=>?_⟩;have MS:=s' _ _ hy0;have e:(Vbptaj.work C d).1=Vbptaj.move C d.giver d.taker (min d.parts (Vbptaj.freeOf C d.giver)):=by simp only[Vbptaj.work,k0]
  refine⟨_,rfl,rfl,MS,T.Deed.o,rfl,rfl,_,rfl,eE (nk 1 (by omega)) (eh ?_)⟩;refine⟨_,rfl,rfl,MS,T.Deed.o,rfl,rfl,_,rfl,eE (nk 2 (by omega)) ?_⟩;refine⟨_,rfl,rfl,MS,T.Deed.o,rfl,rfl,_,rfl,eE (nk 3 (by omega)) ?_⟩;refine⟨_,rfl,rfl,MS,T.Deed.o,rfl,rfl,_,rfl,eE (nk 4 (by omega)) ?_⟩;exact k H' s' (e▸c')
 refine⟨_,rfl,rfl,hy,T.Deed.o,rfl,rfl,_,rfl,eE (nk 0 k0) ?_⟩;by_cases k1:d.kind=1
 .obtain⟨dx,ah,al,ab,ad,ps,ls,bk,ts,hC,Mo⟩:=id hCA;have Px:=wf.boundLen;have e:(Vbptaj.work C d).1=if 0<partsOf C.hold d.giver then{C with bound:=C.bound++[(d.num,d.giver)]}else C:=by simp only[Vbptaj.work,k1];split<;>rfl
  rw[e]at k;refine⟨_,rfl,rfl,hy,T.Deed.o,rfl,rfl,_,rfl,n6 (yk 1 k1) ?_⟩;refine⟨_,rfl,rfl,hy,T.Deed.o,rfl,_,rfl,rfl,hC.obj,T.Cell.o,rfl,ah,_,rfl,bP.k (k:=Sum.inl (d.giver:Int)) hC.held,_,rfl,?_⟩;have tail:∀H',ak H0 H'->CellAt c H0 H' x (if 0<partsOf C.hold d.giver then{C with bound:=C.bound++[(d.num,d.giver)]}else C)->
    b6 (pz (jD (tOp rEq (f7 K (bA 1) "kind") (tC (.int 2)))) (l0 (g4 (kh c) [] E0 (br (bA 0) (br (bA 1) c9)))) bp) (b6 (pz (jD (tOp rEq (f7 K (bA 1) "kind") (tC (.int 3)))) (l0 (xP (f7 K (bA 0) "locks") (f7 K (bA 1) "about") (tC .non))) bp) (pz (jD (tOp rEq (f7 K (bA 1) "kind") (tC (.int 4)))) (l0 (g4 (gy c) [] E0 (br (bA 0) (br (f7 K (bA 1) "about") c9)))) bp)) {nx:=λ_ H'=>Q .non H',rt:=Q} [some (.ref x),some (.ref y)] H':=λH' s' c'=>by
   have MS:=s' _ _ hy0;refine⟨_,rfl,rfl,MS,T.Deed.o,rfl,rfl,_,rfl,eE (nk 2 (by omega)) ?_⟩;refine⟨_,rfl,rfl,MS,T.Deed.o,rfl,rfl,_,rfl,eE (nk 3 (by omega)) ?_⟩;refine⟨_,rfl,rfl,MS,T.Deed.o,rfl,rfl,_,rfl,eE (nk 4 (by omega)) ?_⟩;exact k H' s' c'
  rw[held_in wf hC.hPm];refine aP (λh=>?_) λh=>?_
  .have hp:=Hb h;rw[Hc hp]at tail;refine⟨_,rfl,_,rfl,rfl,hy,T.Deed.o,rfl,_,rfl,rfl,hy,T.Deed.o,rfl,?_⟩;refine⟨H0,x,C,d.giver,d.num,rfl,s0,hCA,by omega,λH' s' c'=>tail H' s' ?_⟩;have eb:eS C.bound d.num d.giver=C.bound++[(d.num,d.giver)]:=by unfold eS;rw[G9];intro q;exact hnum (wf.bnd _ (HZ.mp q)).1
   rw[eb]at c';exact c'
  .rw[G9 (λz=>h (He z))]at tail;exact tail H s0 hCA
 refine⟨_,rfl,rfl,hy,T.Deed.o,rfl,rfl,_,rfl,eE (nk 1 k1) (eh ?_)⟩;by_cases k2:d.kind=2
 .refine⟨_,rfl,rfl,hy,T.Deed.o,rfl,rfl,_,rfl,n6 (yk 2 k2) ?_⟩;refine⟨_,rfl,_,rfl,H0,x,y,C,d,vr,done,rfl,s0,hCA,wf,M9,hd0.same s0,hnum,λH' s' c'=>?_⟩;have MS:=s' _ _ hy0;have e:(Vbptaj.work C d).1=wS C d:=by simp only[Vbptaj.work,k2];rfl
  refine⟨_,rfl,rfl,MS,T.Deed.o,rfl,rfl,_,rfl,eE (nk 3 (by omega)) ?_⟩;refine⟨_,rfl,rfl,MS,T.Deed.o,rfl,rfl,_,rfl,eE (nk 4 (by omega)) ?_⟩;exact k H' s' (e▸c')
 refine⟨_,rfl,rfl,hy,T.Deed.o,rfl,rfl,_,rfl,eE (nk 2 k2) ?_⟩;by_cases k3:d.kind=3
 .obtain⟨dx,ah,al,ab,ad,ps,ls,bk,ts,hC,Mo⟩:=id hCA;have e:(Vbptaj.work C d).1={C with locks:=C.locks.filter λk=>k.pledge !=d.about}:=by simp only[Vbptaj.work,k3]
  rw[e]at k;refine⟨_,rfl,rfl,hy,T.Deed.o,rfl,rfl,_,rfl,n6 (yk 3 k3) ?_⟩;have fin:∀H',ak H0 H'->CellAt c H0 H' x {C with locks:=C.locks.filter λk=>k.pledge !=d.about}->pz (jD (tOp rEq (f7 K (bA 1) "kind") (tC (.int 4)))) (l0 (g4 (gy c) [] E0 (br (bA 0) (br (f7 K (bA 1) "about") c9)))) bp {nx:=λ_ H'=>Q .non H',rt:=Q} [some (.ref x),some (.ref y)] H':=λH' s' c'=>by have MS:=s' _ _ hy0;refine⟨_,rfl,rfl,MS,T.Deed.o,rfl,rfl,_,rfl,eE (nk 4 (by omega)) ?_⟩;exact k H' s' c'
  have Mw:=hC.setLocks (ls':=ls.filter λz=>z.2.pledge !=d.about) (locks':=C.locks.filter λx=>x.pledge !=d.about) (by rw[<-hC.lEq];exact d5 (λk:Vbptaj.Lock=>k.pledge !=d.about) ls) (λy hy=>hC.lAt y (HK.mp hy).1);refine⟨_,rfl,rfl,hC.obj,T.Cell.o,rfl,al,rfl,.inl ⟨_,.inl hC.lock⟩,_,rfl,rfl,hy,T.Deed.o,rfl,_,Sum.inl (d.about:Int),hC.lock,rfl,λv hv=>?_,λhv=>?_⟩
  .rw[j8];exact fin _ (a_ s0 hC.fl) ⟨dx,ah,al,ab,ad,ps,_,bk,ts,Mw,Mo⟩
  .have hn:dY (numL ls) (Sum.inl (d.about:Int))=numL ls:=ub (zH hv);rw[j8]at hn;have eu:upd H al (.dK (numL (ls.filter λz=>z.2.pledge !=d.about)))=H:=by
    funext b;by_cases hb:b=al
    .rw[hb,aa,hn,hC.lock]
    .rw[ai hb]
   rw[eu]at Mw;exact fin _ s0 ⟨dx,ah,al,ab,ad,ps,_,bk,ts,Mw,Mo⟩
 refine⟨_,rfl,rfl,hy,T.Deed.o,rfl,rfl,_,rfl,eE (nk 3 k3) ?_⟩;have k4:d.kind=4:=by omega
 refine⟨_,rfl,rfl,hy,T.Deed.o,rfl,rfl,_,rfl,n6 (yk 4 k4) ?_⟩;refine⟨_,rfl,_,rfl,rfl,hy,T.Deed.o,rfl,H0,x,C,d.about,done,rfl,s0,hCA,wf,M9,λH' s' c'=>k H' s' ?_⟩;have e:(Vbptaj.work C d).1=ku C d.about:=by simp only[Vbptaj.work,k4];unfold ku;cases C.locks.find? (λk=>k.pledge==d.about)<;>rfl
 rw[e];exact c'
def eI(R:LW)(ds:List LV):Vbptaj.Cell:=ds.foldl (λC d=>(Vbptaj.work C d).1) (Vbptaj.fresh R)
theorem nJ{R:LW}(h:(R.owners.Pairwise λa b=>a.1<b.1)/\(∀p∈R.owners,1<=p.1/\p.1<=20/\1<=p.2)):CWf (Vbptaj.fresh R) []:=
 ⟨h.1,λq m=>⟨(h.2 q m).2.2,(h.2 q m).2.1⟩,Pairwise.nil,λk m=>(by cases m),Pairwise.nil,λb m=>(by cases m),λp=>HJ _⟩
inductive p_(c:Cs)(vs:List V)(H:Hp)(Q:VK)(E:XK):Prop|mk(r a:Addr)(R:LW)(ds:List LV)(vr:List (List Nat))(_:vs=[.ref r,.ref a])(_:bd c vr H r R)(_:DL c vr H a ds)(_:CWf (Vbptaj.fresh R) [])(_:(ds.map (·.num)).Nodup)(_:ds.length<=60)(_:(∀d∈ds,d.kind<=4/\(d.kind<=2->d.giver<=20/\d.taker<=20)))(_:∀H' x,ak H H'->H x=none->CellAt c H H' x (eI R ds)->(∃done,CWf (eI R ds) done/\done.length<=60)->Q (.ref x) H')
theorem ko(T:Txt P w K mg c):T.F1.H P w base 5 (p_ c):=by
 refine aS T.F1 ["right","deeds","cell","deed"] ?_;rintro _ _ _ _ s H vs Q E hr _ _ _ nd ⟨r,a,R,ds,vr,rfl,hR,⟨zs,Ml,ha,hzd⟩,wf0,MU,L3,hds,k⟩
 refine⟨_,(aj (aO 2 nd (iy (Du T) (hr.mono (by decide)) rfl (ag (fv 0) aq)))
 (aj (cy HI rfl (a8 (pv 1)) (aT 3 nd)
 (aL (bU (az (Dm T) hr (p2 2 3)))))
 (rt (pv 2)))),?_⟩
 obtain⟨dr,rc,ro,OO,hr2,hr3⟩:=id hR;refine⟨_,rfl,rfl,OO,T.Right.o,rfl,λx dx hx hdx ne=>?_⟩;have s1:ak H (upd (upd H dx (.own x)) x (.ins c.Cell dx [])):=λb o e=>by rw[ai (au e hx),ai (au e hdx)];exact e
 refine⟨x,dx,ro,R.owners,rfl,aa,s1 _ _ hr3,λH1 ah al ab ad h1 h2 h3 h4 h5 n1 n2 n3 f1 f2 f3 f4 kp=>⟨rfl,?_⟩⟩;have s2:ak H H1:=ak.made hx hdx kp;have hC:CellAt c H H1 x (Vbptaj.fresh R):=⟨dx,ah,al,ab,ad,R.owners,[],[],[],⟨h1,h2,HS _,h3,rfl,λz m=>by(cases m),h4,λp=>.inl ⟨rfl,rfl⟩,λp q b e=>by(cases e),h5,.nil,n1,n2,n3,hx,s1.free f1,s1.free f2,s1.free f3,s1.free f4⟩,HJ _⟩;dsimp only[bp,b6,cu,tC,bu];refine cw ?_;refine⟨_,rfl,a,rfl,⟨_,SqL.of (s2 _ _ ha)⟩,?_⟩;refine cB (dQ (K:=K) (H1:=H) ha) (λi σ H'=>∃v3 done,σ=[some (.ref r),some (.ref a),some (.ref x),v3]/\ak H H'/\CellAt c H H' x (eI R (ds.take i))/\CWf (eI R (ds.take i)) done/\done.length<=i/\∀n∈done,n∈(ds.take i).map (·.num)) ?_ ?_ ?_ ?_
 .exact⟨none,[],rfl,s2,hC,wf0,Hu _,λn m=>by cases m⟩
 .rintro i σ H' _ ⟨_,_,_,s,_⟩;exact s
 .rintro i v σ H2 H3 hi ⟨v3,done,rfl,s3,cA,wf,O7,hdone⟩ s4 ⟨z,hz,rfl⟩;have Od:=Hl hz;have Oc:ds[i]?=some z.2:=by rw[<-Ml,Hd,hz];rfl
  have N4:=Hl Oc;have lz:zs.length=ds.length:=by rw[<-Ml,G8]
  have Mi:z.2.num∉done:=λm=>by have hm:=hdone _ m;have hn2:((ds.take (i+1)).map (·.num)).Nodup:=JE (KJ _ (take_sublist _ _)) MU;rw[a6 Oc,HL,K7]at hn2;exact hn2.2.2 _ hm _ (HH.mpr rfl) rfl
  have efold:eI R (ds.take (i+1))=(Vbptaj.work (eI R (ds.take i)) z.2).1:=by unfold eI;rw[a6 Oc,JM];rfl
  refine⟨_,rfl,_,rfl,H,x,z.1,_,z.2,vr,done,rfl,s3.trans s4,cA.same s4,wf,by omega,hzd z Od,Mi,(hds _ N4).1,λH4 s5 c5=>?_⟩;refine⟨_,z.2.num::done,rfl,s5,?_,?_,by rw[Hr];omega,λn m=>?_⟩
  .rw[efold];exact c5
  .rw[efold];exact wf.work Mi (hds _ N4).2
  .rw[a6 Oc,HL];rcases Hi.mp m with rfl|m
   .exact H_.mpr (.inr (HH.mpr rfl))
   .exact H_.mpr (.inl (hdone n m))
 .rintro σ H' ⟨v3,done,rfl,s3,cA,wf,O7,hdone⟩;have lz:zs.length=ds.length:=by rw[<-Ml,G8]
  rw[lz,Im]at cA wf;exact⟨_,rfl,k H' x s3 hx cA ⟨done,wf,by omega⟩⟩
def cG(S:LU)(R:LW)(LY:Nat)(v:List Nat)(ds:List LV):Vbptaj.Cell:=eI R (ds.filter λd=>bD S d R.num LY v)
inductive xm(c:Cs)(vs:List V)(H:Hp)(Q:VK)(E:XK):Prop|mk(L a r:Addr)(S:LU)(ds:List LV)(R:LW)(LY i:Nat)(v:List Nat)(_:vs=[.ref L,.ref a,.ref r,.int LY,.int i])(_:aY c H L S)(_:SOk S)(_:DL c (am S) H a ds)(_:ds.Sublist S.deeds)(_:(∀d∈ds,d.kind≠5))(_:bd c (am S) H r R)(_:R∈S.rights)(_:(am S)[i]?=some v)(_:∀H' x,ak H H'->H x=none->CellAt c H H' x (cG S R LY v ds)->(∃done,CWf (cG S R LY v ds) done/\done.length<=60)->Q (.ref x) H')
theorem gR{S:LU}(ok:SOk S){ds:List LV}(h:ds.Sublist S.deeds)(h5:∀d∈ds,d.kind≠5):(ds.map (·.num)).Nodup/\ds.length<=60/\∀d∈ds,d.kind<=4/\(d.kind<=2->d.giver<=20/\d.taker<=20):=
 ⟨JE (KJ _ h) ok.dNo,Hv h.length_le ok.dLe,λd m=>⟨by have:=ok.dKi d (h.subset m);have:=h5 d m;omega,λhk=>by have:=ok.dPe d (h.subset m) hk;omega⟩⟩
theorem kZ(T:Txt P w K mg c):T.F2.H P w base 6 (xm c):=by refine aS T.F2 ["ledger","deeds","right","land","place"] ?_;rintro _ _ _ _ _ H vs Q E hr _ _ _ nd ⟨L,a,r,S,ds,R,LY,i,v,rfl,hL,ok,dl,MC,h5,hR,hRm,hv,k⟩;refine⟨_,(rt (az (ko T) hr (ag (pv 2) (ag (az (iJ T) hr (ag (pv 0) (ag (pv 1) (ag (pv 2) (p2 3 4))))) aq)))),?_⟩;obtain⟨f1,f2,f3⟩:=gR ok MC h5;refine⟨_,rfl,_,rfl,_,rfl,_,rfl,_,rfl,_,rfl,L,a,r,S,ds,R,LY,i,v,rfl,hL,ok,dl,λd m=>⟨MC.subset m,h5 d m⟩,by omega,hR,hv,λH1 D s1 hD Nb=>?_⟩;have ME:(ds.filter λd=>bD S d R.num LY v).Sublist S.deeds:=Ip.trans MC;obtain⟨g1,g2,g3⟩:=gR ok ME λd m=>h5 d (HK.mp m).1;have ow:=ok.rOw R hRm;refine⟨r,D,R,_,am S,rfl,hR.same s1,Nb,nJ ⟨ow.1,ow.2.1⟩,g1,g2,g3,λH2 x s2 hx cA wf=>k H2 x (s1.trans s2) (s1.free hx) (cA.base λb o e e0=>s1.free e0) wf⟩
def nh(C:Vbptaj.Cell)(d:LV):Str:=if d.kind=1 then(if 0<partsOf C.hold d.giver then "wholly"else "not at all")else if Vbptaj.freeOf C d.giver=0 then "not at all"else if d.parts<=Vbptaj.freeOf C d.giver then "wholly"else "in part"
inductive ur(c:Cs)(vs:List V)(H:Hp)(Q:VK)(E:XK):Prop|mk(H0:Hp)(x y:Addr)(C:Vbptaj.Cell)(d:LV)(vr:List (List Nat))(done:List Nat)(_:vs=[.ref x,.ref y])(_:CellAt c H0 H x C)(_:CWf C done)(_:done.length<=60)(_:b0 c vr H y d)(_:∀H',ak H H'->Q (.str (nh C d)) H')
theorem vE(T:Txt P w K mg c):T.F3.H P w base 2 (ur c):=by
 refine aS T.F3 ["cell","deed","free"] ?_;rintro _ _ _ _ _ H vs Q E hr hu _ _ nd ⟨H0,x,y,C,d,vr,done,rfl,hCA,wf,M9,⟨dy,yb,yc,hy,hyb,hyc⟩,k⟩
 refine⟨_,(aj (a9 (aA bY (fv 1) (bf rfl T.GA) (aD _)) (rt (nE (gK (il hu (fv 1) (fv 0))) (iK rfl T.G0) (iK rfl T.G4))) aM)
 (aj (aO 2 nd (az (iE T) hr (ag (pv 0) (ag (fv 1) aq))))
 (aj (a9 (aA bY (pv 2) aI (aD _)) (rt (iK rfl T.G4)) aM)
 (rt (nE (aA r9 (pv 2) (fv 1) (aD _)) (iK rfl T.G0) (iK rfl T.G3)))))),?_⟩
 have hll:=wf.lockLen;have Pz:=wf.fre d.giver;obtain⟨dx,ah,al,ab,ad,ps,ls,bk,ts,hC,Mo⟩:=id hCA;unfold nh at k;refine⟨_,rfl,rfl,hy,T.Deed.o,rfl,rfl,_,rfl,aP (λh1=>?_) λh1=>?_⟩
 .have k1:d.kind=1:=by have:=(cH d.kind 1).symm.trans h1;simpa using this
  rw[Hc k1]at k;refine⟨_,rfl,rfl,hy,T.Deed.o,rfl,_,rfl,rfl,hC.obj,T.Cell.o,rfl,ah,_,rfl,bP.k (k:=Sum.inl (d.giver:Int)) hC.held,_,rfl,?_⟩;rw[held_in wf hC.hPm];refine aP (λh2=>?_) λh2=>?_
  .rw[Hc (Hb h2)]at k;exact k H (ak.refl _)
  .rw[G9 (λz=>h2 (He z))]at k;exact k H (ak.refl _)
 .have k1:¬d.kind=1:=λz=>h1 (by rw[z];rfl);rw[G9 k1]at k;refine⟨_,rfl,_,rfl,rfl,hy,T.Deed.o,rfl,H0,x,C,d.giver,rfl,hCA,b_ wf.srt,by omega,λH1 s1=>?_⟩;have ef:(partsOf C.hold d.giver:Int)-(lockedOf C d.giver:Int)=(Vbptaj.freeOf C d.giver:Nat):=by unfold Vbptaj.freeOf;omega
  rw[ef];have Nk:=s1 _ _ hy;refine⟨_,rfl,rfl,_,rfl,aP (λh2=>?_) λh2=>?_⟩
  .have hz:Vbptaj.freeOf C d.giver=0:=by have:=(cH (Vbptaj.freeOf C d.giver) 0).symm.trans h2;simpa using this
   rw[Hc hz]at k;exact k H1 s1
  .have hz:¬Vbptaj.freeOf C d.giver=0:=λz=>h2 (by rw[z];rfl);rw[G9 hz]at k;refine⟨_,rfl,_,rfl,rfl,Nk,T.Deed.o,rfl,_,_,rfl,rfl,_,rfl,aP (λh3=>?_) λh3=>?_⟩
   .have h3':=Hb h3;rw[Hc (by omega)]at k;exact k H1 s1
   .rw[G9 (λz=>h3 (He (by omega)))]at k;exact k H1 s1
end
end Wh
namespace Wh
open Vbptaj
theorem jZ:∀{l:List Nat},z∈putNum x l↔z=x\/z∈l
 |[]=>by unfold putNum;simp
 |y::l=>by
  unfold putNum;split
  .simp
  .split
   .rename_i h;subst h;simp
   .rw[Hi,jZ,Hi];constructor
    .rintro(h|h|h)
     .exact .inr (.inl h)
     .exact .inl h
     .exact .inr (.inr h)
    .rintro(h|h|h)
     .exact .inr (.inl h)
     .exact .inl h
     .exact .inr (.inr h)
theorem oO:∀{l:List Nat},l.Pairwise (·<·)->(putNum x l).Pairwise (·<·)
 |[],_=>IG _ _
 |y::l,h=>by
  have h':=h;rw[HF]at h;unfold putNum;split
  .rename_i hxy;refine HF.mpr ⟨λz hz=>?_,h'⟩;rcases Hi.mp hz with rfl|hz
   .exact hxy
   .exact K3 hxy (h.1 z hz)
  .split
   .exact h'
   .rename_i h1 h2;refine HF.mpr ⟨λz hz=>?_,oO h.2⟩;rcases jZ.mp hz with rfl|hz
    .omega
    .exact h.1 z hz
theorem mN:∀(l r:List Nat),r.Pairwise (·<·)->(l.foldl (λr x=>putNum x r) r).Pairwise (·<·)/\∀z,z∈l.foldl (λr x=>putNum x r) r↔z∈l\/z∈r
 |[],r,h=>⟨h,λz=>by simp⟩
 |x::l,r,h=>by
  obtain⟨h1,h2⟩:=mN l (putNum x r) (oO h);refine⟨h1,λz=>?_⟩;rw[IV,h2,jZ,Hi];constructor
  .rintro(h|h|h)
   .exact .inl (.inr h)
   .exact .inl (.inl h)
   .exact .inr h
  .rintro((h|h)|h)
   .exact .inr (.inl h)
   .exact .inl h
   .exact .inr (.inr h)
theorem lJ(l:List Nat):(sorted l).Pairwise (·<·)/\∀z,z∈sorted l↔z∈l:=by obtain⟨h1,h2⟩:=mN l [] Pairwise.nil;exact⟨h1,λz=>by rw[sorted,h2];simp⟩
theorem oK:∀{l m:List Nat},l.Pairwise (·<·)->m.Pairwise (·<·)->(∀z,z∈l↔z∈m)->l=m
 |[],[],_,_,_=>rfl
 |[],b::m,_,_,h=>absurd ((h b).mpr (Hk ..)) (by simp)
 |a::l,[],_,_,h=>absurd ((h a).mp (Hk ..)) (by simp)
 |a::l,b::m,h1,h2,h=>by
  rw[HF]at h1 h2;have ab:a=b:=by
   rcases Hi.mp ((h a).mp (Hk ..))with e|e
   .exact e
   .rcases Hi.mp ((h b).mpr (Hk ..))with e2|e2
    .exact e2.symm
    .have:=h2.1 a e;have:=h1.1 b e2;omega
  subst ab;rw[oK h1.2 h2.2 λz=>?_];constructor
  .intro hz;rcases Hi.mp ((h z).mp (Hh _ hz))with e|e
   .have:=h1.1 z hz;omega
   .exact e
  .intro hz;rcases Hi.mp ((h z).mpr (Hh _ hz))with e|e
   .have:=h2.1 z hz;omega
   .exact e
theorem lK(pm:ms.Perm ks)(nd:ks.Nodup)(pw:ms.Pairwise (·<=·))(mem:∀x,x∈ks↔x∈Vbptaj.ints ns)(hl:∀n,n∈ns↔n∈l):ms=Vbptaj.ints (sorted l):=by
 have hms:∀x,x∈ms↔x∈Vbptaj.ints ns:=λx=>pm.mem_iff.trans (mem x);have OQ:∀x∈ms,0<=x:=λx hx=>by obtain⟨n,_,rfl⟩:=HA.mp ((hms x).mp hx);omega
 have nd':ms.Nodup:=pm.nodup_iff.mpr nd;have e1:ms=Vbptaj.ints (ms.map toNat):=by
  unfold Vbptaj.ints;rw[HM]
  conv=>lhs;rw[<-map_id ms]
  apply J9;intro x hx;have:=OQ x hx;show x=((x.toNat:Nat):Int);omega
 have e2:ms.map toNat=sorted l:=by
  obtain⟨s1,s2⟩:=lJ l;refine oK ?_ s1 λz=>?_
  .rw[IL];have both:ms.Pairwise λa b=>a<=b/\a≠b:=Pairwise.and pw nd';refine J2 ?_ both;intro a b ha hb h;have:=OQ a ha;have:=OQ b hb;have h1:=h.1;have h2:=h.2;omega
  .rw[s2,<-hl,HA];constructor
   .rintro⟨x,hx,rfl⟩;obtain⟨n,hn,rfl⟩:=HA.mp ((hms x).mp hx);rw[JB];exact hn
   .intro hz;exact⟨(z:Int),(hms _).mpr (HA.mpr ⟨z,hz,rfl⟩),JB z⟩
 rw[e1,e2]
abbrev Srt(l:List Deed):Prop:=l.Pairwise λa b=>a.day<b.day\/(a.day=b.day/\a.num<b.num)
theorem jh(h:a.day<b.day\/(a.day=b.day/\a.num<b.num)):cj a b=true/\cj b a=false:=by
 unfold cj;constructor
 .simp;omega
 .simp;omega
theorem mr(a:Deed):cj a a=false:=by unfold cj;simp
def after(e:Deed)(l:List Deed):List Deed:=(l.dropWhile λd=>d.num !=e.num).drop 1
theorem nS:∀{all:List Deed}{e:Deed},Srt all->(all.map (·.num)).Nodup->e∈all->after e all=all.filter (λd=>cj e d)/\((all.dropWhile λd=>d.num !=e.num).filter λd=>d.num !=e.num&&d.giver==e.taker)=all.filter λd=>d.giver==e.taker&&cj e d
 |[],e,_,_,m=>by cases m
 |a::r,e,hs,hn,m=>by
  have hs':=hs;have hs:=HF.mp hs;rw[Hf,Ik]at hn;by_cases he:a.num=e.num
  .have ae:a=e:=by
    rcases Hi.mp m with h|h
    .exact h.symm
    .exact absurd (HA.mpr ⟨e,h,he.symm⟩) hn.1
   subst ae;have dw:(a::r).dropWhile (λd=>d.num !=a.num)=a::r:=by rw[List.dropWhile_cons,G9 (by simp)]
   have f1:(a::r).filter (λd=>cj a d)=r:=by
    have:¬cj a a=true:=by rw[mr];simp
    rw[Hy,G9 this,J8];exact λd hd=>(jh (hs.1 d hd)).1
   refine⟨?_,?_⟩
   .unfold after;rw[dw,f1];rfl
   .rw[dw,Hy,Hy,G9 (by simp),G9 (by rw[mr];simp)];apply JL;intro d hd;have h1:(d.num !=a.num)=true:=by have:d.num≠a.num:=λz=>hn.1 (z▸HA.mpr ⟨d,hd,rfl⟩);simpa using this
    rw[h1,(jh (hs.1 d hd)).1,HE,HG]
  .have m':e∈r:=by
    rcases Hi.mp m with h|h
    .exact absurd (by rw[h]) he
    .exact h
   have hb:cj e a=false:=(jh (hs.1 e m')).2;obtain⟨h1,h2⟩:=nS hs.2 hn.2 m';have dw:(a::r).dropWhile (λd=>d.num !=e.num)=r.dropWhile λd=>d.num !=e.num:=by rw[List.dropWhile_cons,Hc (by simpa using he)]
   refine⟨?_,?_⟩
   .unfold after;rw[dw,Hy,G9 (by rw[hb];simp)];exact h1
   .rw[dw,Hy,G9 (by rw[hb];simp)];exact h2
theorem uQ(e:Deed)(l:List Deed):after e l <:+l:=(List.drop_suffix _ _).trans (List.dropWhile_suffix _)
theorem vQ(hs:Srt all)(hn:(all.map (·.num)).Nodup)(ht:t <:+all)(he:e∈t):(all.filter λd=>cj e d).length<t.length:=by
 obtain⟨pre,rfl⟩:=ht;rw[IK];have hp:pre.filter (λd=>cj e d)=[]:=by rw[Kd];intro d hd;have:=(List.pairwise_append.mp hs).2.2 d hd e he;rw[(jh this).2];simp
 rw[hp,List.nil_append];have:(t.filter λd=>cj e d).length<t.length:=by rw[List.length_filter_lt_length_iff_exists];exact⟨e,he,by rw[mr];simp⟩
 exact this
theorem mJ(hs:Srt all)(hn:(all.map (·.num)).Nodup)(he:e∈all):(all.filter λd=>cj e d) <:+all:=by rw[<-(nS hs hn he).1];exact uQ e all
theorem AR:ask all day u (f+1) l p=(let Ma:=l.filter λd=>onDay d day
  let early:=Ma.takeWhile λd=> !d.sole
  if(early.any λd=>d.taker==u)=true then none
  else match Ma.find? λd=>d.sole with
   |none=>some p
   |some e=>if e.taker=u then none else ask all day u f ((all.dropWhile λd=>d.num !=e.num).filter λd=>d.num !=e.num&&d.giver==e.taker) e.taker):=rfl
theorem qm:∀(l:List Deed),(l.find? λd=>d.sole)=l[(l.takeWhile λd=> !d.sole).length]?
 |[]=>rfl
 |a::l=>by
  rw[Jc,J_];cases h:a.sole with
  |true=>simp
  |false=>simp[qm l]
end Wh
namespace Wh
open PySem PySem.Spec PyProof.Rows L2
theorem vV(b:Bool):decide (V.int (fB b)=V.int 1)=b:=by cases b<;>rfl
section
variable{P:Program}{w:World}{K:LS}{mg:Str->Option Value}{base:Heap}{c:Cs}
def pA(day:Nat)(d:LV):Bool:=d.kind==1&&onDay d day
inductive lY(c:Cs)(vs:List V)(H:Hp)(Q:VK)(E:XK):Prop|mk(a:Addr)(ds:List LV)(vr:List (List Nat))(day:Nat)(_:vs=[.ref a,.int day])(_:DL c vr H a ds)(_:ds.length<=1000)(_:∀H' D,ak H H'->H D=none->DL c vr H' D (ds.filter (pA day))->Q (.ref D) H')
theorem mG(T:Txt P w K mg c):T.F4.H P w base 1 (lY c):=by
 refine aS T.F4 ["deeds","day","deed"] ?_;rintro _ _ _ _ _ H vs Q E hr _ _ _ nd ⟨a,ds,vr,day,rfl,dl,hz,k⟩
 refine⟨_,(rt (bQ rfl nd (a8 (pv 0)) (aX (own:=[("deed",2)]) (by rfl))
  (by exact λ_ _ _ _ _=>(aT 2 nd))
  (by exact λ_ _ _ _ _=>(cC (PW.pt (kC (aA bY (bv (K:=K) rfl (pv 2) rfl) (bf rfl T.GA) (aD _)) (jo (tj fF fF (bv (K:=K) rfl (pv 2) rfl) (pv 1) (bv (K:=K) rfl (pv 2) rfl)))))))
  (by exact λ_ _ _ _ _=>(pv 2)))),?_⟩
 obtain⟨zs,_,Ml,_⟩:=id dl;refine cn (bq ?_);refine⟨_,rfl,a,rfl,⟨_,SqL.of Ml⟩,?_⟩;refine dF (pA day) dl hz ?_ λD3 H3 MK s3 NO=>k H3 D3 s3 MK NO;rintro x d H' R _ s' ⟨dx,ab,ac,hx,MP,MX⟩ k';refine⟨rfl,?_⟩;have kk:=k' H' (ak.refl _);unfold pA onDay at kk;refine⟨_,rfl,rfl,hx,T.Deed.o,rfl,rfl,_,rfl,aP (λh1=>?_) λh1=>eh (kk.2 ?_)⟩
 .rw[<-cH d.kind 1]at kk;have h1:decide (V.int (d.kind:Int)=V.int ((1:Nat):Int))=true:=h1;rw[h1,HE]at kk;refine⟨_,rfl,rfl,hx,T.Deed.o,rfl,_,rfl,_,_,rfl,rfl,_,rfl,aP (λq1=>?_) λq1=>?_⟩
  .refine⟨_,rfl,rfl,hx,T.Deed.o,rfl,_,_,rfl,rfl,_,rfl,aP (λq2=>⟨_,rfl,kk.1 ?_⟩) λq2=>kk.2 ?_⟩
   .have q1:=Hb q1;have q2:=Hb q2;exact He (by omega)
   .exact Hw λz=>q2 (He (by omega))
  .refine⟨_,rfl,eh (kk.2 ?_)⟩;exact Hw λz=>q1 (He (by omega))
 .rw[<-cH d.kind 1];have h1:decide (V.int (d.kind:Int)=V.int ((1:Nat):Int))=false:=dM h1;rw[h1,HV]
inductive lZ(c:Cs)(vs:List V)(H:Hp)(Q:VK)(E:XK):Prop|mk(a x:Addr)(ds:List LV)(e:LV)(vr:List (List Nat))(_:vs=[.ref a,.ref x])(_:DL c vr H a ds)(_:b0 c vr H x e)(_:ds.length<=1000)(_:∀H' D,ak H H'->H D=none->DL c vr H' D (ds.filter λd=>d.giver==e.taker&&cj e d)->Q (.ref D) H')
theorem mH(T:Txt P w K mg c):T.F5.H P w base 2 (lZ c):=by
 refine aS T.F5 ["licences","sole","given","licence"] ?_;rintro _ _ _ _ _ H vs Q E hr _ _ hu0 nd ⟨a,x,ds,e,vr,rfl,dl,he,hz,k⟩
 refine⟨_,(aj (iw (i:=2) rfl nd rfl rfl (jm rfl rfl rfl rfl) (a8 (pv 0)) (aX (own:=[("licence",3)]) (by rfl))
  (by exact λ_ _ _ _ _=>(aT 3 nd))
  (by exact λ_ _ _ _ _=>(cC (aA bY (bv (K:=K) rfl (pv 3) rfl) (bv (K:=K) rfl (pv 1) rfl) (aD _))))
  (by exact λ_ _ _ _ _=>(pv 3)))
 (rt (bQ rfl nd (a8 (pv 2)) (aX (own:=[("licence",3)]) (by rfl))
  (by exact λ_ _ _ _ _=>(aT 3 nd))
  (by exact λ_ _ _ _ _=>(cC (aA (De (K:=K) rfl hu0) (az (eQ T) hr (p1 3)) (az (eQ T) hr (p1 1)) (aD _))))
  (by exact λ_ _ _ _ _=>(pv 3))))),?_⟩
 obtain⟨zs,_,Ml,_⟩:=id dl;obtain⟨dx,xb,xc,hx,hxb,hxc⟩:=id he;refine sk (sw (bq ?_));refine⟨_,rfl,a,rfl,⟨_,SqL.of Ml⟩,?_⟩;refine dF (λd=>d.giver==e.taker) dl hz ?_ λD3 H3 MK s3 NO=>?_
 .rintro y d H' R _ s' ⟨dy,yb,yc,hy,hyb,hyc⟩ k';refine⟨rfl,?_⟩;have kk:=k' H' (ak.refl _);have Nt:=s' _ _ hx;refine⟨_,rfl,rfl,hy,T.Deed.o,rfl,_,rfl,rfl,Nt,T.Deed.o,rfl,rfl,_,rfl,aP (λh=>⟨_,rfl,kk.1 (by rw[<-cH];exact h)⟩) λh=>kk.2 (by rw[<-cH];exact dM h)⟩
 .dsimp only[bp,b6,cu,tC,bu];obtain⟨zs3,_,hzs3,_⟩:=id NO;refine cn (bq ?_);refine⟨_,rfl,D3,rfl,⟨_,SqL.of hzs3⟩,?_⟩;refine dF (λd=>cj e d) NO (Hv (Hz _ _) hz) ?_ λD4 H4 OD s4 Pa=>?_
  .rintro y d H' R _ s' hd k';refine⟨rfl,?_⟩;refine⟨_,rfl,y,d,vr,rfl,hd,λH2 p s2 hp=>?_⟩;refine⟨_,rfl,x,e,vr,rfl,((he.same s3).same s').same s2,λH5 q s5 hq=>?_⟩;have kk:=k' H5 (s2.trans s5);refine⟨p,q,[(d.day:Int),(d.num:Int)],[(e.day:Int),(e.num:Int)],rfl,rfl,SqT.of (s5 _ _ hp),SqT.of hq,_,rfl,?_⟩;rw[wk];exact aP (λh=>⟨_,rfl,kk.1 h⟩) λh=>kk.2 (dM h)
  .rw[fU]at Pa;exact k H4 D4 (s3.trans s4) (s3.free OD) Pa
inductive mz(c:Cs)(vs:List V)(H:Hp)(Q:VK)(E:XK):Prop|mk(a:Addr)(ds:List LV)(vr:List (List Nat))(_:vs=[.ref a])(_:DL c vr H a ds)(_:ds.length<=1000)(_:∀H' D,ak H H'->H D=none->DL c vr H' D (ds.takeWhile λd=> !d.sole)->Q (.ref D) H')
theorem gx{α:Type}(p:α->Bool):∀(l:List α)(i:Nat),(∀x∈l.take i,p x=true)->(∀x,l[i]?=some x->p x=false)->l.takeWhile p=l.take i
 |[],i,_,_=>by simp
 |a::l,0,_,h=>by rw[J_,G9 (by rw[h a rfl];simp)];rfl
 |a::l,i+1,h,h2=>by rw[J_,Hc (h a (by simp)),gx p l i (λx hx=>h x (by simp[hx])) λx hx=>h2 x hx];rfl
theorem nX(T:Txt P w K mg c):T.F6.H P w base 1 (mz c):=by
 refine aS T.F6 ["licences","early","licence"] ?_;rintro _ _ _ _ s H vs Q E hr _ _ _ nd ⟨a,ds,vr,rfl,⟨zs,Ml,ha,hzd⟩,hz,k⟩
 refine⟨_,(aj (aO 1 nd (aW aq))
 (aj (cy HI rfl (a8 (pv 0)) (aT 2 nd)
 (aj (a9 (aA bY (fv 2) aI (aD _)) (aL Aa) aM)
 (aL (bU (dG Ib Ix ID fZ (pv 1) (p1 2))))))
 (rt (pv 1)))),?_⟩
 refine⟨HJ _,λD hD=>?_⟩;have s1:ak H (upd H D (.lst [])):=ak.upd hD;dsimp only[bp,b6,cu,tC,bu];refine cw ?_;refine⟨_,rfl,a,rfl,⟨_,SqL.of (s1 _ _ ha)⟩,?_⟩;have lz:zs.length=ds.length:=by rw[<-Ml,G8]
 have fin:∀(i:Nat)(H':Hp)(σ:L2.St),ak H H'->H' D=some (.lst ((zs.take i).map λz=>V.ref z.1))->ds.takeWhile (λd=> !d.sole)=ds.take i->Q (.ref D) H':=λi H' σ s hl e=>by refine k H' D s hD ⟨zs.take i,?_,hl,λz m=>(hzd z (Kr m)).same s⟩;rw[e,<-Ml,map_take]
 refine cB (dQ (K:=K) (H1:=H) ha) (λi σ H'=>∃v2,σ=[some (.ref a),some (.ref D),v2]/\ak H H'/\H' D=some (.lst ((zs.take i).map λz=>V.ref z.1))/\∀d∈ds.take i,(!d.sole)=true) ?_ ?_ ?_ ?_
 .exact⟨none,rfl,s1,aa,λd m=>by simp at m⟩
 .rintro i σ H' _ ⟨_,_,s,_⟩;exact s
 .rintro i v σ H2 H3 hi ⟨v2,rfl,s2,MO,Mi⟩ s3 ⟨z,hzi,rfl⟩;have Od:=Hl hzi;have Oc:ds[i]?=some z.2:=by rw[<-Ml,Hd,hzi];rfl
  have s23:=s2.trans s3;obtain⟨dx,xb,xc,hx,hxb,hxc⟩:=(hzd z Od).same s23;have MK:=s3 _ _ MO;refine⟨_,rfl,rfl,hx,T.Deed.o,rfl,rfl,_,rfl,?_⟩;rw[vV];refine aP (λh=>?_) λh=>?_
  .refine⟨_,rfl,fin i H3 [] s23 MK (gx _ ds i Mi λx hx=>?_)⟩;rw[Oc]at hx;cases hx;rw[h];rfl
  .refine⟨_,rfl,.inl ⟨rfl,_,SqL.of MK⟩,_,rfl,D,_,_,rfl,rfl,MK,?_,?_⟩
   .rw[G8,Iv];exact aG (by omega)
   .refine⟨_,rfl,a_ s23 hD,?_,λd m=>?_⟩
    .rw[aa,a6 hzi,HL];rfl
    .rw[a6 Oc]at m;rcases H_.mp m with m|m
     .exact Mi d m
     .rw[HH.mp m,dM h];rfl
 .rintro σ H' ⟨v2,rfl,s2,MO,Mi⟩;refine⟨_,rfl,fin zs.length H' [] s2 MO (gx _ ds _ Mi λx hx=>?_)⟩;rw[lz,IH (Hu _)]at hx;cases hx
def kr:Option Nat->V
 |none=>.non
 |some n=>.int (n:Nat)
inductive uv(c:Cs)(vs:List V)(H:Hp)(Q:VK)(E:XK):Prop|mk(u p:Nat)(a b:Addr)(all l:List LV)(day:Nat)(vr:List (List Nat))(_:vs=[.int u,.int p,.ref a,.ref b])(_:DL c vr H a (l.filter λd=>onDay d day))(_:DL c vr H b (all.filter λd=>onDay d day))(_:l.Sublist all)(_:Srt all)(_:(all.map (·.num)).Nodup)(_:all.length<=60)(_:∀H',ak H H'->Q (kr (Vbptaj.ask all day u (all.length+1) l p)) H')
theorem vF(T:Txt P w K mg c):T.F7.H P w base 3 (uv c):=by
 have B:=T.B;refine aS T.F7 ["person","holder","among","licences","asked","early","licence","sole"] ?_;rintro f _ _ _ s H vs Q E hr _ _ _ nd ⟨u,p,a,b,all,l,day,vr,rfl,dla,dlb,MC,Nc,MU,hz,k⟩
 refine⟨_,(aj (aO 4 nd (pv 1))
 (aL (nz HI (eL eR)
 (aj (aO 5 nd (az (nX T) hr (p1 2)))
 (aj (a9 (aA iO (pv 0) (bQ rfl nd (a8 (pv 5)) (aX (own:=[("licence",6)]) (by rfl))
  (by exact λ_ _ _ _ _=>(aT 6 nd))
  (by exact λ_ _ _ _ _=>b7)
  (by exact λ_ _ _ _ _=>(bv (K:=K) rfl (pv 6) rfl))) (by with_unfolding_all rfl)) (rt fj) aM)
 (aj (a9 (aA bY (aK aV (by rfl) B.q Ig (p1 5)) (aK aV (by rfl) B.q Ig (p1 2)) (aD _)) (rt (pv 4)) aM)
 (aj (aO 7 nd (cr cD (pv 2) (aK aV (by rfl) B.q Ig (p1 5)) (λ_ _=>rfl)))
 (aj (a9 (aA bY (fv 7) (pv 0) (aD _)) (rt fj) aM)
 (aj (aO 4 nd (fv 7))
 (aL (aO 2 nd (az (mH T) hr (p2 3 7))))))))))))),?_⟩
 refine⟨_,rfl,?_⟩
 refine⟨λm σ H'=>∃(p':Nat)(a':Addr)(l' t:List LV)(v5 v6 v7:Option V),σ=[some (.int (u:Nat)),some (.int (p:Nat)),some (.ref a'),some (.ref b),some (.int (p':Nat)),v5,v6,v7]/\ak H H'/\DL c vr H' a' (l'.filter λd=>onDay d day)/\l'.Sublist t/\t <:+all/\t.length<m/\
   Vbptaj.ask all day u m l' p'=Vbptaj.ask all day u (all.length+1) l p,⟨all.length+1,p,a,l,all,none,none,none,rfl,ak.refl _,dla,MC,List.suffix_refl _,IY _,rfl⟩,?_⟩
 rintro m σ H1 ⟨p',a',l',t,v5,v6,v7,rfl,s1,Nb,Mr,htt,Mq,Mv⟩;obtain⟨f,rfl⟩:∃f,m=f+1:=⟨m-1,by omega⟩;rw[AR]at Mv;dsimp only at Mv;generalize htd:(l'.filter λd=>onDay d day)=Ma at Mv Nb;have htl:Ma.length<=60:=by rw[<-htd];have:=Hz (λd=>onDay d day) l';have:=Mr.length_le;have:=htt.length_le;omega
 have fin:∀(o:Option Nat)(H':Hp),ak H H'->o=Vbptaj.ask all day u (all.length+1) l p->Q (kr o) H':=λo H' s e=>e▸k H' s;refine⟨_,rfl,bS ?_⟩
 refine⟨λσ' H'=>∃(p':Nat)(a':Addr)(l' t:List LV)(v5 v6 v7:Option V),σ'=[some (.int (u:Nat)),some (.int (p:Nat)),some (.ref a'),some (.ref b),some (.int (p':Nat)),v5,v6,v7]/\ak H H'/\DL c vr H' a' (l'.filter λd=>onDay d day)/\l'.Sublist t/\t <:+all/\t.length<f/\
   Vbptaj.ask all day u f l' p'=Vbptaj.ask all day u (all.length+1) l p,λσ' H' h=>⟨f,IY _,h⟩,?_⟩
 refine⟨_,rfl,a',Ma,vr,rfl,Nb,by omega,λH2 E2 s2 hE2 NN=>?_⟩;obtain⟨ze,hze,hE2l,hzed⟩:=id NN;have lze:ze.length=(Ma.takeWhile λd=> !d.sole).length:=by rw[<-hze,G8]
 have ltw:(Ma.takeWhile λd=> !d.sole).length<=Ma.length:=(List.takeWhile_prefix _).length_le;refine⟨_,rfl,?_⟩;refine bq ?_;refine⟨_,rfl,E2,rfl,⟨_,SqL.of hE2l⟩,?_⟩;refine bT ze (λ_=>true) (λz=>V.int (z.2.taker:Nat)) (dQ hE2l) (aG (by omega)) ?_ ?_
 .rintro i z v H' R hi s' ⟨z',Oy,rfl⟩ k';have e:z'=z:=Hg (Oy.symm.trans hi);subst e;obtain⟨dx,xb,xc,hx,hxb,hxc⟩:=(hzed z' (Hl hi)).same s';refine⟨rfl,ck (bS ?_)⟩;exact⟨_,rfl,rfl,hx,T.Deed.o,rfl,(k' H' (ak.refl _)).1 rfl⟩
 intro D3 H3 MK s3 Nd;rw[bh]at Nd;have eany:inV (V.int (u:Int)) (ze.map λz=>V.int (z.2.taker:Nat))=(Ma.takeWhile λd=> !d.sole).any λd=>d.taker==u:=by unfold inV;rw[<-hze,Kv,Kv];congr 1;funext z;show eqV (V.int (z.2.taker:Int)) (V.int (u:Int))=(z.2.taker==u);apply HD.mpr;simp[eqV];omega
 refine⟨D3,_,rfl,.inl (SqL.of Nd),rfl,Ij.mpr (λv hv=>by
  obtain⟨z,_,rfl⟩:=HA.mp hv
  rfl),_,rfl,?_⟩
 simp only[false_eq_true,if_false];rw[eany];have M6:=s1.trans (s2.trans s3);refine aP (λh1=>?_) λh1=>?_
 .rw[Hc h1]at Mv;exact fin none H3 M6 Mv
 rw[G9 h1]at Mv;have dl1':=Nb.same (s2.trans s3);obtain⟨za,hza,ha3,hzad⟩:=id dl1';have lza:za.length=Ma.length:=by rw[<-hza,G8]
 have hE3:=s3 _ _ hE2l;rw[qm]at Mv;refine⟨_,rfl,E2,_,rfl,.inl (SqL.of hE3),_,rfl,a',_,rfl,.inl (SqL.of ha3),rfl,_,rfl,aP (λh2=>?_) λh2=>?_⟩
 .rw[G8,G8,lze,lza]at h2;have e:(Ma.takeWhile λd=> !d.sole).length=Ma.length:=by have:=(cH _ _).symm.trans h2;simpa using this
  rw[e,IH (Hu _)]at Mv;exact⟨_,rfl,fin (some p') H3 M6 Mv⟩
 have MA:(Ma.takeWhile λd=> !d.sole).length<Ma.length:=by
  by_cases e:(Ma.takeWhile λd=> !d.sole).length=Ma.length
  .exfalso;apply h2;rw[G8,G8,lze,lza,e];exact He rfl
  .omega
 generalize hj:(Ma.takeWhile λd=> !d.sole).length=j at Mv MA lze;obtain⟨z,hzj⟩:∃z,za[j]?=some z:=⟨za[j]'(by omega),Hn (by omega)⟩;have htj:Ma[j]?=some z.2:=by rw[<-hza,Hd,hzj];rfl
 rw[htj]at Mv;dsimp only at Mv;obtain⟨dx,xb,xc,hx,hxb,hxc⟩:=id (hzad z (Hl hzj));refine⟨_,rfl,_,rfl,E2,_,rfl,.inl (SqL.of hE3),a',_,_,_,rfl,rfl,SqL.of ha3,aN (j:=j) (by rw[G8,lze]) (by rw[Hd,hzj];rfl),?_⟩;refine⟨_,rfl,rfl,hx,T.Deed.o,rfl,_,rfl,rfl,_,rfl,aP (λh3=>?_) λh3=>?_⟩
 .have e:z.2.taker=u:=by have:=(cH _ _).symm.trans h3;simpa using this
  rw[Hc e]at Mv;exact fin none H3 M6 Mv
 have hne2:¬z.2.taker=u:=λe=>h3 (by rw[e];exact He rfl);rw[G9 hne2]at Mv;have hzt:z.2∈Ma:=Hl htj;have hzl:z.2∈l':=by rw[<-htd]at hzt;exact(HK.mp hzt).1
 have hzT:z.2∈t:=Mr.subset hzl;have hzA:z.2∈all:=htt.subset hzT;have haf:=nS Nc MU hzA;rw[haf.2]at Mv;refine⟨_,rfl,rfl,hx,T.Deed.o,rfl,?_⟩;refine⟨_,rfl,_,rfl,b,z.1,_,z.2,vr,rfl,dlb.same M6,⟨dx,xb,xc,hx,hxb,hxc⟩,Hv (Hz _ _) (by omega),λH4 D4 s4 OD Pa=>?_⟩;refine⟨z.2.taker,D4,all.filter λd=>d.giver==z.2.taker&&cj z.2 d,all.filter λd=>cj z.2 d,_,_,_,rfl,M6.trans s4,?_,?_,mJ Nc MU hzA,?_,Mv⟩
 .rw[fU]at Pa⊢;have e:(λa:LV=>a.giver==z.2.taker&&cj z.2 a&&onDay a day)=λa=>onDay a day&&(a.giver==z.2.taker&&cj z.2 a):=by funext a;exact Jm _ _
  rw[e];exact Pa
 .rw[<-fU];have e:(all.filter λd=>cj z.2 d).filter (λd=>d.giver==z.2.taker)=(all.filter λd=>d.giver==z.2.taker).filter λd=>cj z.2 d:=by rw[Je,Je];congr 1;funext a;exact Jm _ _
  rw[<-e];exact Ip
 .have:=vQ Nc MU htt hzT;omega
theorem Bb(h:ta σ H λx H1=>wG H1 x Q):AX ta σ H Q:=h
def jl(c:Cs)(H:Hp)(x:Addr)(bound:List (Nat×Nat)):Prop:=∃dx ah al ab ad bk,H x=some (.ins c.Cell dx (wX ah al ab ad))/\H ab=some (.dK bk)/\∀p:Nat,(aQ bk (Sum.inl (p:Int))=none/\onP bound p=[])\/∃b,aQ bk (Sum.inl (p:Int))=some (.ref b)/\H b=some (.dK (dc (onP bound p)))
theorem jl.same{c:Cs}{H H':Hp}{x:Addr}{bound:List (Nat×Nat)}(h:jl c H x bound)(s:ak H H'):jl c H' x bound:=by obtain⟨dx,ah,al,ab,ad,bk,h1,h2,h3⟩:=h;exact⟨dx,ah,al,ab,ad,bk,s _ _ h1,s _ _ h2,λp=>(h3 p).imp id λ⟨b,e1,e2⟩=>⟨b,e1,s _ _ e2⟩⟩
theorem uD(b:List (Nat×Nat))(l p:Nat):(onP b p).contains l=b.contains (l,p):=by apply HD.mpr;rw[HZ,HZ];exact wg
theorem CellAt.bonds(h:CellAt c H0 H x C):jl c H x C.bound:=by obtain⟨dx,ah,al,ab,ad,ps,ls,bk,ts,h,_⟩:=h;exact⟨dx,ah,al,ab,ad,bk,h.obj,h.bond,λp=>(h.bAt p).imp id λ⟨b,e1,e2,_⟩=>⟨b,e1,e2⟩⟩
inductive kq(c:Cs)(vs:List V)(H:Hp)(Q:VK)(E:XK):Prop|mk(x a:Addr)(bound:List (Nat×Nat))(ds:List LV)(vr:List (List Nat))(p:Nat)(_:vs=[.ref x,.int p,.ref a])(_:jl c H x bound)(_:DL c vr H a ds)(_:ds.length<=1000)(_:∀H' D,ak H H'->H D=none->DL c vr H' D (ds.filter λd=>bound.contains (d.num,p))->Q (.ref D) H')
theorem gU(T:Txt P w K mg c):T.F9.H P w base 1 (kq c):=by
 refine aS T.F9 ["cell","person","licences","binding","licence"] ?_;rintro _ _ _ _ _ H vs Q E hr hu _ _ nd ⟨x,a,bound,ds,vr,p,rfl,⟨dx,ah,al,ab,ad,bk,hx,hb,hbs⟩,dl,hz,k⟩
 refine⟨_,(aj (aO 3 nd (iz hu (fv 0) (pv 1) cZ ⟨rfl,rfl,rfl,rfl⟩))
 (rt (bQ rfl nd (a8 (pv 2)) (aX (own:=[("licence",4)]) (by rfl))
  (by exact λ_ _ _ _ _=>(aT 4 nd))
  (by exact λ_ _ _ _ _=>(cC (gK (il hu (bv (K:=K) rfl (pv 4) rfl) (pv 3)))))
  (by exact λ_ _ _ _ _=>(pv 4))))),?_⟩
 refine⟨_,rfl,rfl,hx,T.Cell.o,rfl,ab,rfl,.inl ⟨_,.inl hb⟩,_,rfl,λq hq=>?_⟩;have s1:ak H (upd H q (.dK [])):=ak.upd hq;refine⟨_,bP.k (k:=Sum.inl (p:Int)) (s1 _ _ hb),?_⟩;obtain⟨g,hg1,hg2⟩:∃g,(aQ bk (Sum.inl (p:Int))).getD (.ref q)=.ref g/\(upd H q (.dK [])) g=some (.dK (dc (onP bound p))):=by
  rcases hbs p with⟨e1,e2⟩|⟨b,e1,e2⟩
  .exact⟨q,by rw[e1];rfl,by rw[aa,e2];rfl⟩
  .exact⟨b,by rw[e1];rfl,s1 _ _ e2⟩
 rw[hg1];dsimp only[bp,b6,cu,tC,bu];have Nb:=dl.same s1;obtain⟨zs,_,Ml,_⟩:=id Nb;refine cn (bq ?_);refine⟨_,rfl,a,rfl,⟨_,SqL.of Ml⟩,?_⟩;refine dF (λd=>bound.contains (d.num,p)) Nb hz ?_ λD3 H3 MK s3 NO=>k H3 D3 (s1.trans s3) (s1.free MK) NO;rintro y d H' R _ s' ⟨dy,yb,yc,hy,hyb,hyc⟩ k';refine⟨rfl,?_⟩;have kk:=k' H' (ak.refl _);refine⟨_,rfl,rfl,hy,T.Deed.o,rfl,_,rfl,g,_,rfl,bP.k (k:=Sum.inl (d.num:Int)) (s' _ _ hg2),_,rfl,?_⟩;rw[iN,uD];exact aP (λh=>⟨_,rfl,kk.1 h⟩) λh=>kk.2 (dM h)
inductive pZ(c:Cs)(vs:List V)(H:Hp)(Q:VK)(E:XK):Prop|mk(H0:Hp)(x a:Addr)(C:Vbptaj.Cell)(bs:List LV)(vr:List (List Nat))(u:Nat)(done:List Nat)(_:vs=[.int u,.ref x,.ref a])(_:CellAt c H0 H x C)(_:CWf C done)(_:DL c vr H a bs)(_:bs.length<=1000)(_:∀H',ak H H'->Q (.bl (decide (0<partsOf C.hold u)&& !(bs.any λd=>d.sole&&d.taker !=u))) H')
theorem rP(T:Txt P w K mg c):T.F8.H P w base 1 (pZ c):=by
 have B:=T.B;refine aS T.F8 ["person","cell","binding","licence"] ?_;rintro _ _ _ _ _ H vs Q E hr hu _ _ nd ⟨H0,x,a,C,bs,vr,u,done,rfl,⟨dx,ah,al,ab,ad,ps,ls,bk,ts,hC,Mo⟩,wf,dl,hz,k⟩
 refine⟨_,(aj (a9 (gK (kR hu (pv 0) (fv 1))) (rt eR) aM)
 (rt (Dc (aK (yl rfl) (by rfl) B.q ug (ag (bQ rfl nd (a8 (pv 2)) (aX (own:=[("licence",3)]) (by rfl))
  (by exact λ_ _ _ _ _=>(aT 3 nd))
  (by exact λ_ _ _ _ _=>b7)
  (by exact λ_ _ _ _ _=>(je (eV bY (bv (K:=K) rfl (pv 3) rfl) aI (aD _)) (kG (eV l7 (bv (K:=K) rfl (pv 3) rfl) (pv 0) (aD _)))))) aq))))),?_⟩
 refine⟨_,rfl,_,rfl,rfl,hC.obj,T.Cell.o,rfl,ah,_,rfl,bP.k (k:=Sum.inl (u:Int)) hC.held,_,rfl,?_⟩;rw[held_in wf hC.hPm];refine aP (λh=>?_) λh=>?_
 .have h':decide (0<partsOf C.hold u)=false:=by simpa using h
  rw[h',HV]at k;exact k H (ak.refl _)
 have h':decide (0<partsOf C.hold u)=true:=by
  cases hh:decide (0<partsOf C.hold u)with
  |true=>rfl
  |false=>rw[hh]at h;exact absurd rfl h
 rw[h',HE]at k;dsimp only[bp,b6,cu,tC,bu];obtain⟨zs,Ml,ha,hzd⟩:=id dl;have lz:zs.length=bs.length:=by rw[<-Ml,G8]
 refine cn (Bb (gA (dP (bq ?_))));refine⟨_,rfl,a,rfl,⟨_,SqL.of ha⟩,?_⟩;refine bT zs (λ_=>true) (λz=>V.bl (z.2.sole&&z.2.taker !=u)) (dQ ha) (aG (by omega)) ?_ ?_
 .rintro i z v H' R hi s' ⟨z',Oy,rfl⟩ k';have e:z'=z:=Hg (Oy.symm.trans hi);subst e;obtain⟨dy,xb,xc,hy,hxb,hxc⟩:=(hzd z' (Hl hi)).same s';refine⟨rfl,ck (bS ?_)⟩;have kk:=(k' H' (ak.refl _)).1 rfl;refine⟨_,rfl,rfl,hy,T.Deed.o,rfl,rfl,_,rfl,?_⟩;rw[vV];refine aP (λh1=>?_) λh1=>?_
  .refine⟨_,rfl,rfl,hy,T.Deed.o,rfl,_,rfl,rfl,?_⟩;exact Rbl kk (by rw[h1,HE,n8])
  .exact Rbl kk (by rw[dM h1,HV])
 .intro D H' hD s' hl;rw[bh]at hl;refine⟨D,zs.map (λz=>z.2.sole&&z.2.taker !=u),rfl,SqL.of (by rw[hl,HM];rfl),_,rfl,?_⟩;have e:(zs.map (λz=>z.2.sole&&z.2.taker !=u)).any id=bs.any λd=>d.sole&&d.taker !=u:=by rw[<-Ml,Kv,Kv];rfl
  rw[e];exact k H' s'
def zy(C:Vbptaj.Cell)(all:List LV)(day u:Nat):List Nat:=
 if 0<partsOf C.hold u/\((all.filter λd=>C.bound.contains (d.num,u)).any λd=>d.sole&&(onDay d day&&d.taker !=u))=false then []
 else C.hold.filterMap λh=>Vbptaj.ask all day u (all.length+1) (all.filter λd=>C.bound.contains (d.num,h.1)) h.1
inductive mE(c:Cs)(vs:List V)(H:Hp)(Q:VK)(E:XK):Prop|mk(u day:Nat)(r a:Addr)(R:LW)(ds:List LV)(vr:List (List Nat))(_:vs=[.int u,.ref r,.ref a,.int day])(_:bd c vr H r R)(_:DL c vr H a ds)(_:CWf (Vbptaj.fresh R) [])(_:(ds.map (·.num)).Nodup)(_:Srt ds)(_:ds.length<=60)(_:(∀d∈ds,d.kind<=4/\(d.kind<=2->d.giver<=20/\d.taker<=20)))(_:∀H' D ns,ak H H'->H D=none->H' D=some (.lst (nI ns))->ns.length<=21->(∀n,n∈ns↔n∈zy (eI R ds) (ds.filter λd=>d.kind==1) day u)->Q (.ref D) H')
theorem m5(day:Nat)(ds:List LV):ds.filter (pA day)=(ds.filter λd=>d.kind==1).filter λd=>onDay d day:=by rw[fU];rfl
theorem AS(o:Option Nat):(!decide (kr o=.non))=o.isSome:=by cases o<;>rfl
theorem nY(T:Txt P w K mg c):T.F_.H P w base 6 (mE c):=by
 refine aS T.F_ ["person","right","deeds","day","cell","licences","found","holder","asked"] ?_;rintro _ _ _ _ s H vs Q E hr _ _ _ nd ⟨u,day,r,a,R,ds,vr,rfl,hR,dl,wf0,MU,Nc,L3,hds,k⟩
 refine⟨_,(aj (aO 4 nd (az (ko T) hr (p2 1 2)))
 (aj (aO 5 nd (az (mG T) hr (p2 2 3)))
 (aj (a9 (eL (az (rP T) hr (ag (pv 0) (ag (pv 4) (ag (az (gU T) hr (ag (pv 4) (p2 0 5))) aq)))) (λ_=>rfl)) (rt (aW aq)) aM)
 (aj (pO (iw (i:=6) rfl nd rfl rfl (jm rfl rfl rfl rfl) (BD (fv 4)) (aX (own:=[("holder",7)]) (by rfl))
  (by exact λ_ _ _ _ _=>(aT 7 nd))
  (by exact λ_ _ _ _ _=>b7)
  (by exact λ_ _ _ _ _=>(az (vF T) hr (ag (pv 0) (ag (pv 7) (ag (az (gU T) hr (ag (pv 4) (p2 7 5))) (p1 5))))))))
 (rt (bQ rfl nd (a8 (pv 6)) (aX (own:=[("asked",8)]) (by rfl))
  (by exact λ_ _ _ _ _=>(aT 8 nd))
  (by exact λ_ _ _ _ _=>(cC (aA wb (pv 8) fj (aD _))))
  (by exact λ_ _ _ _ _=>(pv 8)))))))),?_⟩
 refine⟨_,rfl,_,rfl,r,a,R,ds,vr,rfl,hR,dl,wf0,MU,L3,hds,λH1 x s1 hx cA ⟨done,wf,O7⟩=>?_⟩;refine⟨_,rfl,_,rfl,a,ds,vr,day,rfl,dl.same s1,by omega,λH2 L s2 hL dL=>?_⟩;have cA2:=cA.same s2;have lL:(ds.filter (pA day)).length<=60:=Hv (Hz _ _) L3;refine⟨_,rfl,_,rfl,_,rfl,_,rfl,_,rfl,x,L,_,_,vr,u,rfl,cA2.bonds,dL,by omega,λH3 B3 s3 hB3 dB=>?_⟩;refine⟨H,x,B3,_,_,vr,u,done,rfl,cA2.same s3,wf,dB,Hv (Hz _ _) (by omega),λH4 s4=>⟨_,rfl,?_⟩⟩;generalize hC:eI R ds=C at*;generalize Md:(ds.filter λd=>d.kind==1)=all at k;have lall:all.length<=60:=by rw[<-Md];exact Hv (Hz _ _) L3
 have sall:all.Sublist ds:=by rw[<-Md];exact Ip
 have srtall:Srt all:=Lh sall Nc;have nodall:(all.map (·.num)).Nodup:=JE (KJ _ sall) MU;rw[m5,Md]at dB dL;have PB:=s1.trans (s2.trans (s3.trans s4));have eany:(((all.filter λd=>onDay d day).filter λd=>C.bound.contains (d.num,u)).any λd=>d.sole&&d.taker !=u)=((all.filter λd=>C.bound.contains (d.num,u)).any λd=>d.sole&&(onDay d day&&d.taker !=u)):=by rw[any_filter,any_filter,any_filter];congr 1;funext d;cases onDay d day<;>cases C.bound.contains (d.num,u)<;>cases d.sole<;>rfl
 have efl:((ds.filter (pA day)).filter λd=>C.bound.contains (d.num,u))=((all.filter λd=>onDay d day).filter λd=>C.bound.contains (d.num,u)):=by rw[m5,Md]
 rw[efl,eany];unfold zy at k;refine aP (λh=>?_) λh=>?_
 .have hc:0<partsOf C.hold u/\((all.filter λd=>C.bound.contains (d.num,u)).any λd=>d.sole&&(onDay d day&&d.taker !=u))=false:=by rw[Hq]at h;exact⟨Hb h.1,by simpa using h.2⟩
  rw[Hc hc]at k;refine⟨HJ _,λD hD=>k _ D [] (PB.trans (ak.upd hD)) (PB.free hD) aa (HJ _) λn=>Iff.rfl⟩
 have hc:¬(0<partsOf C.hold u/\((all.filter λd=>C.bound.contains (d.num,u)).any λd=>d.sole&&(onDay d day&&d.taker !=u))=false):=λz=>h (by rw[He z.1,z.2];rfl);rw[G9 hc]at k;have cA4:=(cA2.same s3).same s4;obtain⟨dx,ah,al,ab,ad,ps,ls,bk,ts,M4,Mo⟩:=id cA4;have bnd4:=cA4.bonds;have lps:ps.length<=21:=by rw[M4.hPm.length_eq];exact wf.holdLen
 have dL4:=(dL.same s3).same s4;dsimp only[bp,b6,cu,tC,bu];refine⟨ah,_,M4.held,Jy,λod=>?_⟩;refine bq ?_;have keep:∀y o,H4 y=some o->y≠ah->(upd H4 ah (.frz od (.dK (pN ps)))) y=some o:=λy o e n=>by rw[ai n];exact e
 have kd:∀y ds',(DL c vr H4 y ds')->DL c vr (upd H4 ah (.frz od (.dK (pN ps)))) y ds':=by rintro y ds' ⟨zs,h1,h2,h3⟩;refine⟨zs,h1,keep _ _ h2 (aF h2 M4.held),λz m=>?_⟩;obtain⟨dz,zb,zc,q1,q2,q3⟩:=h3 z m;exact⟨dz,zb,zc,keep _ _ q1 (aF q1 M4.held),keep _ _ q2 (aF q2 M4.held),keep _ _ q3 (aF q3 M4.held)⟩
 have bndF:jl c (upd H4 ah (.frz od (.dK (pN ps)))) x C.bound:=by refine⟨dx,ah,al,ab,ad,bk,keep _ _ M4.obj (aF M4.obj M4.held),keep _ _ M4.bond (Ho M4.n2),λp=>(M4.bAt p).imp id ?_⟩;rintro⟨b,e1,e2,_,e4,_⟩;exact⟨b,e1,keep _ _ e2 e4⟩
 have dLF:=kd _ _ dL4;refine⟨_,rfl,rfl,keep _ _ M4.obj (aF M4.obj M4.held),T.Cell.o,rfl,ah,od,rfl,.inl ⟨_,aa,?_⟩⟩;refine bT ps (λ_=>true) (λh=>kr (Vbptaj.ask all day u (all.length+1) (all.filter λd=>C.bound.contains (d.num,h.1)) h.1)) (Item:=λi v _=>∃k v',(pN ps)[i]?=some (k,v')/\v=kV k) ?_ (aG (by omega)) ?_ ?_
 .have q:=yW (d:=ah) (o:=od) (kvs:=pN ps) (G:=λH'=>ak (upd H4 ah (.frz od (.dK (pN ps)))) H') λH' s=>s _ _ aa;unfold pN at q⊢;rw[G8]at q;exact q
 .rintro i h v H' R' hi s' ⟨key,v',hkv,rfl⟩ k';unfold pN at hkv;rw[Hd,hi]at hkv;cases hkv;refine⟨rfl,ck (bS ?_)⟩;refine⟨_,rfl,_,rfl,_,rfl,_,rfl,_,rfl,x,L,_,_,vr,h.1,rfl,bndF.same s',dLF.same s',Hv (Hz _ _) (by omega),λH6 B6 s6 hB6 dB6=>?_⟩;have eB:((all.filter λd=>onDay d day).filter λd=>C.bound.contains (d.num,h.1))=(all.filter λd=>C.bound.contains (d.num,h.1)).filter λd=>onDay d day:=by rw[Je,Je];congr 1;funext d;exact Jm _ _
  rw[eB]at dB6;refine⟨_,rfl,u,h.1,B6,L,all,_,day,vr,rfl,dB6,(dLF.same s').same s6,Ip,srtall,nodall,lall,λH7 s7=>(k' H7 (s6.trans s7)).1 rfl⟩
 .intro D H' hD s' hl;rw[bh]at hl;have su:=pf M4.held s';have nD:D≠ah:=λe=>by rw[e,aa]at hD;cases hD
  have fD:H4 D=none:=by rwa[ai nD]at hD
  refine⟨s' _ _ aa,?_⟩;have N6:(upd H' ah (.dK (pN ps))) D=some (.lst (ps.map λh=>kr (Vbptaj.ask all day u (all.length+1) (all.filter λd=>C.bound.contains (d.num,h.1)) h.1))):=by rw[ai nD];exact hl
  dsimp only;refine cn (bq ?_);refine⟨_,rfl,D,rfl,⟨_,SqL.of N6⟩,?_⟩;refine bT ps (λh=>(Vbptaj.ask all day u (all.length+1) (all.filter λd=>C.bound.contains (d.num,h.1)) h.1).isSome) (λh=>V.int (((Vbptaj.ask all day u (all.length+1) (all.filter λd=>C.bound.contains (d.num,h.1)) h.1).getD 0:Nat))) (Item:=λi v _=>(ps.map λh=>kr (Vbptaj.ask all day u (all.length+1) (all.filter λd=>C.bound.contains (d.num,h.1)) h.1))[i]?=some v) ?_ (aG (by omega)) ?_ ?_
  .have q:=b9 (K:=K) (a:=D) (xs:=ps.map λh=>kr (Vbptaj.ask all day u (all.length+1) (all.filter λd=>C.bound.contains (d.num,h.1)) h.1)) (G:=λM0=>ak (upd H' ah (.dK (pN ps))) M0) λM0 s=>SqL.of (s _ _ N6);rw[G8]at q;exact q
  .intro i h v M0 R' hi O4 hv k';rw[Hd,hi]at hv;cases hv;refine⟨rfl,?_⟩;have kk:=k' M0 (ak.refl _);refine⟨_,rfl,rfl,_,rfl,?_⟩;rw[AS];cases ho:Vbptaj.ask all day u (all.length+1) (all.filter λd=>C.bound.contains (d.num,h.1)) h.1 with
   |none=>rw[ho]at kk;exact eh (kk.2 rfl)
   |some n=>
    rw[ho]at kk;have kk1:=kk.1 rfl;have kk2:R' (some (kr (Vbptaj.ask all day u (all.length+1) (all.filter λd=>C.bound.contains (d.num,h.1)) h.1))) M0:=by rw[ho];exact kk1
    exact bS ⟨_,rfl,kk2⟩
  .intro D2 H5 MO s5 hl2;refine k H5 D2 ((ps.filter λh=>(Vbptaj.ask all day u (all.length+1) (all.filter λd=>C.bound.contains (d.num,h.1)) h.1).isSome).map λh=>(Vbptaj.ask all day u (all.length+1) (all.filter λd=>C.bound.contains (d.num,h.1)) h.1).getD 0) (PB.trans (su.trans s5)) (PB.free (su.free MO)) ?_ ?_ λn=>?_
   .rw[hl2,d7,HM];rfl
   .rw[G8];exact Hv (Hz _ _) lps
   .rw[HA,Kh];constructor
    .rintro⟨h,hm,e⟩;obtain⟨hm1,hm2⟩:=HK.mp hm;refine⟨h,M4.hPm.mem_iff.mp hm1,?_⟩;cases ho:Vbptaj.ask all day u (all.length+1) (all.filter λd=>C.bound.contains (d.num,h.1)) h.1 with
     |none=>rw[ho]at hm2;cases hm2
     |some m=>rw[ho]at e;rw[<-e];rfl
    .rintro⟨h,hm,e⟩;exact⟨h,HK.mpr ⟨M4.hPm.mem_iff.mpr hm,by rw[e];rfl⟩,by rw[e];rfl⟩
end
theorem mK(S:LU)(C:Vbptaj.Cell)(d:LV):Vbptaj.work C (Vbptaj.target S d)=Vbptaj.work C d:=by
 unfold Vbptaj.target;split
 .split
  .rfl
  .rfl
 .rfl
def wkd(S:LU)(day n:Nat):List LV:=(counted S n).filter λd=>decide (d.day<=day)
theorem iT(S:LU)(R:LW)(LY:Nat)(v:List Nat)(day n:Nat):cG S R LY v (wkd S day n)=Vbptaj.cellAt S R LY v day n:=by
 unfold cG eI wkd Vbptaj.cellAt;rw[fU,List.foldl_filter];congr 1;funext C d;dsimp only;rw[mK];by_cases h:(Vbptaj.target S d).right=R.num/\d.day<=day/\Vbptaj.covers (Vbptaj.target S d) LY v=true
 .rw[Hc h];have e:(decide (d.day<=day)&&bD S d R.num LY v)=true:=by unfold bD;rw[He h.2.1,He h.1,h.2.2];rfl
  rw[Hc e]
 .rw[G9 h]
  have e:¬(decide (d.day<=day)&&bD S d R.num LY v)=true:=λq=>h (by
   unfold bD at q;rw[Hq,Hq]at q
   exact⟨Hb q.2.1,Hb q.1,q.2.2⟩)
  rw[G9 e]
theorem fw(S:LU)(n:Nat):(counted S n).Sublist S.deeds:=by unfold counted;exact Ip
theorem m7(S:LU)(n:Nat):∀d∈counted S n,d.kind≠5:=λd hd=>by unfold counted at hd;have:=(HK.mp hd).2;rw[Hq,Hq]at this;simpa using this.2.1
theorem gp(S:LU)(day n:Nat):(wkd S day n).Sublist S.deeds:=Ip.trans (fw S n)
theorem hZ(S:LU)(day n:Nat):∀d∈wkd S day n,d.kind≠5:=λd hd=>m7 S n d (HK.mp hd).1
theorem vq(S:LU)(R:LW)(LY:Nat)(v:List Nat)(day n:Nat):((wkd S day n).filter λd=>bD S d R.num LY v).filter (λd=>d.kind==1)=licences S R LY v day n:=by
 unfold wkd licences;rw[fU,fU];apply JL;intro d _;cases hk:d.kind==1 with
 |false=>rw[JY,JY];rfl
 |true=>
  have ML:d.kind=1:=by simpa using hk
  have et:Vbptaj.target S d=d:=by unfold Vbptaj.target;rw[G9 (by omega)]
  unfold bD;rw[et,HG,HE];have e2:decide (d.right=R.num)=(d.right==R.num):=by apply HD.mpr;simp
  rw[e2];cases decide (d.day<=day)<;>cases(d.right==R.num)<;>rfl
theorem vP(S:LU)(u:Nat)(R:LW)(LY:Nat)(v:List Nat)(day n:Nat):zy (eI R ((wkd S day n).filter λd=>bD S d R.num LY v)) (((wkd S day n).filter λd=>bD S d R.num LY v).filter λd=>d.kind==1) day u=askRight S u R LY v day n:=by have e:=iT S R LY v day n;unfold cG at e;rw[e,vq];rfl
def hide(H:Hp)(a:Addr):Hp:=λb=>if b=a then none else H b
theorem cq(h:b≠a):hide H a b=H b:=by unfold hide;rw[G9 h]
theorem dh:hide H a a=none:=by unfold hide;rw[Hc rfl]
theorem d3:ak (hide H a) H:=λb o e=>by
 unfold hide at e;split at e
 .cases e
 .exact e
theorem dv(s:ak H0 H)(h:H0 a=Option.none):ak H0 (hide H a):=λb o e=>by rw[cq (au e h)];exact s _ _ e
theorem bd.hide(h:bd c vr H x R)(hN:H N=some (.lst (nI ns)))(hv:vr≠[]):bd c vr (Wh.hide H N) x R:=by
 obtain⟨dx,ac,ao,h1,h2,h3⟩:=h;refine⟨dx,ac,ao,?_,?_,?_⟩
 .rw[cq (aF h1 hN)];exact h1
 .rw[cq (aF h2 hN λz=>?_)];exact h2;injection z with z;cases vr with
  |nil=>exact hv rfl
  |cons v vr=>
   rw[Hf,Hf]at z;cases ns with
   |nil=>cases z
   |cons n ns=>injection z with z _;cases z
 .rw[cq (aF h3 hN)];exact h3
section
variable{P:Program}{w:World}{K:LS}{mg:Str->Option Value}{base:Heap}{c:Cs}
inductive pi(c:Cs)(vs:List V)(H:Hp)(Q:VK)(E:XK):Prop|mk(L a:Addr)(S:LU)(u LY i day n:Nat)(v:List Nat)(_:vs=[.ref L,.ref a,.int u,.int LY,.int i,.int day])(_:aY c H L S)(_:SOk S)(_:DL c (am S) H a (wkd S day n))(_:(am S)[i]?=some v)(_:∀H' D,ak H H'->H D=none->H' D=some (.lst (nI (leave S u LY v day n)))->Q (.ref D) H')
theorem jx(T:Txt P w K mg c):T.Ga.H P w base 7 (pi c):=by
 have B:=T.B;refine aS T.Ga ["ledger","deeds","person","land","place","day","needed","right","covering"] ?_;rintro _ _ _ _ s H vs Q E hr _ _ _ nd ⟨L,a,S,u,LY,i0,day,n,v,rfl,hL,ok,dl,hv,k⟩
 refine⟨_,(aj (aO 6 nd (aW aq))
 (aj (cy HI rfl (a8 (az (fi T) hr (ag (pv 0) (ag (pv 3) (p2 4 5))))) (aT 7 nd)
 (aj (aO 8 nd (az (iJ T) hr (ag (pv 0) (ag (pv 1) (ag (pv 7) (p2 3 4))))))
 (aL (bU (dG Ib Jl JC fY (pv 6) (ag (az (nY T) hr (ag (pv 2) (ag (pv 7) (p2 8 5)))) aq))))))
 (rt (aK (lV rfl) (by rfl) B.q Lm (ag (fX (wE rfl) (by rfl) B.q q_ (p1 6)) aq))))),?_⟩
 have hvne:am S≠[]:=λz=>by rw[z]at hv;cases hv
 obtain⟨f1,f2,f3⟩:=gR ok (gp S day n) (hZ S day n);refine⟨HJ _,λN hN=>?_⟩;have s1:ak H (upd H N (.lst [])):=ak.upd hN;dsimp only[bp,b6,cu,tC,bu];refine cw ?_;refine⟨_,rfl,_,rfl,_,rfl,_,rfl,L,S,LY,i0,day,v,rfl,hL.same s1,ok,hv,λH1 D1 s2 Np rl=>?_⟩;have hN1:H1 N=some (.lst (nI [])):=s2 _ _ aa;have nD1:D1≠N:=λe=>by rw[e,aa]at Np;cases Np
 have sB:ak H (hide H1 N):=dv (s1.trans s2) hN;obtain⟨zs,Ml,OR,hzr⟩:=rl;have hD1B:(hide H1 N) D1=some (.lst (zs.map λz=>V.ref z.1)):=by rw[cq nD1];exact OR
 have hzrB:∀z∈zs,bd c (am S) (hide H1 N) z.1 z.2:=λz m=>(hzr z m).hide hN1 hvne;have hzS:∀z∈zs,z.2∈S.rights:=λz m=>by
  have:z.2∈inForce S LY v day:=by rw[<-Ml];exact HA.mpr ⟨z,m,rfl⟩
  unfold inForce at this;exact(HK.mp this).1
 have lzs:zs.length<=8:=by
  have:zs.length=(inForce S LY v day).length:=by rw[<-Ml,G8]
  rw[this];unfold inForce;exact Hv (Hz _ _) ok.rLe
 refine⟨D1,rfl,⟨_,SqL.of OR⟩,?_⟩;refine cB (dQ (K:=K) (H1:=hide H1 N) hD1B) (λi σ H'=>∃v7 v8 ns,σ=[some (.ref L),some (.ref a),some (.int u),some (.int LY),some (.int i0),some (.int day),some (.ref N),v7,v8]/\ak (hide H1 N) H'/\H' N=some (.lst (nI ns))/\ns.length<=21*i/\∀m,m∈ns↔m∈(zs.take i).flatMap λz=>askRight S u z.2 LY v day n) ?_ ?_ ?_ ?_
 .exact⟨none,none,[],rfl,d3,hN1,Hu _,λm=>by simp⟩
 .rintro i σ H' _ ⟨_,_,_,_,s,_⟩;exact s
 .rintro i x σ H2 H3 hi ⟨v7,v8,ns,rfl,s3,hN2,L3,Mf⟩ s4 ⟨z,hzi,rfl⟩;have Od:=Hl hzi;have Nf:=s3.trans s4;have sH3:=sB.trans Nf;have hN3:=s4 _ _ hN2;have hRz:=(hzrB z Od).same Nf;refine⟨_,rfl,_,rfl,_,rfl,_,rfl,_,rfl,L,a,z.1,S,_,z.2,LY,i0,v,rfl,hL.same sH3,ok,dl.same sH3,λd m=>⟨(gp S day n).subset m,hZ S day n d m⟩,by omega,hRz,hv,λH4 D4 s5 OD Pa=>?_⟩;have ME:((wkd S day n).filter λd=>bD S d z.2.num LY v).Sublist S.deeds:=Ip.trans (gp S day n);obtain⟨g1,g2,g3⟩:=gR ok ME λd m=>hZ S day n d (HK.mp m).1;have ow:=ok.rOw z.2 (hzS z Od);have hN4:=s5 _ _ hN3;refine⟨_,rfl,.inl ⟨rfl,_,SqL.of hN4⟩,_,rfl,_,rfl,_,rfl,_,rfl,u,day,z.1,D4,z.2,_,am S,rfl,hRz.same s5,Pa,nJ ⟨ow.1,ow.2.1⟩,g1,Lh ME ok.dSo,g2,g3,λH5 D5 ms s6 hD5 hD5l hml hmm=>?_⟩;rw[vP]at hmm;have hN5:=s6 _ _ hN4;refine⟨N,D5,_,_,rfl,rfl,hN5,hD5l,?_,?_⟩
  .rw[bE,bE];exact aB (by omega)
  .refine⟨_,_,ns++ms,rfl,a_ (Nf.trans (s5.trans s6)) dh,?_,?_,λm=>?_⟩
   .rw[aa,kT]
   .rw[Hx];omega
   .rw[a6 hzi,IM,H_,H_,Mf,hmm];simp
 .rintro σ H' ⟨v7,v8,ns,rfl,s3,hN2,L3,Mf⟩;rw[Im]at Mf;have sH:=sB.trans s3;refine⟨_,rfl,N,_,rfl,SqL.of hN2,?_,λp ks hp hnd hmk hkl=>?_⟩
  .unfold Vbptaj.ints;rw[G8];omega
  .refine⟨p,ks,rfl,aa,hkl,λms q pm pw hq=>?_⟩;have e:=lK (l:=(zs.map (·.2)).flatMap λR=>askRight S u R LY v day n) pm hnd pw hmk (λm=>by rw[Mf m,flatMap_map]);refine k _ q (sH.trans ((ak.upd hp).trans (ak.upd hq))) (sH.free ((ak.upd hp).free hq)) ?_;rw[aa,e,Ml];rfl
theorem tK(h:C.hold=C'.hold/\C.locks=C'.locks)(a b n:Nat):(Vbptaj.move C a b n).hold=(Vbptaj.move C' a b n).hold/\(Vbptaj.move C a b n).locks=(Vbptaj.move C' a b n).locks:=by
 unfold Vbptaj.move;split
 .exact h
 .dsimp only;rw[h.1,h.2];exact⟨rfl,rfl⟩
theorem nL(h:C.hold=C'.hold/\C.locks=C'.locks)(a:Nat):Vbptaj.freeOf C a=Vbptaj.freeOf C' a:=by unfold Vbptaj.freeOf lockedOf;rw[h.1,h.2]
theorem zE(h:C.hold=C'.hold/\C.locks=C'.locks)(d:LV):(Vbptaj.work C d).1.hold=(Vbptaj.work C' d).1.hold/\(Vbptaj.work C d).1.locks=(Vbptaj.work C' d).1.locks:=by
 unfold Vbptaj.work;split
 .dsimp only;rw[nL h];exact tK h _ _ _
 .rw[h.1];split
  .exact⟨rfl,h.2⟩
  .exact h
 .dsimp only;rw[nL h];split
  .exact h
  .rw[h.1,h.2];exact⟨rfl,rfl⟩
 .dsimp only;rw[h.1,h.2];exact⟨rfl,rfl⟩
 .rw[h.2];split
  .exact h
  .exact tK (C:={C with locks:=C'.locks.filter λx=>x.pledge !=d.about}) (C':={C' with locks:=C'.locks.filter λx=>x.pledge !=d.about}) ⟨h.1,rfl⟩ _ _ _
 .exact h
theorem zF(C:Vbptaj.Cell)(hk:d.kind=1):(Vbptaj.work C d).1.hold=C.hold/\(Vbptaj.work C d).1.locks=C.locks:=by simp only[Vbptaj.work,hk];split<;>exact⟨rfl,rfl⟩
theorem nM:∀(ds:List LV)(C C':Vbptaj.Cell),C.hold=C'.hold/\C.locks=C'.locks->((ds.filter λd=>d.kind !=1).foldl (λC d=>(Vbptaj.work C d).1) C).hold=(ds.foldl (λC d=>(Vbptaj.work C d).1) C').hold/\((ds.filter λd=>d.kind !=1).foldl (λC d=>(Vbptaj.work C d).1) C).locks=(ds.foldl (λC d=>(Vbptaj.work C d).1) C').locks
 |[],C,C',h=>h
 |d::ds,C,C',h=>by
  rw[Hy,IV];by_cases hk:d.kind=1
  .have hb:¬(d.kind !=1)=true:=by simp[hk]
   rw[G9 hb];have:=zF C' hk;exact nM ds C _ ⟨h.1.trans this.1.symm,h.2.trans this.2.symm⟩
  .have hb:(d.kind !=1)=true:=by simpa using hk
   rw[Hc hb,IV];exact nM ds _ _ (zE h d)
theorem mY(S:LU)(R:LW)(LY:Nat)(v:List Nat)(ds:List LV):(cG S R LY v (ds.filter λd=>d.kind !=1)).hold=(cG S R LY v ds).hold/\(cG S R LY v (ds.filter λd=>d.kind !=1)).locks=(cG S R LY v ds).locks:=by
 unfold cG eI;have e:(ds.filter λd=>d.kind !=1).filter (λd=>bD S d R.num LY v)=(ds.filter λd=>bD S d R.num LY v).filter λd=>d.kind !=1:=by rw[Je,Je];congr 1;funext d;exact Jm _ _
 rw[e];exact nM _ _ _ ⟨rfl,rfl⟩
def bc(c:Cs)(H:Hp)(x:Addr)(n:Int)(ws:List Int)(rows:List (List Int)):Prop:=∃dx aw ar rs e,H x=some (.ins c.Call dx (sg n aw ar e))/\H aw=some (.lst (ws.map V.int))/\H ar=some (.lst (rs.map V.ref))/\Paired (λr row=>H r=some (.lst (row.map V.int))) rs rows
theorem bc.same{c:Cs}{H H':Hp}{x:Addr}{n:Int}{ws:List Int}{rows:List (List Int)}(h:bc c H x n ws rows)(s:ak H H'):bc c H' x n ws rows:=by obtain⟨dx,aw,ar,rs,e,h1,h2,h3,h4⟩:=h;exact⟨dx,aw,ar,rs,e,s _ _ h1,s _ _ h2,s _ _ h3,Paired.mapP h4 λ_ _ q=>s _ _ q⟩
theorem ng{H:Hp}{rs:List Addr}{row:List Int}{rows:List (List Int)}(p:Paired (λr row=>H r=some (.lst (row.map V.int))) rs (row::rows)):∃r,rs[0]?=some r/\H r=some (.lst (row.map V.int)):=dA (F:=λ(r:Addr)(row:List Int)=>H r=some (.lst (row.map V.int))) p rfl
def Ans(H:Hp)(Q:VK)(Ol:List Int):Prop:=∀H' D,ak H H'->H D=none->H' D=some (.lst (Ol.map V.int))->Q (.ref D) H'
inductive rF(c:Cs)(vs:List V)(H:Hp)(Q:VK)(E:XK):Prop|mk(L x:Addr)(S:LU)(num:Int)(R:LW)(LY day n:Nat)(v:List Nat)(_:vs=[.ref L,.ref x])(_:aY c H L S)(_:SOk S)(_:bc c H x num [(R.num:Int),(LY:Int),(day:Int),(n:Int)] [Vbptaj.ints v])(_:R∈S.rights)(_:v∈am S)(_:(cellOf R LY v=false->∀H',ak H H'->Q .non H'))(_:(cellOf R LY v=true->∀H' y,ak H H'->H y=none->CellAt c H H' y (Vbptaj.cellAt S R LY v day n)->(∃done,CWf (Vbptaj.cellAt S R LY v day n) done/\done.length<=60)->Q (.ref y) H'))
theorem iF(T:Txt P w K mg c):T.Gc.H P w base 7 (rF c):=by
 refine aS T.Gc ["ledger","call","right","land","place"] ?_;rintro _ _ _ _ _ H vs Q E hr hu _ _ nd ⟨L,x,S,num,R,LY,day,n,v,rfl,hL,ok,⟨dx,aw,ar,rs,e,hx,L7,Mu,MT⟩,hRm,hv,kn,ky⟩
 refine⟨_,(aj (aO 2 nd (dg hu (fv 0) (wx 1) (λ_ _=>rfl)))
 (aj (aO 3 nd (wx 1))
 (aj (aO 4 nd (az (hX T) hr (ag (pv 0) (ag (wx 1) aq))))
 (aj (a9 (om (eL (az (qQ T) hr (ag (pv 2) (p2 3 4))) (λ_=>rfl))) (rt fj) aM)
 (rt (az (kZ T) hr (ag (pv 0) (ag (az (eZ T) hr (ag (pv 0) (ag (wx 1) (ag (wx 1) aq)))) (ag (pv 2) (p2 3 4)))))))))),?_⟩
 obtain⟨dL,af,av,NU,N5,Rs,Ds,MV⟩:=id hL;obtain⟨y,hy,OS⟩:=MV.rGet ok hRm;obtain⟨r0,NT,MD⟩:=ng MT;refine⟨_,rfl,rfl,MV.obj,T.Ledger.o,rfl,_,rfl,rfl,hx,T.Call.o,rfl,aw,_,_,_,rfl,rfl,SqL.of L7,aN (j:=0) rfl rfl,NU,_,rfl,hy,?_⟩;refine⟨_,rfl,rfl,hx,T.Call.o,rfl,aw,_,_,_,rfl,rfl,SqL.of L7,aN (j:=1) rfl rfl,?_⟩;refine⟨_,rfl,_,rfl,rfl,hx,T.Call.o,rfl,ar,_,_,_,rfl,rfl,SqL.of Mu,aN (j:=0) rfl (by rw[Hd,NT];rfl),?_⟩;refine⟨L,r0,S,v,rfl,hL,ok,MD,hv,λi hi=>?_⟩;refine⟨_,rfl,_,rfl,_,rfl,y,R,am S,LY,i,v,rfl,OS,hi,_,rfl,?_⟩;cases hc:cellOf R LY v with
 |false=>exact bS (kn hc H (ak.refl _))
 |true=>refine eh ?_;refine⟨_,rfl,_,rfl,_,rfl,rfl,hx,T.Call.o,rfl,aw,_,_,_,rfl,rfl,SqL.of L7,aN (j:=2) rfl rfl,_,rfl,rfl,hx,T.Call.o,rfl,aw,_,_,_,rfl,rfl,SqL.of L7,aN (j:=3) rfl rfl,?_⟩;refine⟨L,S,day,n,rfl,hL,ok,λH1 D s1 hD dl=>?_⟩;refine⟨_,rfl,_,rfl,_,rfl,L,D,y,S,wkd S day n,R,LY,i,v,rfl,hL.same s1,ok,dl,gp S day n,hZ S day n,OS.same s1,hRm,hi,λH2 z s2 hz cA wf=>?_⟩;rw[iT]at cA wf;exact ky hc H2 z (s1.trans s2) (s1.free hz) (cA.base λb o _ e0=>s1.free e0) wf
inductive pY(c:Cs)(vs:List V)(H:Hp)(Q:VK)(E:XK):Prop|mk(L:Addr)(S:LU)(day n:Nat)(_:vs=[.ref L,.int day,.int n])(_:aY c H L S)(_:SOk S)(_:∀H' D,ak H H'->H D=none->DL c (am S) H' D ((wkd S day n).filter λd=>d.kind !=1)->Q (.ref D) H')
theorem fM(T:Txt P w K mg c):T.Gd.H P w base 7 (pY c):=by refine aS T.Gd ["ledger","day","known"] ?_;rintro _ _ _ _ _ H vs Q E hr _ _ _ nd ⟨L,S,day,n,rfl,hL,ok,k⟩;refine⟨_,(rt (az (iH T) hr (ag (az (eZ T) hr (ag (pv 0) (p2 1 2))) aq))),?_⟩;refine⟨_,rfl,_,rfl,_,rfl,L,S,day,n,rfl,hL,ok,λH1 D s1 hD dl=>?_⟩;refine⟨D,wkd S day n,am S,rfl,dl,Hv (gp S day n).length_le (Hv ok.dLe (by decide)),λH2 D2 s2 MO NN=>k H2 D2 (s1.trans s2) (s1.free MO) NN⟩
inductive oM(c:Cs)(vs:List V)(H:Hp)(Q:VK)(E:XK):Prop|mk(L a r:Addr)(S:LU)(ds:List LV)(R:LW)(LY i:Nat)(v:List Nat)(_:vs=[.ref L,.ref a,.ref r,.int LY,.int i])(_:aY c H L S)(_:SOk S)(_:DL c (am S) H a ds)(_:ds.Sublist S.deeds)(_:(∀d∈ds,d.kind≠5))(_:bd c (am S) H r R)(_:R∈S.rights)(_:(am S)[i]?=some v)(_:∀H' ah ps,ak H H'->H ah=none->H' ah=some (.dK (pN ps))->ps.Perm (cG S R LY v ds).hold->(∃done,CWf (cG S R LY v ds) done/\done.length<=60)->Q (.ref ah) H')
theorem iP(T:Txt P w K mg c):T.Ge.H P w base 7 (oM c):=by refine aS T.Ge ["ledger","deeds","right","land","place"] ?_;rintro _ _ _ _ _ H vs Q E hr _ _ _ nd ⟨L,a,r,S,ds,R,LY,i,v,rfl,hL,ok,dl,MC,h5,hR,hRm,hv,k⟩;refine⟨_,(rt (oo (az (kZ T) hr (ag (pv 0) (ag (pv 1) (ag (pv 2) (p2 3 4))))) rfl)),?_⟩;refine⟨_,rfl,_,rfl,_,rfl,_,rfl,_,rfl,L,a,r,S,ds,R,LY,i,v,rfl,hL,ok,dl,MC,h5,hR,hRm,hv,λH1 x s1 hx ⟨dx,ah,al,ab,ad,ps,ls,bk,ts,hC,Mo⟩ wf=>?_⟩;exact⟨rfl,hC.obj,T.Cell.o,rfl,k H1 ah ps s1 hC.fh hC.held hC.hPm wf⟩
inductive fO(c:Cs)(f:Vbptaj.Cell->List Int)(vs:List V)(H:Hp)(Q:VK)(E:XK):Prop|mk(L x:Addr)(S:LU)(num:Int)(R:LW)(LY day n:Nat)(v:List Nat)(_:vs=[.ref L,.ref x])(_:aY c H L S)(_:SOk S)(_:bc c H x num [(R.num:Int),(LY:Int),(day:Int),(n:Int)] [Vbptaj.ints v])(_:R∈S.rights)(_:v∈am S)(_:Ans H Q (if cellOf R LY v=true then 0::f (Vbptaj.cellAt S R LY v day n)else [-7]))
def jq(C:Vbptaj.Cell):List Int:=C.hold.flatMap λh=>Vbptaj.ints [h.1,h.2]
theorem qd(T:Txt P w K mg c):T.Gf.H P w base 8 (fO c jq):=by
 have B:=T.B;refine aS T.Gf ["ledger","call","cell","answer","person"] ?_;rintro _ _ A _ s H vs Q E hr hu _ _ nd ⟨L,x,S,num,R,LY,day,n,v,rfl,hL,ok,hcall,hRm,hv,k⟩
 refine⟨_,(aj (aO 2 nd (az (iF T) hr (p2 0 1)))
 (aj (a9 (aA sD (pv 2) fj (aD _)) (rt (aW (ag (bf rfl T.GU) aq))) aM)
 (aj (aO 3 nd (aW (ag aI aq)))
 (aj (cy HI rfl (a8 (aK (o8 rfl) (by rfl) B.q Lm (ag (fv 2) aq))) (aT 4 nd)
 (aL (bU (dG Ib Jl JC fY (pv 3) (ag (aW (ag (pv 4) (ag (dg hu (fv 2) (pv 4) (λ_ _=>rfl)) aq))) aq)))))
 (rt (pv 3)))))),?_⟩
 refine⟨_,rfl,_,rfl,L,x,S,num,R,LY,day,n,v,rfl,hL,ok,hcall,hRm,hv,λhc H1 s1=>?_,λhc H1 y s1 hy cA ⟨done,wf,O7⟩=>?_⟩
 .rw[G9 (by rw[hc];simp)]at k;refine⟨_,rfl,rfl,_,rfl,bS ?_⟩;exact⟨aB,λD hD=>k _ D (s1.trans (ak.upd hD)) (s1.free hD) aa⟩
 .rw[Hc hc]at k;generalize hCe:Vbptaj.cellAt S R LY v day n=C at*;refine⟨_,rfl,rfl,_,rfl,eh ?_⟩;refine⟨aB,λA hA=>?_⟩;have s2:ak H1 (upd H1 A (.lst [.int 0])):=ak.upd hA;have fA:H A=none:=s1.free hA;obtain⟨dx,ah,al,ab,ad,ps,ls,bk,ts,hC,Mo⟩:=id cA;have Mw:=hC.same s2;have lh:=wf.holdLen;dsimp only[bp,b6,cu,tC,bu];refine cw ?_;have ek:(pN ps).map (·.1)=(ps.map λz=>(z.1:Int)).map Sum.inl:=by unfold pN;rw[HM,HM];rfl
  refine⟨_,rfl,rfl,Mw.obj,T.Cell.o,rfl,ah,_,_,rfl,Mw.held,ek,λms D hpm hpw hD=>?_⟩;have ems:ms=C.hold.map λz=>(z.1:Int):=by refine eY (r:=λa b=>a<=b) (λa _ b _ h1 h2=>by omega) (hpm.trans (hC.hPm.map _)) hpw ?_;rw[IL];exact wf.srt.imp λh=>by omega
  subst ems;have nDA:D≠A:=λe=>by rw[e,aa]at hD;cases hD
  generalize Pd:upd (upd H1 A (.lst [.int 0])) D (.lst ((C.hold.map λz=>(z.1:Int)).map V.int))=H2;have sB:ak H1 (hide H2 A):=dv (by rw[<-Pd];exact s2.trans (ak.upd hD)) hA;have hDB:(hide H2 A) D=some (.lst ((C.hold.map λz=>(z.1:Int)).map V.int)):=by rw[cq nDA,<-Pd];exact aa
  have hA2:H2 A=some (.lst [.int 0]):=by rw[<-Pd,ai (Ho nDA)];exact aa
  have MO:H2 D=some (.lst ((C.hold.map λz=>(z.1:Int)).map V.int)):=by rw[<-Pd];exact aa
  refine⟨D,rfl,⟨_,SqL.of MO⟩,?_⟩;refine cB (b9 (K:=K) (a:=D) (xs:=(C.hold.map λz=>(z.1:Int)).map V.int) (G:=λH'=>ak (hide H2 A) H') λH' s=>SqL.of (s _ _ hDB)) (λi σ H'=>∃v4,σ=[some (.ref L),some (.ref x),some (.ref y),some (.ref A),v4]/\ak (hide H2 A) H'/\H' A=some (.lst ((0::(C.hold.take i).flatMap λh=>Vbptaj.ints [h.1,h.2]).map V.int))) ?_ ?_ ?_ ?_
  .exact⟨none,rfl,d3,hA2⟩
  .rintro i σ H' _ ⟨_,_,s,_⟩;exact s
  .rintro i u σ H3 H4 hi ⟨v4,rfl,s3,hA3⟩ s4 hu;have Nf:=s3.trans s4;have OT:=s4 _ _ hA3;rw[G8,G8]at hi;obtain⟨h0,hh0⟩:∃h0,C.hold[i]?=some h0:=⟨C.hold[i],Hn hi⟩;rw[Hd,Hd,hh0]at hu;cases hu;have M4:=(hC.same sB).same Nf;have hm0:=Hl hh0;have vv:aQ (pN ps) (Sum.inl (h0.1:Int))=some (.int (h0.2:Nat)):=by
    rw[gf hC.hPm (b_ wf.srt)];have key:(C.hold.find? λz=>z.1==h0.1)=some h0:=by
     have q:=k_ (HS C.hold) (b_ wf.srt) h0.1;cases hf:(C.hold.find? λz=>z.1==h0.1)with
     |none=>rw[Jd]at hf;exact absurd (hf h0 hm0) (by simp)
     |some z=>
      have e1:z.1=h0.1:=by simpa using JQ hf
      have e2:=Io hf;have key2:∀l:List (Nat×Nat),(l.Pairwise λa b=>a.1<b.1)->z∈l->h0∈l->z=h0:=by
       intro l;induction l with
       |nil=>intro _ h;cases h
       |cons q r ih=>
        intro hp ha hb;rw[HF]at hp;rcases Hi.mp ha with ea|ha2
        .rcases Hi.mp hb with eb|OJ
         .exact ea.trans eb.symm
         .exact absurd (hp.1 h0 OJ) (by rw[<-ea];omega)
        .rcases Hi.mp hb with eb|OJ
         .exact absurd (hp.1 z ha2) (by rw[<-eb];omega)
         .exact ih hp.2 ha2 OJ
      rw[key2 _ wf.srt e2 hm0]
    rw[key];rfl
   refine⟨_,rfl,.inl ⟨rfl,_,SqL.of OT⟩,_,rfl,_,rfl,rfl,M4.obj,T.Cell.o,rfl,_,rfl,ah,_,rfl,vv▸bP.k (k:=Sum.inl (h0.1:Int)) M4.held,aB,λq hq=>?_⟩;refine⟨A,q,_,_,rfl,rfl,by rw[ai (au OT hq)];exact OT,aa,?_,?_⟩
   .have:((C.hold.take i).flatMap λh=>Vbptaj.ints [h.1,h.2]).length<=2*i:=by
     have:∀l:List (Nat×Nat),(l.flatMap λh=>Vbptaj.ints [h.1,h.2]).length=2*l.length:=by
      intro l;induction l with
      |nil=>rfl
      |cons h t ih=>rw[Iu,Hx,ih,Hr];show 2+_=_;omega
     rw[this,Iv];omega
    rw[G8,Hr];exact aB (by show _+1+2<=1000;omega)
   .refine⟨_,rfl,λb o e=>?_,?_⟩
    .have nb:b≠A:=λz=>by rw[z,dh]at e;cases e
     rw[ai nb];exact(ak.upd hq) _ _ (Nf _ _ e)
    .rw[aa,a6 hh0,IM,Hf,Hf,HL];rfl
  .rintro σ H' ⟨v4,rfl,s3,hA3⟩;rw[G8,G8,Im]at hA3;exact⟨_,rfl,k H' A (s1.trans (sB.trans s3)) fA hA3⟩
theorem fQ{α:Type}(f:α->List Int)(k:Nat)(h:∀a,(f a).length=k):∀l:List α,(l.flatMap f).length=k*l.length
 |[]=>rfl
 |a::l=>by rw[Iu,Hx,h,fQ f k h l,Hr,mul_succ];omega
theorem fo(h:n<=5000):n<=sizeLine:=Js (fW h)
def jp(C:Vbptaj.Cell):List Int:=C.locks.flatMap λk=>Vbptaj.ints [k.pledge,k.who,k.creditor,k.parts]
theorem uF(T:Txt P w K mg c):T.Gn.H P w base 8 (fO c jp):=by
 refine aS T.Gn ["ledger","call","cell","answer","pledge","lock"] ?_;rintro _ _ A _ s H vs Q E hr _ _ _ nd ⟨L,x,S,num,R,LY,day,n,v,rfl,hL,ok,hcall,hRm,hv,k⟩
 refine⟨_,(aj (aO 2 nd (az (iF T) hr (p2 0 1)))
 (aj (a9 (aA sD (pv 2) fj (aD _)) (rt (aW (ag (bf rfl T.GU) aq))) aM)
 (aj (aO 3 nd (aW (ag aI aq)))
 (aj (pO (cy HI rfl (Ab (fv 2)) (eU (K:=K) (n:=2) rfl rfl (bX (aT 4 nd) (bX (aT 5 nd) eT)))
 (aL (bU (dG Ib Jl JC fY (pv 3) (ag (aW (ag (pv 4) (ag (fv 5) (ag (fv 5) (ag (fv 5) aq))))) aq))))))
 (rt (pv 3)))))),?_⟩
 refine⟨_,rfl,_,rfl,L,x,S,num,R,LY,day,n,v,rfl,hL,ok,hcall,hRm,hv,λhc H1 s1=>?_,λhc H1 y s1 hy cA ⟨done,wf,O7⟩=>?_⟩
 .rw[G9 (by rw[hc];simp)]at k;refine⟨_,rfl,rfl,_,rfl,bS ?_⟩;exact⟨aB,λD hD=>k _ D (s1.trans (ak.upd hD)) (s1.free hD) aa⟩
 .rw[Hc hc]at k;generalize hCe:Vbptaj.cellAt S R LY v day n=C at*;refine⟨_,rfl,rfl,_,rfl,eh ?_⟩;refine⟨aB,λA hA=>?_⟩;have s2:ak H1 (upd H1 A (.lst [.int 0])):=ak.upd hA;have fA:H A=none:=s1.free hA;obtain⟨dx,ah,al,ab,ad,ps,ls,bk,ts,hC,Mo⟩:=id cA;have Mw:=hC.same s2;have ll:=wf.lockLen;have lls:ls.length=C.locks.length:=by rw[<-hC.lEq,G8]
  have nyl:y≠al:=aF hC.obj hC.lock;have nAl:al≠A:=au hC.lock hA;dsimp only[bp,b6,cu,tC,bu];refine⟨al,_,Mw.lock,Jy,λod=>?_⟩;refine cw ?_;refine⟨_,rfl,rfl,(ai nyl).trans Mw.obj,T.Cell.o,rfl,al,od,_,rfl,aa,?_⟩;generalize hF:upd (upd H1 A (.lst [.int 0])) al (.frz od (.dK (numL ls)))=F;have hFal:F al=some (.frz od (.dK (numL ls))):=by rw[<-hF];exact aa
  have hBal:(hide F A) al=some (.frz od (.dK (numL ls))):=by rw[cq nAl];exact hFal
  have hAF:F A=some (.lst [.int 0]):=by rw[<-hF,ai (Ho nAl)];exact aa
  have sF:∀b o,H1 b=some o->b≠al->(hide F A) b=some o:=λb o e nb=>by rw[cq (au e hA),<-hF,ai nb];exact s2 _ _ e
  refine cB (xA (d:=al) (o:=od) (kvs:=numL ls) (G:=λH'=>ak (hide F A) H') λH' s=>s _ _ hBal) (λi σ H'=>∃v4 v5,σ=[some (.ref L),some (.ref x),some (.ref y),some (.ref A),v4,v5]/\ak (hide F A) H'/\H' A=some (.lst ((0::(C.locks.take i).flatMap λk=>Vbptaj.ints [k.pledge,k.who,k.creditor,k.parts]).map V.int))) ?_ ?_ ?_ ?_
  .exact⟨none,none,rfl,d3,hAF⟩
  .rintro i σ H' _ ⟨_,_,_,s,_⟩;exact s
  .rintro i u σ H3 H4 hi ⟨v4,v5,rfl,s3,hA3⟩ s4 ⟨T',key,vv,hkv,rfl,hT⟩;have Nf:=s3.trans s4;have OT:=s4 _ _ hA3;unfold numL at hi hkv;rw[G8]at hi;obtain⟨z,hz⟩:∃z,ls[i]?=some z:=⟨ls[i],Hn hi⟩;rw[Hd,hz]at hkv;cases hkv;have Od:=Hl hz;have hlz:C.locks[i]?=some z.2:=by rw[<-hC.lEq,Hd,hz];rfl
   obtain⟨dz,hzH⟩:=hC.lAt z Od;have hz4:=Nf _ _ (sF _ _ hzH (aF hzH hC.lock));refine⟨T',_,rfl,SqT.of hT,rfl,_,_,rfl,_,_,rfl,rfl,?_⟩;refine⟨_,rfl,.inl ⟨rfl,_,SqL.of OT⟩,_,rfl,_,rfl,rfl,hz4,T.Lock.o,rfl,_,rfl,rfl,hz4,T.Lock.o,rfl,_,rfl,rfl,hz4,T.Lock.o,rfl,aB,λq hq=>?_⟩;refine⟨A,q,_,_,rfl,rfl,by rw[ai (au OT hq)];exact OT,aa,?_,?_⟩
   .have:((C.locks.take i).flatMap λk=>Vbptaj.ints [k.pledge,k.who,k.creditor,k.parts]).length<=4*i:=by rw[fQ _ 4 (λ_=>rfl),Iv];omega
    rw[G8,Hr];exact aB (by show _+1+4<=1000;omega)
   .refine⟨_,_,rfl,λb o e=>?_,?_⟩
    .have nb:b≠A:=λz=>by rw[z,dh]at e;cases e
     rw[ai nb];exact(ak.upd hq) _ _ (Nf _ _ e)
    .rw[aa,a6 hlz,IM,Hf,Hf,HL];rfl
  .rintro σ H' ⟨v4,v5,rfl,s3,hA3⟩;unfold numL at hA3;rw[G8,lls,Im]at hA3;refine⟨s3 _ _ hBal,?_⟩;refine⟨_,rfl,k _ A (s1.trans λb o e=>?_) fA (by rw[ai (Ho nAl)];exact hA3)⟩;by_cases hb:b=al
   .subst hb;rw[aa,<-e,hC.lock]
   .rw[ai hb];exact s3 _ _ (sF b o e hb)
def iB(C:Vbptaj.Cell):List Int:=C.bound.flatMap λb=>Vbptaj.ints [b.1,b.2]
theorem uJ(T:Txt P w K mg c):T.Go.H P w base 8 (fO c iB):=by
 have B:=T.B;refine aS T.Go ["ledger","call","cell","answer","pair"] ?_;rintro _ _ A _ s H vs Q E hr _ _ _ nd ⟨L,x,S,num,R,LY,day,n,v,rfl,hL,ok,hcall,hRm,hv,k⟩
 refine⟨_,(aj (aO 2 nd (az (iF T) hr (p2 0 1)))
 (aj (a9 (aA sD (pv 2) fj (aD _)) (rt (aW (ag (bf rfl T.GU) aq))) aM)
 (aj (aO 3 nd (aW (ag aI aq)))
 (aj (cy HI rfl (a8 (fv 2)) (aT 4 nd)
 (aL (bU (dG Ib Jl JC fY (pv 3) (ag (fX (uP) (by rfl) B.q boot_list (p1 4)) aq)))))
 (rt (pv 3)))))),?_⟩
 refine⟨_,rfl,_,rfl,L,x,S,num,R,LY,day,n,v,rfl,hL,ok,hcall,hRm,hv,λhc H1 s1=>?_,λhc H1 y s1 hy cA ⟨done,wf,O7⟩=>?_⟩
 .rw[G9 (by rw[hc];simp)]at k;refine⟨_,rfl,rfl,_,rfl,bS ?_⟩;exact⟨aB,λD hD=>k _ D (s1.trans (ak.upd hD)) (s1.free hD) aa⟩
 .rw[Hc hc]at k;generalize hCe:Vbptaj.cellAt S R LY v day n=C at*;refine⟨_,rfl,rfl,_,rfl,eh ?_⟩;refine⟨aB,λA hA=>?_⟩;have s2:ak H1 (upd H1 A (.lst [.int 0])):=ak.upd hA;have fA:H A=none:=s1.free hA;obtain⟨dx,ah,al,ab,ad,ps,ls,bk,ts,hC,Mo⟩:=id cA;have Mw:=hC.same s2;have lb:=wf.boundLen;have lts:ts.length=C.bound.length:=HC hC.tAt;dsimp only[bp,b6,cu,tC,bu];refine cw ?_;refine⟨_,rfl,rfl,Mw.obj,T.Cell.o,rfl,ad,rfl,⟨_,SqL.of Mw.bnd⟩,?_⟩;refine cB (gS (K:=K) (F:=λ(H:Hp)(t:Addr)(b:Nat×Nat)=>H t=some (.tup [.int (b.1:Nat),.int (b.2:Nat)])) hC.bnd hC.tAt λH H' r x s h=>s _ _ h) (λi σ H'=>∃v4,σ=[some (.ref L),some (.ref x),some (.ref y),some (.ref A),v4]/\ak H1 H'/\H' A=some (.lst ((0::(C.bound.take i).flatMap λb=>Vbptaj.ints [b.1,b.2]).map V.int))) ?_ ?_ ?_ ?_
  .exact⟨none,rfl,s2,aa⟩
  .rintro i σ H' _ ⟨_,_,s,_⟩;exact s
  .rintro i u σ H3 H4 hi ⟨v4,rfl,s3,hA3⟩ s4 ⟨t,b,rfl,htt,hbb,hT⟩;have Nf:=s3.trans s4;have OT:=s4 _ _ hA3;refine⟨_,rfl,.inl ⟨rfl,_,SqL.of OT⟩,_,rfl,t,_,rfl,.inr (SqT.of hT),λq hq=>?_⟩;refine⟨A,q,_,_,rfl,rfl,by rw[ai (au OT hq)];exact OT,aa,?_,?_⟩
   .have:((C.bound.take i).flatMap λb=>Vbptaj.ints [b.1,b.2]).length<=2*i:=by rw[fQ _ 2 (λ_=>rfl),Iv];omega
    rw[G8,Hr];exact fo (by show _+1+2<=5000;omega)
   .refine⟨_,rfl,a_ (Nf.trans (ak.upd hq)) hA,?_⟩;rw[aa,a6 hbb,IM,Hf,Hf,HL];rfl
  .rintro σ H' ⟨v4,rfl,s3,hA3⟩;rw[Im]at hA3;exact⟨_,rfl,k H' A (s1.trans s3) fA hA3⟩
inductive kc(c:Cs)(vs:List V)(H:Hp)(Q:VK)(E:XK):Prop|mk(L x:Addr)(S:LU)(num:Int)(u LY day n:Nat)(v:List Nat)(_:vs=[.ref L,.ref x])(_:aY c H L S)(_:SOk S)(_:bc c H x num [(u:Int),(LY:Int),(day:Int),(n:Int)] [Vbptaj.ints v])(_:v∈am S)(_:(leave S u LY v day n).length<=1000)(_:Ans H Q (0::Vbptaj.ints (leave S u LY v day n)))
theorem uG(T:Txt P w K mg c):T.Gg.H P w base 8 (kc c):=by
 refine aS T.Gg ["ledger","call","day","deeds","place"] ?_;rintro _ _ _ _ _ H vs Q E hr _ _ _ nd ⟨L,x,S,num,u,LY,day,n,v,rfl,hL,ok,⟨dx,aw,ar,rs,e,hx,L7,Mu,MT⟩,hv,hll,k⟩
 refine⟨_,(aj (aO 2 nd (wx 1))
 (aj (aO 3 nd (az (eZ T) hr (ag (pv 0) (ag (pv 2) (ag (wx 1) aq)))))
 (aj (aO 4 nd (az (hX T) hr (ag (pv 0) (ag (wx 1) aq))))
 (rt (bH fk (aW (ag aI aq)) (az (jx T) hr (ag (pv 0) (ag (pv 3) (ag (wx 1) (ag (wx 1) (p2 4 2))))))))))),?_⟩
 obtain⟨r0,NT,MD⟩:=ng MT;refine⟨_,rfl,rfl,hx,T.Call.o,rfl,aw,_,_,_,rfl,rfl,SqL.of L7,aN (j:=2) rfl rfl,?_⟩;refine⟨_,rfl,_,rfl,_,rfl,rfl,hx,T.Call.o,rfl,aw,_,_,_,rfl,rfl,SqL.of L7,aN (j:=3) rfl rfl,?_⟩;refine⟨L,S,day,n,rfl,hL,ok,λH1 D1 s1 Np Nb=>?_⟩;have ON:=s1 _ _ hx;have PF:=s1 _ _ L7;have PH:=s1 _ _ Mu;refine⟨_,rfl,_,rfl,rfl,ON,T.Call.o,rfl,ar,_,_,_,rfl,rfl,SqL.of PH,aN (j:=0) rfl (by rw[Hd,NT];rfl),?_⟩;refine⟨L,r0,S,v,rfl,hL.same s1,ok,s1 _ _ MD,hv,λi hi=>?_⟩;refine⟨aB,λz hz=>?_⟩;have s2:=ak.upd (o:=.lst [.int 0]) hz;have N2:=s2 _ _ ON;have NP:=s2 _ _ PF;refine⟨_,rfl,_,rfl,_,rfl,rfl,N2,T.Call.o,rfl,aw,_,_,_,rfl,rfl,SqL.of NP,aN (j:=0) rfl rfl,_,rfl,rfl,N2,T.Call.o,rfl,aw,_,_,_,rfl,rfl,SqL.of NP,aN (j:=1) rfl rfl,_,rfl,_,rfl,?_⟩;refine⟨L,D1,S,u,LY,i,day,n,v,rfl,(hL.same s1).same s2,ok,Nb.same s2,hi,λH3 D3 s3 MK Nd=>?_⟩;refine⟨z,D3,_,_,rfl,rfl,s3 _ _ aa,Nd,?_,λq hq=>?_⟩
 .rw[bE];exact fo (by show 1+_<=5000;omega)
 .have M6:=s1.trans (s2.trans s3);exact k _ q (M6.trans (ak.upd hq)) (M6.free hq) aa
inductive ke(c:Cs)(vs:List V)(H:Hp)(Q:VK)(E:XK):Prop|mk(L x:Addr)(S:LU)(num:Int)(LY day:Nat)(v:List Nat)(_:vs=[.ref L,.ref x])(_:aY c H L S)(_:SOk S)(_:bc c H x num [(LY:Int),(day:Int)] [Vbptaj.ints v])(_:v∈am S)(_:Ans H Q (0::Vbptaj.ints ((inForce S LY v day).map λx=>x.num)))
theorem uH(T:Txt P w K mg c):T.Gm.H P w base 4 (ke c):=by
 refine aS T.Gm ["ledger","call","place","right"] ?_;rintro _ _ _ _ _ H vs Q E hr _ _ _ nd ⟨L,x,S,num,LY,day,v,rfl,hL,ok,⟨dx,aw,ar,rs,e,hx,L7,Mu,MT⟩,hv,k⟩
 refine⟨_,(aj (aO 2 nd (az (hX T) hr (ag (pv 0) (ag (wx 1) aq))))
 (rt (bH fk (aW (ag aI aq)) (bQ rfl nd (a8 (az (fi T) hr (ag (pv 0) (ag (wx 1) (ag (pv 2) (ag (wx 1) aq)))))) (aX (own:=[("right",3)]) (by rfl))
  (by exact λ_ _ _ _ _=>(aT 3 nd))
  (by exact λ_ _ _ _ _=>b7)
  (by exact λ_ _ _ _ _=>(bv (K:=K) rfl (pv 3) rfl)))))),?_⟩
 obtain⟨r0,NT,MD⟩:=ng MT;refine⟨_,rfl,_,rfl,rfl,hx,T.Call.o,rfl,ar,_,_,_,rfl,rfl,SqL.of Mu,aN (j:=0) rfl (by rw[Hd,NT];rfl),?_⟩;refine⟨L,r0,S,v,rfl,hL,ok,MD,hv,λi hi=>?_⟩;refine⟨aB,λz hz=>?_⟩;have s2:=ak.upd (o:=.lst [.int 0]) hz;have N2:=s2 _ _ hx;have NP:=s2 _ _ L7;refine bq ?_;refine⟨_,rfl,_,rfl,rfl,N2,T.Call.o,rfl,aw,_,_,_,rfl,rfl,SqL.of NP,aN (j:=0) rfl rfl,_,rfl,_,rfl,rfl,N2,T.Call.o,rfl,aw,_,_,_,rfl,rfl,SqL.of NP,aN (j:=1) rfl rfl,?_⟩;refine⟨L,S,LY,i,day,v,rfl,hL.same s2,ok,hi,λH3 D3 s3 MK ⟨zs,Ml,Nd,hzr⟩=>?_⟩;have lz:zs.length<=8:=by
  have e:zs.length=(inForce S LY v day).length:=by rw[<-Ml,G8]
  rw[e];unfold inForce;exact Hv (Hz _ _) ok.rLe
 refine⟨D3,rfl,⟨_,SqL.of Nd⟩,?_⟩;refine bT zs (λ_=>true) (λz=>V.int (z.2.num:Nat)) (dQ Nd) (aG (by omega)) ?_ ?_
 .rintro j z' u H' R' hj s' ⟨OA,hz'',rfl⟩ k';have e:OA=z':=Hg (hz''.symm.trans hj);subst e;obtain⟨dr,rc,ro,h1,h2,h3⟩:=(hzr OA (Hl hj)).same s';refine⟨rfl,ck (bS ?_)⟩;exact⟨_,rfl,rfl,h1,T.Right.o,rfl,(k' H' (ak.refl _)).1 rfl⟩
 .intro D4 H4 OD s4 Ng;rw[bh]at Ng;refine⟨z,D4,_,_,rfl,rfl,s4 _ _ (s3 _ _ aa),Ng,?_,λq hq=>?_⟩
  .rw[G8];exact aB (by show 1+_<=1000;omega)
  .have M6:=s2.trans (s3.trans s4);refine k _ q (M6.trans (ak.upd hq)) (M6.free hq) ?_;rw[aa,<-Ml,Hf,HM];unfold Vbptaj.ints;rw[HM,HM];rfl
inductive kg(c:Cs)(vs:List V)(H:Hp)(Q:VK)(E:XK):Prop|mk(L x:Addr)(S:LU)(_:vs=[.ref L,.ref x])(_:aY c H L S)(_:SOk S)(_:Ans H Q (0::Vbptaj.ints (S.deeds.map λd=>d.num)))
theorem uI(T:Txt P w K mg c):T.Gp.H P w base 5 (kg c):=by
 refine aS T.Gp ["ledger","call","deed"] ?_;rintro _ _ _ _ _ H vs Q E hr _ _ _ nd ⟨L,x,S,rfl,hL,ok,k⟩
 refine⟨_,(rt (bH fk (aW (ag aI aq)) (bQ rfl nd (a8 (az (iI T) hr (p1 0))) (aX (own:=[("deed",2)]) (by rfl))
  (by exact λ_ _ _ _ _=>(aT 2 nd))
  (by exact λ_ _ _ _ _=>b7)
  (by exact λ_ _ _ _ _=>(bv (K:=K) rfl (pv 2) rfl))))),?_⟩
 refine⟨aB,λz hz=>?_⟩;have s2:=ak.upd (o:=.lst [.int 0]) hz;refine bq ?_;refine⟨_,rfl,L,S,rfl,hL.same s2,ok,λH3 D3 s3 MK ⟨zs,Ml,Nd,hzr⟩=>?_⟩;have lz:zs.length<=60:=by
  have e:zs.length=S.deeds.length:=by rw[<-Ml,G8]
  rw[e];exact ok.dLe
 refine⟨D3,rfl,⟨_,SqL.of Nd⟩,?_⟩;refine bT zs (λ_=>true) (λz=>V.int (z.2.num:Nat)) (dQ Nd) (aG (by omega)) ?_ ?_
 .rintro j z' u H' R' hj s' ⟨OA,hz'',rfl⟩ k';have e:OA=z':=Hg (hz''.symm.trans hj);subst e;obtain⟨dr,rc,ro,h1,h2,h3⟩:=(hzr OA (Hl hj)).same s';refine⟨rfl,ck (bS ?_)⟩;exact⟨_,rfl,rfl,h1,T.Deed.o,rfl,(k' H' (ak.refl _)).1 rfl⟩
 .intro D4 H4 OD s4 Ng;rw[bh]at Ng;refine⟨z,D4,_,_,rfl,rfl,s4 _ _ (s3 _ _ aa),Ng,?_,λq hq=>?_⟩
  .rw[G8];exact aB (by show 1+_<=1000;omega)
  .have M6:=s2.trans (s3.trans s4);refine k _ q (M6.trans (ak.upd hq)) (M6.free hq) ?_;rw[aa,<-Ml,Hf,HM];unfold Vbptaj.ints;rw[HM,HM];rfl
def ii(d:LV):List Int:=Vbptaj.ints ([d.kind,d.known,d.day,d.right,d.giver,d.taker,d.parts,if d.sole=true then 1 else 0,d.from_,d.to_,d.lands,d.about]++d.box)
inductive lE(c:Cs)(vs:List V)(H:Hp)(Q:VK)(E:XK):Prop|mk(L x:Addr)(S:LU)(num:Int)(d:LV)(_:vs=[.ref L,.ref x])(_:aY c H L S)(_:SOk S)(_:bc c H x num [(d.num:Int)] [])(_:d∈S.deeds)(_:d.box.length<=1000)(_:Ans H Q (ii d))
theorem yH(b:Bool):fB b=((if b=true then 1 else 0:Nat):Int):=by cases b<;>rfl
theorem vx(T:Txt P w K mg c):T.Gq.H P w base 1 (lE c):=by
 refine aS T.Gq ["ledger","call","deed","days","grant"] ?_;rintro _ _ _ _ _ H vs Q E hr hu _ _ nd ⟨L,x,S,num,d,rfl,⟨dL,af,av,NU,N5,Rs,Ds,MV⟩,ok,⟨dx,aw,ar,rs,e,hx,L7,Mu,MT⟩,N4,Px,k⟩
 refine⟨_,(aj (aO 2 nd (dg hu (fv 0) (wx 1) (λ_ _=>rfl)))
 (aj (aO 3 nd (aW (ag (fv 2) (ag (fv 2) (ag (fv 2) aq)))))
 (aj (aO 4 nd (aW (ag (fv 2) (ag (fv 2) (ag (fv 2) (ag (fv 2) (ag (fv 2) (ag (fv 2) (ag (fv 2) (ag (fv 2) aq))))))))))
 (rt (bH fk (bH fk (bH fk (pv 3) (pv 4)) (aW (ag (fv 2) aq))) (fv 2)))))),?_⟩
 obtain⟨y,hy,hyD⟩:=MV.dGet ok N4;obtain⟨dy,yb,yc,h1,h2,h3⟩:=id hyD;refine⟨_,rfl,rfl,MV.obj,T.Ledger.o,rfl,_,rfl,rfl,hx,T.Call.o,rfl,aw,_,_,_,rfl,rfl,SqL.of L7,aN (j:=0) rfl rfl,N5,_,rfl,hy,?_⟩;refine⟨_,rfl,rfl,h1,T.Deed.o,rfl,_,rfl,rfl,h1,T.Deed.o,rfl,_,rfl,rfl,h1,T.Deed.o,rfl,aB,λp1 hp1=>?_⟩;have s1:=ak.upd (o:=.lst [.int (d.kind:Int),.int (d.known:Int),.int (d.day:Int)]) hp1;have Ni:=s1 _ _ h1;refine⟨_,rfl,rfl,Ni,T.Deed.o,rfl,_,rfl,rfl,Ni,T.Deed.o,rfl,_,rfl,rfl,Ni,T.Deed.o,rfl,_,rfl,rfl,Ni,T.Deed.o,rfl,_,rfl,rfl,Ni,T.Deed.o,rfl,_,rfl,rfl,Ni,T.Deed.o,rfl,_,rfl,rfl,Ni,T.Deed.o,rfl,_,rfl,rfl,Ni,T.Deed.o,rfl,aB,λp2 hp2=>?_⟩;have s2:=ak.upd (o:=.lst [.int (d.right:Int),.int (d.giver:Int),.int (d.taker:Int),.int (d.parts:Int),.int (fB d.sole),.int (d.from_:Int),.int (d.to_:Int),.int (d.lands:Int)]) hp2;refine⟨_,rfl,_,rfl,p1,p2,_,_,rfl,rfl,s2 _ _ aa,aa,aB,λp3 hp3=>?_⟩;have s3:=ak.upd (o:=.lst ([.int (d.kind:Int),.int (d.known:Int),.int (d.day:Int)]++[.int (d.right:Int),.int (d.giver:Int),.int (d.taker:Int),.int (d.parts:Int),.int (fB d.sole),.int (d.from_:Int),.int (d.to_:Int),.int (d.lands:Int)])) hp3;have h1'':=s3 _ _ (s2 _ _ Ni);refine⟨_,rfl,rfl,h1'',T.Deed.o,rfl,aB,λp4 hp4=>?_⟩;have s4:=ak.upd (o:=.lst [.int (d.about:Int)]) hp4;refine⟨p3,p4,_,_,rfl,rfl,s4 _ _ aa,aa,aB,λp5 hp5=>?_⟩;have s5:=ak.upd (o:=.lst (([.int (d.kind:Int),.int (d.known:Int),.int (d.day:Int)]++[.int (d.right:Int),.int (d.giver:Int),.int (d.taker:Int),.int (d.parts:Int),.int (fB d.sole),.int (d.from_:Int),.int (d.to_:Int),.int (d.lands:Int)])++[.int (d.about:Int)])) hp5;have s15:=s1.trans (s2.trans (s3.trans (s4.trans s5)));refine⟨_,rfl,rfl,s5 _ _ (s4 _ _ h1''),T.Deed.o,rfl,?_⟩;refine⟨p5,yb,_,_,rfl,rfl,aa,s15 _ _ h2,?_,λq hq=>?_⟩
 .rw[bE];exact fo (by show 12+_<=5000;omega)
 .refine k _ q (s15.trans (ak.upd hq)) (s15.free hq) ?_;rw[aa];refine HU (λz=>some (HO.lst z)) ?_;unfold ii Vbptaj.ints;rw[HL,HL,yH];rfl
theorem gF(l:List Int):SeqAt.shaped (.list (l.map PyData.int))=true:=by unfold SeqAt.shaped;rw[jc,HE];have:=o7 l;exact He (by omega)
theorem oz{K:LS}{H:Hp}{a:Addr}{l:List Nat}(h:H a=some (.lst (nI l))):Dp K H (.ref a) (.list ((Vbptaj.ints l).map PyData.int)):=.lst (SqL.of h) (pS K H _)
theorem wv(l:List Nat):PyData.eqv (.list ((Vbptaj.ints l).map PyData.int)) (.list (([]:List Int).map PyData.int))=l.isEmpty:=by show PyData.eqvAll _ _=_;rw[i_];cases l<;>rfl
def jr(S:LU)(u LY day n:Nat):List Int:=
 (((am S).length-((am S).filter λv=> !(leave S u LY v day n).isEmpty).length:Nat):Int)::Vbptaj.ints (((am S).filter λv=> !(leave S u LY v day n).isEmpty).headD [])
inductive lG(c:Cs)(vs:List V)(H:Hp)(Q:VK)(E:XK):Prop|mk(L x:Addr)(S:LU)(num:Int)(u LY day n:Nat)(_:vs=[.ref L,.ref x])(_:aY c H L S)(_:SOk S)(_:bc c H x num [(u:Int),(LY:Int),(day:Int),(n:Int)] [])(_:Ans H Q (jr S u LY day n))
theorem jy{α:Type}(p:α->Bool):∀l:List α,(l.filter p).length+(l.filter λx=> !p x).length=l.length
 |[]=>rfl
 |a::l=>by
  rw[Hy,Hy];have ih:=jy p l;cases h:p a with
  |true=>rw[Hc rfl,G9 (by simp),Hr,Hr];omega
  |false=>rw[G9 (by simp),Hc (by simp),Hr,Hr];omega
theorem vz(T:Txt P w K mg c):T.Gh.H P w base 8 (lG c):=by
 have B:=T.B;refine aS T.Gh ["ledger","call","day","deeds","free","first","place","variant"] ?_;rintro f _ _ _ s H vs Q E hr _ OP _ nd ⟨L,x,S,num,u,LY,day,n,rfl,hL,ok,⟨dx,aw,ar,rs,e,hx,L7,Mu,MT⟩,k⟩
 refine⟨_,(aj (aO 2 nd (wx 1))
 (aj (aO 3 nd (az (eZ T) hr (ag (pv 0) (ag (pv 2) (ag (wx 1) aq)))))
 (aj (aO 4 nd aI)
 (aj (aO 5 nd (aW aq))
 (aj (cy HI rfl (vZ rfl B.q (ag (fv 0) aq)) (eU (K:=K) (n:=2) rfl rfl (bX (aT 6 nd) (bX (aT 7 nd) eT)))
 (aL (a9 (aA (x_ OP) (az (jx T) hr (ag (pv 0) (ag (pv 3) (ag (wx 1) (ag (wx 1) (p2 6 2)))))) (aW aq) (aD _)) (aL (aO 4 nd (bH d6 (pv 4) aI))) (aL (a9 (aA (x_ OP) (pv 5) (aW aq) (aD _)) (aL (aO 5 nd (pv 7))) aM)))))
 (rt (bH fk (aW (p1 4)) (pv 5)))))))),?_⟩
 obtain⟨dL,af,av,NU,N5,Rs,Ds,MV⟩:=id hL;refine⟨_,rfl,rfl,hx,T.Call.o,rfl,aw,_,_,_,rfl,rfl,SqL.of L7,aN (j:=2) rfl rfl,?_⟩;refine⟨_,rfl,_,rfl,_,rfl,rfl,hx,T.Call.o,rfl,aw,_,_,_,rfl,rfl,SqL.of L7,aN (j:=3) rfl rfl,?_⟩;refine⟨L,S,day,n,rfl,hL,ok,λH1 D1 s1 Np Nb=>?_⟩;refine⟨HJ _,λf0 hf0=>?_⟩;have s2:=ak.upd (o:=.lst []) hf0;have Mg:=s1.trans s2;have OU:=MV.same Mg;obtain⟨vr,OC,PJ⟩:=id OU.vars;have lvr:vr.length=(am S).length:=HC PJ;have l64:=ik ok;generalize Pd:upd H1 f0 (.lst [])=H2 at*;have hf2:H2 f0=some (.lst (nI [])):=by rw[<-Pd];exact aa
 have NN:=Nb.same s2;dsimp only[bp,b6,cu,tC,bu];refine cw ?_;refine⟨_,rfl,rfl,OU.obj,T.Ledger.o,rfl,av,_,rfl,SqL.of OC,?_⟩;generalize hp:(λv=> !(leave S u LY v day n).isEmpty)=p;refine cB (qL (K:=K) (a:=av) (xs:=vr.map V.ref) (G:=λH'=>ak H2 H') λH' s=>SqL.of (s _ _ OC)) (λi σ H'=>∃f v6 v7,σ=[some (.ref L),some (.ref x),some (.int (day:Nat)),some (.ref D1),some (.int ((((am S).take i).filter λv=> !p v).length:Nat)),some (.ref f),v6,v7]/\ak H2 H'/\H' f=some (.lst (nI ((((am S).take i).filter p).headD [])))) ?_ ?_ ?_ ?_
 .exact⟨f0,none,none,rfl,ak.refl _,hf2⟩
 .rintro i σ H' _ ⟨_,_,_,_,s,_⟩;exact s
 .rintro i uu σ H3 H4 hi ⟨f,v6,v7,rfl,s3,hf3⟩ s4 ⟨T',y,rfl,hT,hy⟩;have Nf:=s3.trans s4;have hf4:=s4 _ _ hf3;rw[G8]at hi;obtain⟨r,hr⟩:∃r,vr[i]?=some r:=⟨vr[i],Hn hi⟩;rw[Hd,hr]at hy;cases hy;obtain⟨v,hv,hrv⟩:=gg PJ hr;have hr4:=Nf _ _ hrv;have hx4:=Nf _ _ (Mg _ _ hx);have haw4:=Nf _ _ (Mg _ _ L7);have hvn:v≠[]:=λz=>by have:=cQ S.sizes (Hl hv);rw[z]at this;have:=ok.l1;simp at*;omega
  refine⟨T',_,rfl,SqT.of hT,rfl,_,_,rfl,_,_,rfl,rfl,?_⟩;refine⟨_,rfl,_,rfl,_,rfl,rfl,hx4,T.Call.o,rfl,aw,_,_,_,rfl,rfl,SqL.of haw4,aN (j:=0) rfl rfl,_,rfl,rfl,hx4,T.Call.o,rfl,aw,_,_,_,rfl,rfl,SqL.of haw4,aN (j:=1) rfl rfl,_,rfl,_,rfl,?_⟩;refine⟨L,D1,S,u,LY,i,day,n,v,rfl,(hL.same Mg).same Nf,ok,NN.same Nf,hv,λH5 D5 s5 hD5 hl5=>?_⟩;refine⟨HJ _,λq hq=>?_⟩;have s6:=ak.upd (o:=.lst []) hq;refine⟨_,_,oz (s6 _ _ hl5),oz (l:=[]) aa,gF _,gF _,_,rfl,?_⟩;rw[show PyData.eqv (.list ((Vbptaj.ints (leave S u LY v day n)).map PyData.int)) (.list ((Vbptaj.ints []).map PyData.int))=(leave S u LY v day n).isEmpty from wv _];have hpv:p v= !(leave S u LY v day n).isEmpty:=by rw[<-hp]
  have s36:=Nf.trans (s5.trans s6);have hf6:=s6 _ _ (s5 _ _ hf4);refine aP (λh1=>?_) λh1=>?_
  .rw[h1]at hpv;have e1:((am S).take (i+1)).filter p=((am S).take i).filter p:=by rw[a6 hv,IK,Hy,G9 (by rw[hpv];simp)];simp
   have e2:(((am S).take (i+1)).filter λv=> !p v).length=(((am S).take i).filter λv=> !p v).length+1:=by rw[a6 hv,IK,Hy,Hc (by rw[hpv];rfl),Hx];rfl
   refine⟨_,rfl,_,_,rfl,rfl,f,some (.int (i:Nat)),some (.ref r),?_,s36,by rw[e1];exact hf6⟩;rw[e2];rfl
  .have Ni:=dM h1;rw[Ni]at hpv;have e2:(((am S).take (i+1)).filter λv=> !p v)=(((am S).take i).filter λv=> !p v):=by rw[a6 hv,IK,Hy,G9 (by rw[hpv];simp)];simp
   have e1:((am S).take (i+1)).filter p=((am S).take i).filter p++[v]:=by rw[a6 hv,IK,Hy,Hc (by rw[hpv];rfl)];rfl
   refine⟨_,rfl,HJ _,λq2 Pe=>?_⟩;have s7:=ak.upd (o:=.lst []) Pe;refine⟨_,_,oz (s7 _ _ hf6),oz (l:=[]) aa,gF _,gF _,_,rfl,?_⟩;rw[show PyData.eqv (.list ((Vbptaj.ints ((((am S).take i).filter p).headD [])).map PyData.int)) (.list ((Vbptaj.ints []).map PyData.int))=((((am S).take i).filter p).headD []).isEmpty from wv _];have MA:∀w∈((am S).take i).filter p,w≠[]:=λw hw z=>by have hw2:=Kr (HK.mp hw).1;have:=cQ S.sizes hw2;rw[z]at this;have:=ok.l1;simp at*;omega
   refine aP (λh2=>?_) λh2=>?_
   .have e3:((am S).take i).filter p=[]:=by
     cases hh:((am S).take i).filter p with
     |nil=>rfl
     |cons w ws=>
      rw[hh]at h2 MA;have:=MA w (Hk ..);cases w with
      |nil=>exact absurd rfl this
      |cons a b=>cases h2
    refine⟨_,rfl,r,some (.int (i:Nat)),some (.ref r),?_,s36.trans s7,?_⟩
    .rw[e2];rfl
    .rw[e1,e3];exact s7 _ _ (s6 _ _ (s5 _ _ hr4))
   .refine⟨f,some (.int (i:Nat)),some (.ref r),by rw[e2];rfl,s36.trans s7,?_⟩;rw[e1];cases hh:((am S).take i).filter p with
    |nil=>rw[hh]at h2;exact absurd rfl h2
    |cons w ws=>rw[hh]at hf6;exact s7 _ _ hf6
 .rintro σ H' ⟨f,v6,v7,rfl,s3,hf3⟩;rw[G8,lvr,Im]at hf3;rw[G8,lvr,Im];refine⟨_,rfl,aB,λq hq=>?_⟩;have s4:=ak.upd (o:=.lst [.int (((am S).filter λv=> !p v).length:Nat)]) hq;have L3:(((am S).filter p).headD []).length<=1000:=by
   cases hh:(am S).filter p with
   |nil=>exact HJ _
   |cons w ws=>
    have hw:w∈(am S).filter p:=by rw[hh];exact Hk ..
    have:=cQ S.sizes (HK.mp hw).1;have:=ok.l6;show w.length<=1000;omega
  refine⟨_,rfl,q,f,_,_,rfl,rfl,aa,s4 _ _ hf3,?_,λq2 Pe=>?_⟩
  .rw[bE];exact fo (by show 1+_<=5000;omega)
  .have sA:=Mg.trans (s3.trans s4);refine k _ q2 (sA.trans (ak.upd Pe)) (sA.free Pe) ?_;rw[aa];unfold jr;rw[hp];have:=jy p (am S);have e:(am S).length-((am S).filter p).length=((am S).filter λv=> !p v).length:=by omega
   rw[e];rfl
theorem CT(h:t σ H λxs H1=>xs.length<=sizeLine/\∀p,H1 p=none->Q (.ref p) (upd H1 p (.lst xs))):wI t σ H Q:=h
theorem yd(n:Nat)(l:List Nat):inV (V.int (n:Int)) (nI l)=l.contains n:=by
 unfold inV;rw[d7,Kv];apply HD.mpr;rw[IR,HZ];constructor
 .rintro⟨x,hx,h⟩;have h':eqV (V.int (x:Int)) (V.int (n:Int))=true:=h;simp[eqV]at h';have:x=n:=by omega
  exact this▸hx
 .intro h;exact⟨n,h,by show eqV (V.int (n:Int)) (V.int (n:Int))=true;simp[eqV]⟩
theorem wu(l:List Nat):(nI l).all eJ=true:=Ij.mpr λv hv=>by rw[d7]at hv;obtain⟨n,_,rfl⟩:=HA.mp hv;rfl
theorem kP(h:i∈a0 vr R):vr[i]?=some (vr.getD i []):=by unfold a0 at h;have:=J5.mp (HK.mp h).1;rw[Iw,Hn this];rfl
theorem g9(vr:List (List Nat))(R:LW):(a0 vr R).length<=vr.length:=by unfold a0;exact Hv (Hz _ _) (by rw[Ic];exact Hu _)
theorem jI(S:LU)(day n:Nat):((wkd S day n).filter λd=>d.kind !=1).Sublist S.deeds:=Ip.trans (gp S day n)
theorem jJ(S:LU)(day n:Nat):∀d∈(wkd S day n).filter λd=>d.kind !=1,d.kind≠5:=λd hd=>hZ S day n d (HK.mp hd).1
theorem mn(S:LU)(R:LW)(LY:Nat)(v:List Nat)(day n:Nat):(cG S R LY v ((wkd S day n).filter λd=>d.kind !=1)).hold=(Vbptaj.cellAt S R LY v day n).hold:=by rw[(mY S R LY v (wkd S day n)).1,iT]
def f8(S:LU)(R:LW)(LY:Nat):List Nat:=if(bw R.lands).contains LY=true then a0 (am S) R else []
def cN(S:LU)(R:LW)(p LY day n:Nat):List Nat:=(f8 S R LY).map λi=>partsOf (Vbptaj.cellAt S R LY ((am S).getD i []) day n).hold p
inductive j_(c:Cs)(vs:List V)(H:Hp)(Q:VK)(E:XK):Prop|mk(L x:Addr)(S:LU)(num:Int)(R:LW)(p LY day n:Nat)(_:vs=[.ref L,.ref x])(_:aY c H L S)(_:SOk S)(_:bc c H x num [(R.num:Int),(p:Int),(LY:Int),(day:Int),(n:Int)] [])(_:R∈S.rights)(_:Ans H Q (Vbptaj.ints [((cN S R p LY day n).filter λq=>decide (0<q)).length,(cN S R p LY day n).sum]))
theorem uE(T:Txt P w K mg c):T.Gi.H P w base 8 (j_ c):=by
 have B:=T.B;refine aS T.Gi ["ledger","call","right","person","land","deeds","places","parts","place","many"] ?_;rintro _ _ _ _ s H vs Q E hr hu _ _ nd ⟨L,x,S,num,R,p,LY,day,n,rfl,hL,ok,⟨dx,aw,ar,rs,e,hx,L7,Mu,MT⟩,hRm,k⟩
 refine⟨_,(aj (aO 2 nd (dg hu (fv 0) (wx 1) (λ_ _=>rfl)))
 (aj (aO 3 nd (wx 1))
 (aj (aO 4 nd (wx 1))
 (aj (aO 5 nd (az (fM T) hr (ag (pv 0) (ag (wx 1) (ag (wx 1) aq)))))
 (aj (aO 6 nd (nE (aA iO (pv 4) (az (j5 T) hr (p1 2)) (by with_unfolding_all rfl)) (az (i9 T) hr (p1 2)) (aW aq)))
 (aj (iw (i:=7) rfl nd rfl rfl (jm rfl rfl rfl rfl) (a8 (pv 6)) (aX (own:=[("place",8)]) (by rfl))
  (by exact λ_ _ _ _ _=>(aT 8 nd))
  (by exact λ_ _ _ _ _=>b7)
  (by exact λ_ _ _ _ _=>(iz hu (az (iP T) hr (ag (pv 0) (ag (pv 5) (ag (pv 2) (p2 4 8))))) (pv 3) aI ⟨rfl,rfl,rfl,rfl⟩)))
 (rt (aW (ag (aK aV (by rfl) B.q Ig (ag (bQ rfl nd (a8 (pv 7)) (aX (own:=[("many",9)]) (by rfl))
  (by exact λ_ _ _ _ _=>(aT 9 nd))
  (by exact λ_ _ _ _ _=>(cC (aA l8 (pv 9) aI (aD _))))
  (by exact λ_ _ _ _ _=>(pv 9))) aq)) (ag (aK (yj rfl) (by rfl) B.q boot_sum (p1 7)) aq)))))))))),?_⟩
 obtain⟨dL,af,av,NU,N5,Rs,Ds,MV⟩:=id hL;obtain⟨y,hy,OS⟩:=MV.rGet ok hRm;have l64:=ik ok;refine⟨_,rfl,rfl,MV.obj,T.Ledger.o,rfl,_,rfl,rfl,hx,T.Call.o,rfl,aw,_,_,_,rfl,rfl,SqL.of L7,aN (j:=0) rfl rfl,NU,_,rfl,hy,?_⟩;refine⟨_,rfl,rfl,hx,T.Call.o,rfl,aw,_,_,_,rfl,rfl,SqL.of L7,aN (j:=1) rfl rfl,?_⟩;refine⟨_,rfl,rfl,hx,T.Call.o,rfl,aw,_,_,_,rfl,rfl,SqL.of L7,aN (j:=2) rfl rfl,?_⟩;refine⟨_,rfl,_,rfl,rfl,hx,T.Call.o,rfl,aw,_,_,_,rfl,rfl,SqL.of L7,aN (j:=3) rfl rfl,_,rfl,rfl,hx,T.Call.o,rfl,aw,_,_,_,rfl,rfl,SqL.of L7,aN (j:=4) rfl rfl,?_⟩;refine⟨L,S,day,n,rfl,hL,ok,λH1 D1 s1 Np Nb=>?_⟩;refine⟨_,rfl,_,rfl,y,R,am S,rfl,OS.same s1,λH2 D2 s2 MO hl2=>?_⟩;refine⟨D2,_,rfl,.inl (SqL.of hl2),rfl,wu _,_,rfl,?_⟩;simp only[false_eq_true,if_false];rw[yd];have Mg:=s1.trans s2;have lpl:(f8 S R LY).length<=64:=by
  unfold f8;split
  .exact Hv (g9 _ _) l64
  .exact HJ _
 have rest:∀(H3:Hp)(PL:Addr),ak H2 H3->H3 PL=some (.lst (nI (f8 S R LY)))->∀(v7 v8 v9:Option V),tLc (sf K (bA 6)) (bu 8) zo (sv (g4 (oM c) [] E0 (br (bA 0) (br (bA 5) (br (bA 2) (br (bA 4) (br (bA 8) c9)))))) (bA 3) (tC (.int 0))) [8] [some (.ref L),some (.ref x),some (.ref y),some (.int (p:Nat)),some (.int (LY:Nat)),some (.ref D1),some (.ref PL),none,none,none] H3 λx_1 H1=>
   si (wI (br (tCB (λxs H_1 Q=>∃p ys,xs=[V.ref p]/\(SqL K H_1 p ys\/SqT K H_1 p ys)/\Q (V.int (ys.length:Nat)) H_1) (br (tLc (sf K (bA 7)) (bu 9) (jD (tOp (rI0 λi j=>V.bl (decide (j<i))) (bA 9) (tC (.int 0)))) (bA 9) [9]) c9)) (br (tCB (CB K) (br (bA 7) c9)) c9))) {nx:=λx H'=>Q V.non H',rt:=Q} [some (.ref L),some (.ref x),some (.ref y),some (.int (p:Nat)),some (.int (LY:Nat)),some (.ref D1),some (.ref PL),some x_1,none,none] H1:=by
  intro H3 PL s3 hPL v7 v8 v9;refine bq ?_;refine⟨_,rfl,PL,rfl,⟨_,SqL.of hPL⟩,?_⟩;have M6:=Mg.trans s3;refine bT (f8 S R LY) (λ_=>true) (λi=>V.int (partsOf (Vbptaj.cellAt S R LY ((am S).getD i []) day n).hold p:Nat)) (Item:=λi v _=>(nI (f8 S R LY))[i]?=some v) ?_ (aG (by omega)) ?_ ?_
  .have q:=b9 (K:=K) (a:=PL) (xs:=nI (f8 S R LY)) (G:=λH'=>ak H3 H') λH' s=>SqL.of (s _ _ hPL);rw[bE]at q;exact q
  .intro j i v H' R' hj s' hv k';rw[l9 hj]at hv;cases hv;have hi:(am S)[i]?=some ((am S).getD i []):=by
    have hm:=Hl hj;unfold f8 at hm;split at hm
    .exact kP hm
    .cases hm
   refine⟨rfl,ck (bS ?_)⟩;have sH:=M6.trans s';refine⟨_,rfl,_,rfl,_,rfl,_,rfl,_,rfl,L,D1,y,S,_,R,LY,i,_,rfl,hL.same sH,ok,Nb.same (s2.trans (s3.trans s')),jI S day n,jJ S day n,OS.same sH,hRm,hi,λH5 ah ps s5 hah hH5 pm ⟨done,wf,_⟩=>?_⟩;refine⟨ah,rfl,.inl ⟨_,.inl hH5⟩,_,rfl,_,bP.k (k:=Sum.inl (p:Int)) hH5,?_⟩;have e1:(aQ (pN ps) (Sum.inl (p:Int))).getD (.int 0)=.int (partsOf (Vbptaj.cellAt S R LY ((am S).getD i []) day n).hold p:Nat):=by rw[gf pm (b_ wf.srt),oR,mn]
   rw[e1];exact(k' H5 s5).1 rfl
  .intro D4 H4 OD s4 Ng;rw[bh]at Ng;have e0:(f8 S R LY).map (λi=>V.int (partsOf (Vbptaj.cellAt S R LY ((am S).getD i []) day n).hold p:Nat))=nI (cN S R p LY day n):=by rw[d7];unfold cN;rw[HM];rfl
   rw[e0]at Ng;have lpa:(cN S R p LY day n).length<=64:=by unfold cN;rw[G8];exact lpl
   refine cn (CT (dP (gA (dP (bq ?_)))));refine⟨_,rfl,D4,rfl,⟨_,SqL.of Ng⟩,?_⟩;refine bT (cN S R p LY day n) (λq=>decide (0<q)) (λq=>V.int (q:Nat)) (Item:=λi v _=>(nI (cN S R p LY day n))[i]?=some v) ?_ (aG (by omega)) ?_ ?_
   .have q:=b9 (K:=K) (a:=D4) (xs:=nI (cN S R p LY day n)) (G:=λH'=>ak H4 H') λH' s=>SqL.of (s _ _ Ng);rw[bE]at q;exact q
   .intro j i v H' R' hj s' hv k';rw[l9 hj]at hv;cases hv;refine⟨rfl,?_⟩;have kk:=k' H' (ak.refl _);refine⟨_,rfl,_,_,rfl,rfl,_,rfl,aP (λh=>⟨_,rfl,kk.1 ?_⟩) λh=>kk.2 ?_⟩
    .have:=Hb h;exact He (by omega)
    .exact Hw λz=>h (He (by omega))
   .intro D5 H5 hD5 s5 hl5;refine⟨D5,_,rfl,.inl (SqL.of hl5),_,rfl,D4,_,rfl,SqL.of (s5 _ _ Ng),aB,λq hq=>?_⟩;have sA:=M6.trans (s4.trans s5);refine k _ q (sA.trans (ak.upd hq)) (sA.free hq) ?_;rw[aa];refine HU (λz=>some (HO.lst z)) ?_;rw[G8];show [V.int _,V.int _]=[V.int _,V.int _];have e3:(Vbptaj.ints (cN S R p LY day n)).sum=((cN S R p LY day n).sum:Nat):=nu _;rw[e3]
 dsimp only[bp,b6,cu,tC,bu];refine aP (λh=>?_) λh=>?_
 .have epl:f8 S R LY=a0 (am S) R:=by unfold f8;rw[Hc h]
  refine⟨_,rfl,y,R,am S,rfl,OS.same Mg,by omega,λH3 D3 s3 MK Nd=>?_⟩;exact rest H3 D3 s3 (by rw[epl];exact Nd) none none none
 .have epl:f8 S R LY=[]:=by unfold f8;rw[G9 h]
  refine⟨HJ _,λD3 MK=>?_⟩;exact rest _ D3 (ak.upd MK) (by rw[aa,epl];rfl) none none none
def pE(cs:List LV)(d:LV):List LV:=(cs.filter λy=>cj y d).filter λy=>y.kind !=1
def dD(S:LU)(R:LW)(d:LV)(cs:List LV)(LY i:Nat):List Str:=if bD S d R.num LY ((am S).getD i [])=true then [nh (cG S R LY ((am S).getD i []) (pE cs d)) d]else []
def pC(S:LU)(R:LW)(d:LV)(cs:List LV):List Str:=(bw R.lands).flatMap λLY=>(a0 (am S) R).flatMap λi=>dD S R d cs LY i
theorem nP(S:LU)(R:LW)(d:LV)(cs:List LV)(LY i:Nat):(dD S R d cs LY i).length<=1:=by
 unfold dD;split
 .exact Hu _
 .exact HJ _
theorem ig{α β:Type}(f:α->List β)(k:Nat)(h:∀a,(f a).length<=k):∀l:List α,(l.flatMap f).length<=k*l.length
 |[]=>HJ _
 |a::l=>by rw[Iu,Hx,Hr,mul_succ];have:=h a;have:=ig f k h l;omega
theorem qJ(w:Nat):(bw w).length<=4:=by unfold bw;exact Hv (Hz _ _) (by decide)
inductive rE(c:Cs)(vs:List V)(H:Hp)(Q:VK)(E:XK):Prop|mk(L y b:Addr)(S:LU)(R:LW)(d:LV)(cs:List LV)(_:vs=[.ref L,.ref y,.ref b])(_:aY c H L S)(_:SOk S)(_:b0 c (am S) H y d)(_:d∈S.deeds)(_:d.kind<=2)(_:R∈S.rights)(_:R.num=d.right)(_:DL c (am S) H b cs)(_:cs.Sublist S.deeds)(_:(∀d∈cs,d.kind≠5))(_:∀H' D,ak H H'->H D=none->H' D=some (.lst ((pC S R d cs).map V.str))->Q (.ref D) H')
theorem uM(T:Txt P w K mg c):T.Gj.H P w base 7 (rE c):=by
 refine aS T.Gj ["ledger","deed","counted","right","before","effects","land","place"] ?_;rintro _ _ _ _ s H vs Q E hr hu _ _ nd ⟨L,y,b,S,R,d,cs,rfl,hL,ok,hd,N4,hk2,hRm,NQ,dl,MC,h5,k⟩
 refine⟨_,(aj (aO 3 nd (dg hu (fv 0) (fv 1) (λ_ _=>rfl)))
 (aj (aO 4 nd (az (iH T) hr (ag (az (qe T) hr (p2 2 1)) aq)))
 (aj (aO 5 nd (aW aq))
 (aj (cy HI rfl (a8 (az (j5 T) hr (p1 3))) (aT 6 nd)
 (aL (cy HI rfl (a8 (az (i9 T) hr (p1 3))) (aT 7 nd)
 (aL (a9 (eL (az (tV T) hr (ag (pv 0) (ag (pv 1) (ag (pv 3) (p2 6 7))))) (λ_=>rfl)) (aL (bU (dG Ib Ix ID fZ (pv 5) (ag (az (vE T) hr (ag (az (kZ T) hr (ag (pv 0) (ag (pv 4) (ag (pv 3) (p2 6 7))))) (p1 1))) aq)))) aM)))))
 (rt (pv 5)))))),?_⟩
 obtain⟨dL,af,av,NU,N5,Rs,Ds,MV⟩:=id hL;obtain⟨x,hx,hxR⟩:=MV.rGet ok hRm;rw[NQ]at hx;obtain⟨dy,yb,yc,Nk,hy2,Pw⟩:=id hd;have l64:=ik ok;have lcs:cs.length<=1000:=Hv MC.length_le (Hv ok.dLe (by decide));refine⟨_,rfl,rfl,MV.obj,T.Ledger.o,rfl,_,rfl,rfl,Nk,T.Deed.o,rfl,NU,_,rfl,hx,?_⟩;refine⟨_,rfl,_,rfl,b,y,cs,d,am S,rfl,dl,hd,lcs,λH1 D1 s1 Np Nb=>?_⟩;refine⟨D1,_,am S,rfl,Nb,Hv (Hz _ _) lcs,λH2 D2 s2 MO NN=>?_⟩;have NN:DL c (am S) H2 D2 (pE cs d):=NN;have Mg:=s1.trans s2;have ME:(pE cs d).Sublist S.deeds:=Ip.trans (Ip.trans MC);have h52:∀z∈pE cs d,z.kind≠5:=λz m=>h5 z (HK.mp (HK.mp m).1).1;refine⟨HJ _,λMY hE=>?_⟩;have s3:=ak.upd (o:=.lst []) hE;have fE:H MY=none:=Mg.free hE;dsimp only[bp,b6,cu,tC,bu];refine cw ?_;refine⟨_,rfl,x,R,am S,rfl,(hxR.same Mg).same s3,λH4 DL4 s4 hDL4 Ng=>?_⟩;have nLE:DL4≠MY:=λe=>by rw[e,aa]at hDL4;cases hDL4
 have hE4:H4 MY=some (.lst (([]:List Str).map V.str)):=s4 _ _ aa;have sB:ak H2 (hide H4 MY):=dv (s3.trans s4) hE;have hLB:(hide H4 MY) DL4=some (.lst (nI (bw R.lands))):=by rw[cq nLE];exact Ng
 have l4:=qJ R.lands;have lpl:=g9 (am S) R;refine⟨DL4,rfl,⟨_,SqL.of Ng⟩,?_⟩;refine cB (b9 (K:=K) (a:=DL4) (xs:=nI (bw R.lands)) (G:=λH'=>ak (hide H4 MY) H') λH' s=>SqL.of (s _ _ hLB)) (λi σ H'=>∃v6 v7,σ=[some (.ref L),some (.ref y),some (.ref b),some (.ref x),some (.ref D2),some (.ref MY),v6,v7]/\ak (hide H4 MY) H'/\H' MY=some (.lst ((((bw R.lands).take i).flatMap λLY=>(a0 (am S) R).flatMap λj=>dD S R d cs LY j).map V.str))) ?_ ?_ ?_ ?_
 .exact⟨none,none,rfl,d3,hE4⟩
 .rintro i σ H' _ ⟨_,_,_,s,_⟩;exact s
 .rintro i v σ H5 H6 hi ⟨v6,v7,rfl,s5,hE5⟩ s6 hv;obtain⟨LY,Oe,rfl⟩:=jf hv;have hE6:=s6 _ _ hE5;have OV:=s5.trans s6;have sH6:=Mg.trans (sB.trans OV);refine cw ?_;refine⟨_,rfl,x,R,am S,rfl,hxR.same sH6,by omega,λH7 DP s7 hDP hl7=>?_⟩;have nPE:DP≠MY:=λe=>by rw[e,hE6]at hDP;cases hDP
  have hE7:=s7 _ _ hE6;have fE2:H2 MY=none:=hE;have sB2:ak (hide H4 MY) (hide H7 MY):=dv (OV.trans s7) dh;have hPB:(hide H7 MY) DP=some (.lst (nI (a0 (am S) R))):=by rw[cq nPE];exact hl7
  refine⟨DP,rfl,⟨_,SqL.of hl7⟩,?_⟩;refine cB (b9 (K:=K) (a:=DP) (xs:=nI (a0 (am S) R)) (G:=λH'=>ak (hide H7 MY) H') λH' s=>SqL.of (s _ _ hPB)) (λj σ H'=>∃v7,σ=[some (.ref L),some (.ref y),some (.ref b),some (.ref x),some (.ref D2),some (.ref MY),some (.int (LY:Nat)),v7]/\ak (hide H7 MY) H'/\H' MY=some (.lst (((((bw R.lands).take i).flatMap λLY=>(a0 (am S) R).flatMap λj=>dD S R d cs LY j)++((a0 (am S) R).take j).flatMap λj=>dD S R d cs LY j).map V.str))) ?_ ?_ ?_ ?_
  .refine⟨v7,rfl,d3,?_⟩;rw[hE7];simp
  .rintro j σ H' _ ⟨_,_,s,_⟩;exact s
  .rintro j v' σ H8 H9 hj ⟨v7,rfl,s8,hE8⟩ s9 NX;obtain⟨i2,Pt,rfl⟩:=jf NX;have hE9:=s9 _ _ hE8;have s89:=s8.trans s9;have OW:=Mg.trans (sB.trans (sB2.trans s89));have sH29:=sB.trans (sB2.trans s89);have Ms:(am S)[i2]?=some ((am S).getD i2 []):=kP (Hl Pt);refine⟨_,rfl,_,rfl,_,rfl,_,rfl,_,rfl,L,y,x,S,d,R,LY,i2,_,rfl,hL.same OW,ok,hd.same OW,N4,by omega,hxR.same OW,Ms,_,rfl,?_⟩;have fin:∀(H':Hp)(es:List Str),ak (hide H7 MY) H'->es=dD S R d cs LY i2->H' MY=some (.lst ((((((bw R.lands).take i).flatMap λLY=>(a0 (am S) R).flatMap λj=>dD S R d cs LY j)++((a0 (am S) R).take j).flatMap λj=>dD S R d cs LY j)++es).map V.str))->∃v7,[some (V.ref L),some (V.ref y),some (V.ref b),some (V.ref x),some (V.ref D2),some (V.ref MY),some (V.int (LY:Nat)),some (V.int (i2:Nat))]=[some (V.ref L),some (V.ref y),some (V.ref b),some (V.ref x),some (V.ref D2),some (V.ref MY),some (V.int (LY:Nat)),v7]/\ak (hide H7 MY) H'/\H' MY=some (.lst (((((bw R.lands).take i).flatMap λLY=>(a0 (am S) R).flatMap λj=>dD S R d cs LY j)++((a0 (am S) R).take (j+1)).flatMap λj=>dD S R d cs LY j).map V.str)):=λH' es s' he hE'=>by refine⟨_,rfl,s',?_⟩;rw[hE',he,a6 Pt,IM,Jz];simp
   refine aP (λh=>?_) λh=>?_
   .have he:dD S R d cs LY i2=[nh (cG S R LY ((am S).getD i2 []) (pE cs d)) d]:=by unfold dD;rw[Hc h]
    refine⟨_,rfl,.inl ⟨rfl,_,SqL.of hE9⟩,_,rfl,_,rfl,_,rfl,_,rfl,_,rfl,?_⟩;refine⟨L,D2,x,S,_,R,LY,i2,_,rfl,hL.same OW,ok,NN.same sH29,ME,h52,hxR.same OW,hRm,Ms,λH10 z Pj hz cA ⟨done,wf,O7⟩=>?_⟩;refine⟨_,rfl,H9,z,y,_,d,am S,done,rfl,cA,wf,O7,(hd.same OW).same Pj,λH11 s11=>?_⟩;have hE11:=s11 _ _ (Pj _ _ hE9);refine⟨MY,_,_,rfl,rfl,hE11,?_,?_⟩
    .rw[G8,Hx];have q1:=ig (λLY=>(a0 (am S) R).flatMap λj=>dD S R d cs LY j) 64 (λLY=>Hv (ig (λj=>dD S R d cs LY j) 1 (λj=>nP S R d cs LY j) _) (by omega)) ((bw R.lands).take i);have q2:=ig (λj=>dD S R d cs LY j) 1 (λj=>nP S R d cs LY j) ((a0 (am S) R).take j);have q3:((bw R.lands).take i).length<=4:=by rw[Iv];omega
     have q4:((a0 (am S) R).take j).length<=64:=by rw[Iv];omega
     exact aG (by omega)
    .refine fin _ _ (a_ (s89.trans (Pj.trans s11)) dh) he.symm ?_;rw[aa];refine HU (λz=>some (HO.lst z)) ?_;simp only[map_append,map_cons,map_nil]
   .have he:dD S R d cs LY i2=[]:=by unfold dD;rw[G9 h]
    exact fin H9 [] s89 he.symm (by rw[hE9,IU])
  .rintro σ H' ⟨v7,rfl,s8,hE8⟩;rw[bE,Im]at hE8;refine⟨_,_,rfl,sB2.trans s8,?_⟩;rw[hE8,a6 Oe,IM];simp
 .rintro σ H' ⟨v6,v7,rfl,s5,hE5⟩;rw[bE,Im]at hE5;exact⟨_,rfl,k H' MY (Mg.trans (sB.trans s5)) fE hE5⟩
def ni(x:Str)(es:List Str):Nat:=es.countP λy=>y==x
def oG(es:List Str):List Int:=Vbptaj.ints [es.length,ni "wholly" es,ni "in part" es,ni "not at all" es]
def d9(S:LU)(R:LW)(d:LV)(n:Nat):List Str:=if((counted S n).map (·.num)).contains d.num=true then pC S R d (counted S n)else []
theorem AG(ok:SOk S)(R:LW)(d:LV)(cs:List LV):(pC S R d cs).length<=256:=by unfold pC;have l64:=ik ok;have lpl:=g9 (am S) R;have q1:=ig (λLY=>(a0 (am S) R).flatMap λj=>dD S R d cs LY j) 64 (λLY=>Hv (ig (λj=>dD S R d cs LY j) 1 (λj=>nP S R d cs LY j) _) (by omega)) (bw R.lands);have:=qJ R.lands;omega
theorem lf(x:Str)(es:List Str):((es.map V.str).countP λz=>eqV z (V.str x))=ni x es:=by unfold ni;rw[List.countP_map];congr 1
theorem nN(es:List Str):(es.map V.str).all eJ=true:=Ij.mpr λv hv=>by obtain⟨n,_,rfl⟩:=HA.mp hv;rfl
inductive ju(c:Cs)(vs:List V)(H:Hp)(Q:VK)(E:XK):Prop|mk(L x:Addr)(S:LU)(num:Int)(R:LW)(d:LV)(n:Nat)(_:vs=[.ref L,.ref x])(_:aY c H L S)(_:SOk S)(_:bc c H x num [(d.num:Int),(n:Int)] [])(_:d∈S.deeds)(_:d.kind<=2)(_:R∈S.rights)(_:R.num=d.right)(_:Ans H Q (oG (d9 S R d n)))
theorem rM(T:Txt P w K mg c):T.Gk.H P w base 8 (ju c):=by
 have B:=T.B;refine aS T.Gk ["ledger","call","deed","counted","effects","other"] ?_;rintro _ _ _ _ _ H vs Q E hr hu _ _ nd ⟨L,x,S,num,R,d,n,rfl,hL,ok,⟨dx,aw,ar,rs,e,hx,L7,Mu,MT⟩,N4,hk2,hRm,NQ,k⟩
 refine⟨_,(aj (aO 2 nd (dg hu (fv 0) (wx 1) (λ_ _=>rfl)))
 (aj (aO 3 nd (az (iX T) hr (ag (pv 0) (ag (wx 1) aq))))
 (aj (aO 4 nd (aW aq))
 (aj (a9 (aA iO (fv 2) (bQ rfl nd (a8 (pv 3)) (aX (own:=[("other",5)]) (by rfl))
  (by exact λ_ _ _ _ _=>(aT 5 nd))
  (by exact λ_ _ _ _ _=>b7)
  (by exact λ_ _ _ _ _=>(bv (K:=K) rfl (pv 5) rfl))) (by with_unfolding_all rfl)) (aL (aO 4 nd (az (uM T) hr (ag (pv 0) (p2 2 3))))) aM)
 (rt (aW (ag (aK aV (by rfl) B.q Ig (p1 4)) (ag (dG Ib KN type_list_count kU (pv 4) (ag (iK rfl T.G0) aq)) (ag (dG Ib KN type_list_count kU (pv 4) (ag (iK rfl T.G3) aq)) (ag (dG Ib KN type_list_count kU (pv 4) (ag (iK rfl T.G4) aq)) aq)))))))))),?_⟩
 obtain⟨dL,af,av,NU,N5,Rs,Ds,MV⟩:=id hL;obtain⟨y,hy,hyD⟩:=MV.dGet ok N4;refine⟨_,rfl,rfl,MV.obj,T.Ledger.o,rfl,_,rfl,rfl,hx,T.Call.o,rfl,aw,_,_,_,rfl,rfl,SqL.of L7,aN (j:=0) rfl rfl,N5,_,rfl,hy,?_⟩;refine⟨_,rfl,_,rfl,rfl,hx,T.Call.o,rfl,aw,_,_,_,rfl,rfl,SqL.of L7,aN (j:=1) rfl rfl,?_⟩;refine⟨L,S,n,rfl,hL,ok,λH1 D1 s1 Np Nb=>?_⟩;refine⟨HJ _,λE1 hE1=>?_⟩;have s2:=ak.upd (o:=.lst []) hE1;have Mg:=s1.trans s2;obtain⟨dy,yb,yc,Nk,hy2,Pw⟩:=hyD.same Mg;have NN:=Nb.same s2;obtain⟨zs,Ml,hzl,hzd⟩:=id NN;have lz:zs.length<=60:=by
  have:zs.length=(counted S n).length:=by rw[<-Ml,G8]
  rw[this];exact m8 S n ok
 refine⟨_,rfl,rfl,Nk,T.Deed.o,rfl,?_⟩;refine bq ?_;refine⟨_,rfl,D1,rfl,⟨_,SqL.of hzl⟩,?_⟩;refine bT zs (λ_=>true) (λz=>V.int (z.2.num:Nat)) (dQ hzl) (aG (by omega)) ?_ ?_
 .rintro j z' u H' R' hj s' ⟨OA,hz'',rfl⟩ k';have e:OA=z':=Hg (hz''.symm.trans hj);subst e;obtain⟨dr,rc,ro,h1,h2,h3⟩:=(hzd OA (Hl hj)).same s';refine⟨rfl,ck (bS ?_)⟩;exact⟨_,rfl,rfl,h1,T.Deed.o,rfl,(k' H' (ak.refl _)).1 rfl⟩
 intro D3 H3 MK s3 Nd;rw[bh]at Nd;have en:(zs.map λz=>V.int (z.2.num:Nat))=nI ((counted S n).map (·.num)):=by rw[<-Ml,d7,HM,HM];rfl
 rw[en]at Nd;refine⟨D3,_,rfl,.inl (SqL.of Nd),rfl,wu _,_,rfl,?_⟩;simp only[false_eq_true,if_false];rw[yd];have M6:=Mg.trans s3;have fin:∀(H':Hp)(E':Addr)(v5:Option V),ak H H'->H' E'=some (.lst ((d9 S R d n).map V.str))->si (wI (br (tCB (λxs H_1 Q=>∃p ys,xs=[V.ref p]/\(SqL K H_1 p ys\/SqT K H_1 p ys)/\Q (V.int (ys.length:Nat)) H_1) (br (bA 4) c9)) (br (tBM K "list" (oj K) (bA 4) (br (tC (.str "wholly")) c9)) (br (tBM K "list" (oj K) (bA 4) (br (tC (.str "in part")) c9)) (br (tBM K "list" (oj K) (bA 4) (br (tC (.str "not at all")) c9)) c9))))) {nx:=λx H'=>Q V.non H',rt:=Q} [some (.ref L),some (.ref x),some (.ref y),some (.ref D1),some (.ref E'),v5] H':=by
  intro H' E' v5 sA hE';have hq:=SqL.of (K:=K) hE';have le:(d9 S R d n).length<=256:=by
   unfold d9;split
   .exact AG ok _ _ _
   .exact HJ _
  refine⟨_,rfl,E',_,rfl,.inl hq,_,rfl,.inl ⟨rfl,_,hq⟩,E',_,_,rfl,rfl,hq,rfl,nN _,_,rfl,.inl ⟨rfl,_,hq⟩,E',_,_,rfl,rfl,hq,rfl,nN _,_,rfl,.inl ⟨rfl,_,hq⟩,E',_,_,rfl,rfl,hq,rfl,nN _,aB,λq OE=>?_⟩;refine k _ q (sA.trans (ak.upd OE)) (sA.free OE) ?_;rw[aa,lf,lf,lf,G8];rfl
 dsimp only[bp,b6,cu,tC,bu];refine aP (λh=>?_) λh=>?_
 .have ee:d9 S R d n=pC S R d (counted S n):=by unfold d9;rw[Hc h]
  refine⟨_,rfl,_,rfl,_,rfl,L,y,D1,S,R,d,_,rfl,hL.same M6,ok,hyD.same M6,N4,hk2,hRm,NQ,NN.same s3,fw S n,m7 S n,λH4 D4 s4 OD Ng=>?_⟩;exact fin H4 D4 _ (M6.trans s4) (by rw[ee];exact Ng)
 .have ee:d9 S R d n=[]:=by unfold d9;rw[G9 h]
  exact fin H3 E1 _ M6 (by rw[ee];exact s3 _ _ aa)
theorem jL{α:Type}:∀{l:List α}{i:Nat}{x:α},l[i]?=some x->l=l.take i++x::l.drop (i+1)
 |[],i,x,h=>by simp at h
 |a::l,0,x,h=>by have e:a=x:=Hg h;rw[e];rfl
 |a::l,i+1,x,h=>by have ih:=jL (l:=l) (i:=i) (x:=x) h;show a::l=a::(l.take i++x::l.drop (i+1));rw[<-ih]
def dH(ps:List (Nat×Nat)):List (Int×Int):=ps.map λp=>((p.1:Int),(p.2:Int))
theorem A1(ps:List (Nat×Nat)):pN ps=pI (dH ps):=by unfold pN pI dH;rw[HM];rfl
theorem tR(qs:List (Int×Int)):∀ps:List (Int×Int),iL qs ps=true↔∀p∈ps,qs.lookup p.1=some p.2
 |[]=>⟨λ_ p h=>(by cases h),λ_=>rfl⟩
 |p::r=>by
  unfold iL;cases hl:qs.lookup p.1 with
  |none=>
   constructor
   .intro h;cases h
   .intro h;have:=h p (Hk ..);rw[hl]at this;cases this
  |some y=>
   dsimp only;rw[Hq,tR qs r,Ht];constructor
   .rintro⟨h1,h2⟩ q hq;rcases Hi.mp hq with rfl|hq
    .rw[hl,h1]
    .exact h2 q hq
   .intro h;have h1:=h p (Hk ..);rw[hl]at h1;exact⟨(Hg h1).symm,λq hq=>h q (Hh _ hq)⟩
theorem oX(hn:(qs.map (·.1)).Nodup)(k v:Nat):(dH qs).lookup (k:Int)=some (v:Int)↔(k,v)∈qs:=by
 induction qs with
 |nil=>exact⟨λh=>(by cases h),λh=>(by cases h)⟩
 |cons q r ih=>
  rw[Hf,Ik]at hn;unfold dH at ih⊢;rw[Hf,JF];by_cases e:k=q.1
  .have hb:((k:Int)==(q.1:Int))=true:=by simp[e]
   rw[hb];constructor
   .intro h;have h1:(q.2:Int)=(v:Int):=Hg h;have h2:q.2=v:=by omega
    rw[e,<-h2];exact Hk ..
   .intro h;rcases Hi.mp h with h|h
    .rw[<-h]
    .exact absurd (HA.mpr ⟨(k,v),h,e⟩) hn.1
  .have hb:((k:Int)==(q.1:Int))=false:=by rw[Ia];omega
   rw[hb];refine(ih hn.2).trans ⟨λh=>Hh _ h,λh=>?_⟩;rcases Hi.mp h with h|h
   .exact absurd (by rw[<-h]) e
   .exact h
theorem tG:∀{l m:List (Nat×Nat)},(l.Pairwise λa b=>a.1<b.1)->(m.Pairwise λa b=>a.1<b.1)->(∀z,z∈l↔z∈m)->l=m
 |[],[],_,_,_=>rfl
 |[],b::m,_,_,h=>absurd ((h b).mpr (Hk ..)) (by simp)
 |a::l,[],_,_,h=>absurd ((h a).mp (Hk ..)) (by simp)
 |a::l,b::m,h1,h2,h=>by
  rw[HF]at h1 h2;have ab:a=b:=by
   rcases Hi.mp ((h a).mp (Hk ..))with e|e
   .exact e
   .rcases Hi.mp ((h b).mpr (Hk ..))with e2|e2
    .exact e2.symm
    .have:=h2.1 a e;have:=h1.1 b e2;omega
  subst ab;rw[tG h1.2 h2.2 λz=>?_];constructor
  .intro hz;rcases Hi.mp ((h z).mp (Hh _ hz))with e|e
   .have:=h1.1 z hz;rw[e]at this;omega
   .exact e
  .intro hz;rcases Hi.mp ((h z).mpr (Hh _ hz))with e|e
   .have:=h2.1 z hz;rw[e]at this;omega
   .exact e
theorem vi{l:List (Nat×Nat)}(h:l.Pairwise λa b=>a.1<b.1):l.Nodup:=h.imp λ{a b} q e=>by rw[e]at q;omega
theorem zJ{l m:List (Nat×Nat)}(h1:l.Nodup)(hs:∀x∈l,x∈m)(hl:l.length=m.length):∀y∈m,y∈l:=by intro y hy;apply Ii;intro hn;have:=dm (l:=l) (m:=m.erase y) h1 λx hx=>(List.mem_erase_of_ne (λe:x=y=>hn (by rw[<-e];exact hx))).mpr (hs x hx);rw[Ln hy]at this;have:0<m.length:=LG hy;omega
theorem BM{ps qs h1 h2:List (Nat×Nat)}(p1:ps.Perm h1)(p2:qs.Perm h2)(s1:h1.Pairwise λa b=>a.1<b.1)(s2:h2.Pairwise λa b=>a.1<b.1):(!((dH ps).length==(dH qs).length&&iL (dH qs) (dH ps)))=(h1 !=h2):=by
 have n2:(qs.map (·.1)).Nodup:=(p2.map _).nodup_iff.mpr (b_ s2);have key:((dH ps).length==(dH qs).length&&iL (dH qs) (dH ps))=(h1==h2):=by
  apply HD.mpr;rw[Hq,tR,IX,IX];have lc:∀l:List (Nat×Nat),(dH l).length=l.length:=λl=>by unfold dH;rw[G8]
  rw[lc,lc,p1.length_eq,p2.length_eq];constructor
  .rintro⟨hl,hh⟩;have MC:∀x∈h1,x∈h2:=λx hx=>by have Nt:x∈ps:=p1.mem_iff.mpr hx;have:=hh ((x.1:Int),(x.2:Int)) (HA.mpr ⟨x,Nt,rfl⟩);exact p2.mem_iff.mp ((oX n2 x.1 x.2).mp this)
   have ME:=zJ (vi s1) MC hl;exact tG s1 s2 λz=>⟨MC z,ME z⟩
  .intro e;refine⟨by rw[e],λp hp=>?_⟩;obtain⟨x,hx,rfl⟩:=HA.mp hp;exact(oX n2 x.1 x.2).mpr (p2.mem_iff.mpr (e▸p1.mem_iff.mp hx))
 rw[key];rfl
def gP(S:LU)(R:LW):List (Nat×Nat):=(bw R.lands).flatMap λl=>(a0 (am S) R).map λi=>(l,i)
def gW(S:LU)(R:LW)(d n e m:Nat)(q:Nat×Nat):Bool:=(Vbptaj.cellAt S R q.1 ((am S).getD q.2 []) d n).hold !=(Vbptaj.cellAt S R q.1 ((am S).getD q.2 []) e m).hold
def dj(S:LU)(R:LW)(d n e m:Nat):List Int:=match(gP S R).find? (gW S R d n e m)with
 |none=>[1]
 |some q=>0::(q.1:Int)::Vbptaj.ints ((am S).getD q.2 [])
inductive lF(c:Cs)(vs:List V)(H:Hp)(Q:VK)(E:XK):Prop|mk(L x:Addr)(S:LU)(num:Int)(R:LW)(d n e m:Nat)(_:vs=[.ref L,.ref x])(_:aY c H L S)(_:SOk S)(_:bc c H x num [(R.num:Int),(d:Int),(n:Int),(e:Int),(m:Int)] [])(_:R∈S.rights)(_:Ans H Q (dj S R d n e m))
theorem vy(T:Txt P w K mg c):T.Gr.H P w base 8 (lF c):=by
 refine aS T.Gr ["ledger","call","right","deeds","others","land","place"] ?_;rintro _ _ _ _ s H vs Q E hr hu _ _ nd ⟨L,x,S,num,R,d,n,e,m,rfl,hL,ok,⟨dx,aw,ar,rs,e0,hx,L7,Mu,MT⟩,hRm,k⟩
 refine⟨_,(aj (aO 2 nd (dg hu (fv 0) (wx 1) (λ_ _=>rfl)))
 (aj (aO 3 nd (az (fM T) hr (ag (pv 0) (ag (wx 1) (ag (wx 1) aq)))))
 (aj (aO 4 nd (az (fM T) hr (ag (pv 0) (ag (wx 1) (ag (wx 1) aq)))))
 (aj (cy HI rfl (a8 (az (j5 T) hr (p1 2))) (aT 5 nd)
 (aL (cy HI rfl (a8 (az (i9 T) hr (p1 2))) (aT 6 nd)
 (aL (a9 (aA (BH hu) (az (iP T) hr (ag (pv 0) (ag (pv 3) (ag (pv 2) (p2 5 6))))) (az (iP T) hr (ag (pv 0) (ag (pv 4) (ag (pv 2) (p2 5 6))))) (aD _)) (rt (bH fk (aW (ag aI (p1 5))) (cr cD (fv 0) (pv 6) (λ_ _=>rfl)))) aM)))))
 (rt (aW (ag aI aq))))))),?_⟩
 obtain⟨dL,af,av,NU,N5,Rs,Ds,MV⟩:=id hL;obtain⟨y,hy,OS⟩:=MV.rGet ok hRm;have l64:=ik ok;refine⟨_,rfl,rfl,MV.obj,T.Ledger.o,rfl,_,rfl,rfl,hx,T.Call.o,rfl,aw,_,_,_,rfl,rfl,SqL.of L7,aN (j:=0) rfl rfl,NU,_,rfl,hy,?_⟩;refine⟨_,rfl,_,rfl,rfl,hx,T.Call.o,rfl,aw,_,_,_,rfl,rfl,SqL.of L7,aN (j:=1) rfl rfl,_,rfl,rfl,hx,T.Call.o,rfl,aw,_,_,_,rfl,rfl,SqL.of L7,aN (j:=2) rfl rfl,?_⟩;refine⟨L,S,d,n,rfl,hL,ok,λH1 D1 s1 Np Nb=>?_⟩;have ON:=s1 _ _ hx;have PF:=s1 _ _ L7;refine⟨_,rfl,_,rfl,rfl,ON,T.Call.o,rfl,aw,_,_,_,rfl,rfl,SqL.of PF,aN (j:=3) rfl rfl,_,rfl,rfl,ON,T.Call.o,rfl,aw,_,_,_,rfl,rfl,SqL.of PF,aN (j:=4) rfl rfl,?_⟩;refine⟨L,S,e,m,rfl,hL.same s1,ok,λH2 D2 s2 MO NN=>?_⟩;have Mg:=s1.trans s2;have dl1':=Nb.same s2;dsimp only[bp,b6,cu,tC,bu];refine cw ?_;refine⟨_,rfl,y,R,am S,rfl,OS.same Mg,λH4 DL4 s4 hDL4 Ng=>?_⟩;have lpl:=g9 (am S) R;refine⟨DL4,rfl,⟨_,SqL.of Ng⟩,?_⟩;refine cB (b9 (K:=K) (a:=DL4) (xs:=nI (bw R.lands)) (G:=λH'=>ak H4 H') λH' s=>SqL.of (s _ _ Ng)) (λi σ H'=>∃v5 v6,σ=[some (.ref L),some (.ref x),some (.ref y),some (.ref D1),some (.ref D2),v5,v6]/\ak H4 H'/\∀q∈((bw R.lands).take i).flatMap λl=>(a0 (am S) R).map λi=>(l,i),gW S R d n e m q=false) ?_ ?_ ?_ ?_
 .exact⟨none,none,rfl,ak.refl _,λq hq=>by simp at hq⟩
 .rintro i σ H' _ ⟨_,_,_,s,_⟩;exact s
 .rintro i v σ H5 H6 hi ⟨v5,v6,rfl,s5,Mi⟩ s6 hv;obtain⟨LY,Oe,rfl⟩:=jf hv;have OV:=s5.trans s6;have sH6:=Mg.trans (s4.trans OV);refine cw ?_;refine⟨_,rfl,y,R,am S,rfl,OS.same sH6,by omega,λH7 DP s7 hDP hl7=>?_⟩;refine⟨DP,rfl,⟨_,SqL.of hl7⟩,?_⟩;refine cB (b9 (K:=K) (a:=DP) (xs:=nI (a0 (am S) R)) (G:=λH'=>ak H7 H') λH' s=>SqL.of (s _ _ hl7)) (λj σ H'=>∃v6,σ=[some (.ref L),some (.ref x),some (.ref y),some (.ref D1),some (.ref D2),some (.int (LY:Nat)),v6]/\ak H7 H'/\∀q∈((a0 (am S) R).take j).map λi=>(LY,i),gW S R d n e m q=false) ?_ ?_ ?_ ?_
  .exact⟨v6,rfl,ak.refl _,λq hq=>by simp at hq⟩
  .rintro j σ H' _ ⟨_,_,s,_⟩;exact s
  .rintro j v' σ H8 H9 hj ⟨v6,rfl,s8,hno2⟩ s9 NX;obtain⟨i2,Pt,rfl⟩:=jf NX;have s89:=s8.trans s9;have s29:=s4.trans (OV.trans (s7.trans s89));have OW:=Mg.trans s29;have Ms:(am S)[i2]?=some ((am S).getD i2 []):=kP (Hl Pt);refine⟨_,rfl,_,rfl,_,rfl,_,rfl,_,rfl,L,D1,y,S,_,R,LY,i2,_,rfl,hL.same OW,ok,dl1'.same s29,jI S d n,jJ S d n,OS.same OW,hRm,Ms,λH10 ah ps Pj hah hH10 pm1 ⟨done1,wf1,_⟩=>?_⟩;refine⟨_,rfl,_,rfl,_,rfl,_,rfl,_,rfl,L,D2,y,S,_,R,LY,i2,_,rfl,(hL.same OW).same Pj,ok,(NN.same s29).same Pj,jI S e m,jJ S e m,(OS.same OW).same Pj,hRm,Ms,λH11 ah2 qs s11 hah2 hH11 pm2 ⟨done2,wf2,_⟩=>?_⟩;refine⟨ah,ah2,dH ps,dH qs,rfl,rfl,by rw[<-A1];exact s11 _ _ hH10,by rw[<-A1];exact hH11,_,rfl,?_⟩;rw[BM pm1 pm2 wf1.srt wf2.srt,mn,mn];have s7B:=s89.trans (Pj.trans s11);refine aP (λh=>?_) λh=>?_
   .have hn:gW S R d n e m (LY,i2)=true:=h;have ef:(gP S R).find? (gW S R d n e m)=some (LY,i2):=by
     unfold gP;have e1:bw R.lands=(bw R.lands).take i++LY::(bw R.lands).drop (i+1):=by exact jL Oe
     have e2:a0 (am S) R=(a0 (am S) R).take j++i2::(a0 (am S) R).drop (j+1):=by exact jL Pt
     rw[e1,IM,find?_append];have f1:((((bw R.lands).take i).flatMap λl=>(a0 (am S) R).map λi=>(l,i)).find? (gW S R d n e m))=none:=by rw[Jd];intro q hq;rw[Mi q hq];simp
     rw[f1,none_or,Iu,find?_append];have f2:(((a0 (am S) R).map λi=>(LY,i)).find? (gW S R d n e m))=some (LY,i2):=by
      rw[e2,HL,find?_append];have f3:((((a0 (am S) R).take j).map λi=>(LY,i)).find? (gW S R d n e m))=none:=by rw[Jd];intro q hq;rw[hno2 q hq];simp
      rw[f3,none_or,Hf,Jc,hn]
     rw[f2];rfl
    have hA:dj S R d n e m=0::(LY:Int)::Vbptaj.ints ((am S).getD i2 []):=by unfold dj;rw[ef]
    refine⟨_,rfl,aB,λq hq=>?_⟩;have s12':=ak.upd (o:=.lst [.int 0,.int (LY:Nat)]) hq;have sE:=Mg.trans (s4.trans (OV.trans (s7.trans (s7B.trans s12'))));have hLE:=MV.same sE;obtain⟨vrs,OC,PJ⟩:=id hLE.vars;obtain⟨r,hr,hrv⟩:=dA PJ Ms;refine⟨_,rfl,rfl,hLE.obj,T.Ledger.o,rfl,_,rfl,av,_,_,_,rfl,rfl,SqL.of OC,aN (j:=i2) rfl (by rw[Hd,hr];rfl),?_⟩;refine⟨q,r,_,_,rfl,rfl,aa,hrv,?_,λq2 Pe=>?_⟩
    .rw[bE];have:=cQ S.sizes (Hl Ms);have:=ok.l6;exact aB (by show 2+_<=1000;omega)
    .refine k _ q2 (sE.trans (ak.upd Pe)) (sE.free Pe) ?_;rw[aa,hA];rfl
   .have hn:gW S R d n e m (LY,i2)=false:=dM h;refine⟨_,rfl,s7B,λq hq=>?_⟩;rw[a6 Pt,HL]at hq;rcases H_.mp hq with hq|hq
    .exact hno2 q hq
    .rw[HH.mp hq];exact hn
  .rintro σ H' ⟨v6,rfl,s8,hno2⟩;rw[bE,Im]at hno2;refine⟨_,_,rfl,OV.trans (s7.trans s8),λq hq=>?_⟩;rw[a6 Oe,IM]at hq;rcases H_.mp hq with hq|hq
   .exact Mi q hq
   .rw[Iu,List.flatMap_nil,IU]at hq;exact hno2 q hq
 .rintro σ H' ⟨v5,v6,rfl,s5,Mi⟩;rw[bE,Im]at Mi;have ef:(gP S R).find? (gW S R d n e m)=none:=by rw[Jd];intro q hq;rw[Mi q hq];simp
  have hA:dj S R d n e m=[1]:=by unfold dj;rw[ef]
  refine⟨aB,λq hq=>?_⟩;have sE:=Mg.trans (s4.trans s5);refine k _ q (sE.trans (ak.upd hq)) (sE.free hq) ?_;rw[aa,hA];rfl
inductive jt(c:Cs)(vs:List V)(H:Hp)(Q:VK)(E:XK):Prop|mk(L x:Addr)(S:LU)(num:Int)(LY day n:Nat)(v:List Nat)(_:vs=[.ref L,.ref x])(_:aY c H L S)(_:SOk S)(_:bc c H x num [(LY:Int),(day:Int),(n:Int)] [Vbptaj.ints v])(_:v∈am S)(_:Ans H Q (0::Vbptaj.ints (Vbptaj.sorted ((inForce S LY v day).flatMap λx=>(Vbptaj.cellAt S x LY v day n).hold.map λh=>h.1))))
theorem rL(T:Txt P w K mg c):T.Gs.H P w base 8 (jt c):=by
 have B:=T.B;refine aS T.Gs ["ledger","call","land","day","place","deeds","owners","right"] ?_;rintro _ _ _ _ s H vs Q E hr _ _ _ nd ⟨L,x,S,num,LY,day,n,v,rfl,hL,ok,⟨dx,aw,ar,rs,e,hx,L7,Mu,MT⟩,hv,k⟩
 refine⟨_,(aj (aO 2 nd (wx 1))
 (aj (aO 3 nd (wx 1))
 (aj (aO 4 nd (az (hX T) hr (ag (pv 0) (ag (wx 1) aq))))
 (aj (aO 5 nd (az (fM T) hr (ag (pv 0) (ag (pv 3) (ag (wx 1) aq)))))
 (aj (aO 6 nd (aW aq))
 (aj (cy HI rfl (a8 (az (fi T) hr (ag (pv 0) (ag (pv 2) (p2 4 3))))) (aT 7 nd)
 (aL (bU (dG Ib Jl JC fY (pv 6) (ag (fX (uc rfl) (by rfl) B.q boot_list (ag (az (iP T) hr (ag (pv 0) (ag (pv 5) (ag (pv 7) (p2 2 4))))) aq)) aq)))))
 (rt (bH fk (aW (ag aI aq)) (aK (lV rfl) (by rfl) B.q Lm (ag (fX (wE rfl) (by rfl) B.q q_ (p1 6)) aq)))))))))),?_⟩
 obtain⟨r0,NT,MD⟩:=ng MT;have hvne:am S≠[]:=λz=>by rw[z]at hv;cases hv
 refine⟨_,rfl,rfl,hx,T.Call.o,rfl,aw,_,_,_,rfl,rfl,SqL.of L7,aN (j:=0) rfl rfl,?_⟩;refine⟨_,rfl,rfl,hx,T.Call.o,rfl,aw,_,_,_,rfl,rfl,SqL.of L7,aN (j:=1) rfl rfl,?_⟩;refine⟨_,rfl,_,rfl,rfl,hx,T.Call.o,rfl,ar,_,_,_,rfl,rfl,SqL.of Mu,aN (j:=0) rfl (by rw[Hd,NT];rfl),?_⟩;refine⟨L,r0,S,v,rfl,hL,ok,MD,hv,λi0 hi0=>?_⟩;refine⟨_,rfl,_,rfl,_,rfl,rfl,hx,T.Call.o,rfl,aw,_,_,_,rfl,rfl,SqL.of L7,aN (j:=2) rfl rfl,?_⟩;refine⟨L,S,day,n,rfl,hL,ok,λH0 D0 s0 hD0 dl0=>?_⟩;refine⟨HJ _,λN hN=>?_⟩;have s1:ak H0 (upd H0 N (.lst [])):=ak.upd hN;dsimp only[bp,b6,cu,tC,bu];refine cw ?_;refine⟨_,rfl,_,rfl,_,rfl,_,rfl,L,S,LY,i0,day,v,rfl,(hL.same s0).same s1,ok,hi0,λH1 D1 s2 Np rl=>?_⟩;have hN1:H1 N=some (.lst (nI [])):=s2 _ _ aa;have nD1:D1≠N:=λe=>by rw[e,aa]at Np;cases Np
 have sB:ak H0 (hide H1 N):=dv (s1.trans s2) hN;obtain⟨zs,Ml,OR,hzr⟩:=rl;have hD1B:(hide H1 N) D1=some (.lst (zs.map λz=>V.ref z.1)):=by rw[cq nD1];exact OR
 have hzrB:∀z∈zs,bd c (am S) (hide H1 N) z.1 z.2:=λz m=>(hzr z m).hide hN1 hvne;have hzS:∀z∈zs,z.2∈S.rights:=λz m=>by
  have:z.2∈inForce S LY v day:=by rw[<-Ml];exact HA.mpr ⟨z,m,rfl⟩
  unfold inForce at this;exact(HK.mp this).1
 have lzs:zs.length<=8:=by
  have:zs.length=(inForce S LY v day).length:=by rw[<-Ml,G8]
  rw[this];unfold inForce;exact Hv (Hz _ _) ok.rLe
 refine⟨D1,rfl,⟨_,SqL.of OR⟩,?_⟩;refine cB (dQ (K:=K) (H1:=hide H1 N) hD1B) (λi σ H'=>∃v7 ns,σ=[some (.ref L),some (.ref x),some (.int (LY:Nat)),some (.int (day:Nat)),some (.int (i0:Nat)),some (.ref D0),some (.ref N),v7]/\ak (hide H1 N) H'/\H' N=some (.lst (nI ns))/\ns.length<=21*i/\∀m,m∈ns↔m∈(zs.take i).flatMap λz=>(Vbptaj.cellAt S z.2 LY v day n).hold.map λh=>h.1) ?_ ?_ ?_ ?_
 .exact⟨none,[],rfl,d3,hN1,Hu _,λm=>by simp⟩
 .rintro i σ H' _ ⟨_,_,_,s,_⟩;exact s
 .rintro i u σ H2 H3 hi ⟨v7,ns,rfl,s3,hN2,L3,Mf⟩ s4 ⟨z,hzi,rfl⟩;have Od:=Hl hzi;have Nf:=s3.trans s4;have sH3:=sB.trans Nf;have hN3:=s4 _ _ hN2;have hRz:=(hzrB z Od).same Nf;refine⟨_,rfl,.inl ⟨rfl,_,SqL.of hN3⟩,_,rfl,_,rfl,_,rfl,_,rfl,_,rfl,?_⟩;refine⟨L,D0,z.1,S,_,z.2,LY,i0,v,rfl,(hL.same s0).same sH3,ok,dl0.same sH3,jI S day n,jJ S day n,hRz,hzS z Od,hi0,λH5 ah ps s5 hah hH5 pm ⟨done,wf,_⟩=>?_⟩;have lps:ps.length<=21:=by rw[pm.length_eq];exact wf.holdLen
  rw[mn]at pm;refine⟨ah,_,rfl,hH5,λD6 hD6=>?_⟩;have hN5:=s5 _ _ hN3;have s6:=ak.upd (o:=.lst ((pN ps).map λkv=>kV kv.1)) hD6;have el:((pN ps).map λkv=>kV kv.1)=nI (ps.map (·.1)):=by rw[d7];unfold pN;rw[HM,HM];rfl
  refine⟨N,D6,_,_,rfl,rfl,s6 _ _ hN5,aa,?_,?_⟩
  .rw[el,bE,bE,G8];exact aB (by omega)
  .refine⟨_,ns++ps.map (·.1),rfl,a_ (Nf.trans (s5.trans s6)) dh,?_,?_,λm=>?_⟩
   .rw[aa,el,kT]
   .rw[Hx,G8];omega
   .rw[a6 hzi,IM,H_,H_,Mf];have:m∈ps.map (·.1)↔m∈(Vbptaj.cellAt S z.2 LY v day n).hold.map λh=>h.1:=(pm.map _).mem_iff;rw[this];simp
 .rintro σ H' ⟨v7,ns,rfl,s3,hN2,L3,Mf⟩;rw[Im]at Mf;have sH:=sB.trans s3;refine⟨aB,λz0 hz0=>?_⟩;have s5:=ak.upd (o:=.lst [.int 0]) hz0;have lns:(Vbptaj.ints ns).length<=4000:=by unfold Vbptaj.ints;rw[G8];omega
  refine⟨_,rfl,N,_,rfl,SqL.of (s5 _ _ hN2),lns,λp ks hp hnd hmk hkl=>?_⟩;refine⟨p,ks,rfl,aa,hkl,λms q pm pw hq=>?_⟩;have e:=lK (l:=(zs.map (·.2)).flatMap λR=>(Vbptaj.cellAt S R LY v day n).hold.map λh=>h.1) pm hnd pw hmk (λm=>by rw[Mf m,flatMap_map]);have s6:=ak.upd (o:=wO P w p ks) hp;have s7:=ak.upd (o:=.lst (ms.map V.int)) hq;refine⟨z0,q,_,_,rfl,rfl,s7 _ _ (s6 _ _ aa),aa,?_,λq2 Pe=>?_⟩
  .rw[G8,pm.length_eq];exact fo (by show 1+_<=5000;omega)
  .have sE:=s0.trans (sH.trans (s5.trans (s6.trans s7)));refine k _ q2 (sE.trans (ak.upd Pe)) (sE.free Pe) ?_;rw[aa,e,Ml];rfl
end
def bB(L:Addr)(H H':Hp):Prop:=∀b o,H b=some o->b≠L->(∀kvs,o≠ .dK kvs)->H' b=some o
theorem bB.of(s:ak H H'):bB L H H':=λb o e _ _=>s b o e
theorem bB.trans(a:bB L H H1)(b:bB L H1 H2):bB L H H2:=λx o e n k=>b x o (a x o e n k) n k
theorem bB.putL:bB L H (upd H L o):=λb u e n _=>by rw[ai n];exact e
theorem bB.putD(h:H a=some (.dK kvs)):bB L H (upd H a o):=λb u e n k=>by
 have:b≠a:=λz=>by rw[z,h]at e;exact k kvs (Hg e).symm
 rw[ai this];exact e
theorem eP(d:LV):∀l:List LV,(putDeed d l).Perm (d::l)
 |[]=>HS _
 |e::l=>by
  unfold putDeed;split
  .exact HS _
  .exact((eP d l).cons e).trans (List.Perm.swap _ _ _)
theorem fL(d:LW):∀l:List LW,(putRight d l).Perm (d::l)
 |[]=>HS _
 |e::l=>by
  unfold putRight;split
  .exact HS _
  .exact((fL d l).cons e).trans (List.Perm.swap _ _ _)
theorem m6:deedAt S n=none↔∀d∈S.deeds,d.num≠n:=by
 unfold deedAt;rw[Jd];constructor
 .intro h d hd e;exact h d hd (by simpa using e)
 .intro h d hd e;exact h d hd (by simpa using e)
theorem iD:rightAt S n=none↔∀d∈S.rights,d.num≠n:=by
 unfold rightAt;rw[Jd];constructor
 .intro h d hd e;exact h d hd (by simpa using e)
 .intro h d hd e;exact h d hd (by simpa using e)
section
variable{c:Cs}{H:Hp}{L dx af av ar ad:Addr}{S:LU}{Rs:List (Addr×LW)}{Ds:List (Addr×LV)}
theorem bJ.dHas(h:bJ c H L S dx af av ar ad Rs Ds)(ok:SOk S)(n:Nat):(aQ (bO Ds) (Sum.inl (n:Int))).isSome=(deedAt S n).isSome:=by
 cases hd:deedAt S n with
 |none=>
  have Mi:∀p∈Ds,(p.2.num:Int)≠(n:Int):=λp m e=>by have hm:p.2∈S.deeds:=h.dPm.mem_iff.mp (HA.mpr ⟨p,m,rfl⟩);exact m6.mp hd p.2 hm (by omega)
  rw[pV Mi];rfl
 |some d=>
  unfold deedAt at hd;have hm:=Io hd;have hn:d.num=n:=by simpa using JQ hd
  obtain⟨x,hx⟩:=h.dMem hm;have:=ql (h.dNod ok) hx;rw[<-hn,this];rfl
theorem bJ.rHas(h:bJ c H L S dx af av ar ad Rs Ds)(ok:SOk S)(n:Nat):(aQ (cF Rs) (Sum.inl (n:Int))).isSome=(rightAt S n).isSome:=by
 cases hd:rightAt S n with
 |none=>
  have Mi:∀p∈Rs,(p.2.num:Int)≠(n:Int):=λp m e=>by have hm:p.2∈S.rights:=h.rPm.mem_iff.mp (HA.mpr ⟨p,m,rfl⟩);exact iD.mp hd p.2 hm (by omega)
  rw[pU Mi];rfl
 |some d=>
  unfold rightAt at hd;have hm:=Io hd;have hn:d.num=n:=by simpa using JQ hd
  obtain⟨x,hx⟩:=h.rMem hm;have:=kK (h.rNod ok) hx;rw[<-hn,this];rfl
theorem bd.putD(h:bd c vr H x R)(ha:H a=some (.dK (bO ds))):(R.owners≠[]\/ds≠[])->bd c vr (upd H a o) x R:=by
 intro MA;obtain⟨dx,ac,ao,h1,h2,h3⟩:=h;refine⟨dx,ac,ao,by rw[ai (aF h1 ha)];exact h1,by rw[ai (aF h2 ha)];exact h2,?_⟩;rw[ai (aF h3 ha λz=>?_)]
 .exact h3
 .injection z with z;unfold pN bO at z;cases ho:R.owners with
  |nil=>
   cases hd:ds with
   |nil=>rw[ho,hd]at MA;exact MA.elim (λq=>q rfl) (λq=>q rfl)
   |cons q r=>rw[ho,hd]at z;cases z
  |cons p ps=>
   rw[ho]at z;cases hd:ds with
   |nil=>rw[hd]at z;cases z
   |cons q r=>rw[hd,Hf,Hf]at z;injection z with z _;injection z with _ z;cases z
theorem bd.putR(h:bd c vr H x R)(ha:H a=some (.dK (cF ds))):(R.owners≠[]\/ds≠[])->bd c vr (upd H a o) x R:=by
 intro MA;obtain⟨dx,ac,ao,h1,h2,h3⟩:=h;refine⟨dx,ac,ao,by rw[ai (aF h1 ha)];exact h1,by rw[ai (aF h2 ha)];exact h2,?_⟩;rw[ai (aF h3 ha λz=>?_)]
 .exact h3
 .injection z with z;unfold pN cF at z;cases ho:R.owners with
  |nil=>
   cases hd:ds with
   |nil=>rw[ho,hd]at MA;exact MA.elim (λq=>q rfl) (λq=>q rfl)
   |cons q r=>rw[ho,hd]at z;cases z
  |cons p ps=>
   rw[ho]at z;cases hd:ds with
   |nil=>rw[hd]at z;cases z
   |cons q r=>rw[hd,Hf,Hf]at z;injection z with z _;injection z with _ z;cases z
theorem b0.put(h:b0 c vr H x d)(ha:H a=some (.dK kvs)):b0 c vr (upd H a o) x d:=by obtain⟨dx,ac,ao,h1,h2,h3⟩:=h;exact⟨dx,ac,ao,by rw[ai (aF h1 ha)];exact h1,by rw[ai (aF h2 ha)];exact h2,by rw[ai (aF h3 ha)];exact h3⟩
theorem d_.put(h:d_ H a rows)(hb:H b=some (.dK kvs)):d_ (upd H b o) a rows:=by obtain⟨rs,h1,h2⟩:=h;exact⟨rs,by rw[ai (aF h1 hb)];exact h1,Paired.mapP h2 λr row q=>by rw[ai (aF q hb)];exact q⟩
theorem xW(ok:SOk S)(m:R∈S.rights):R.owners≠[]:=λe=>by have:=(ok.rOw R m).2.2;rw[e]at this;cases this
theorem bJ.addD(h:bJ c H L S dx af av ar ad Rs Ds)(ok:SOk S)(Om:ar≠ad)(hd:b0 c (am S) H y d)(hn:deedAt S d.num=none):bJ c (upd H ad (.dK (bG (bO Ds) (Sum.inl (d.num:Int)) (.ref y)))) L {S with deeds:=putDeed d S.deeds} dx af av ar ad Rs (Ds++[(y,d)]):=by
 have hv:aQ (bO Ds) (Sum.inl (d.num:Int))=none:=by
  have:=h.dHas ok d.num;rw[hn]at this;cases hv:aQ (bO Ds) (Sum.inl (d.num:Int))with
  |none=>rfl
  |some v=>rw[hv]at this;cases this
 have e:bG (bO Ds) (Sum.inl (d.num:Int)) (.ref y)=bO (Ds++[(y,d)]):=by rw[jM _ hv];unfold bO;rw[HL];rfl
 rw[e];refine⟨by rw[ai (aF h.obj h.dds)];exact h.obj,by rw[ai (aF h.fld h.dds)];exact h.fld,h.vars.put h.dds,by rw[ai Om];exact h.rts,λp m=>(h.rAt p m).putD h.dds (.inl ?_),h.rPm,aa,λp m=>?_,?_⟩
 .exact xW ok (h.rPm.mem_iff.mp (HA.mpr ⟨p,m,rfl⟩))
 .rcases H_.mp m with m|m
  .exact(h.dAt p m).put h.dds
  .rw[HH.mp m];exact hd.put h.dds
 .rw[HL];refine(Kn).trans ?_;exact(h.dPm.cons d).trans (eP d S.deeds).symm
theorem bJ.addR(h:bJ c H L S dx af av ar ad Rs Ds)(ok:SOk S)(Om:ar≠ad)(hR:bd c (am S) H y R)(O8:R.owners≠[])(hn:rightAt S R.num=none):bJ c (upd H ar (.dK (bG (cF Rs) (Sum.inl (R.num:Int)) (.ref y)))) L {S with rights:=putRight R S.rights} dx af av ar ad (Rs++[(y,R)]) Ds:=by
 have hv:aQ (cF Rs) (Sum.inl (R.num:Int))=none:=by
  have:=h.rHas ok R.num;rw[hn]at this;cases hv:aQ (cF Rs) (Sum.inl (R.num:Int))with
  |none=>rfl
  |some v=>rw[hv]at this;cases this
 have e:bG (cF Rs) (Sum.inl (R.num:Int)) (.ref y)=cF (Rs++[(y,R)]):=by rw[jM _ hv];unfold cF;rw[HL];rfl
 rw[e];refine⟨by rw[ai (aF h.obj h.rts)];exact h.obj,by rw[ai (aF h.fld h.rts)];exact h.fld,h.vars.put h.rts,aa,λp m=>?_,?_,by rw[ai (Ho Om)];exact h.dds,λp m=>(h.dAt p m).put h.rts,h.dPm⟩
 .rcases H_.mp m with m|m
  .exact(h.rAt p m).putR h.rts (.inl (xW ok (h.rPm.mem_iff.mp (HA.mpr ⟨p,m,rfl⟩))))
  .rw[HH.mp m];exact hR.putR h.rts (.inl O8)
 .rw[HL];refine(Kn).trans ?_;exact(h.rPm.cons R).trans (fL R S.rights).symm
end
section
variable{P:Program}{w:World}{K:LS}{mg:Str->Option Value}{base:Heap}{c:Cs}
def bi(c:Cs)(H:Hp)(L:Addr)(S:LU):Prop:=∃dx af av ar ad Rs Ds,bJ c H L S dx af av ar ad Rs Ds/\ar≠ad
theorem bi.one(h:bi c H L S):aY c H L S:=by obtain⟨dx,af,av,ar,ad,Rs,Ds,h,_⟩:=h;exact⟨dx,af,av,ar,ad,Rs,Ds,h⟩
theorem bi.same(h:bi c H L S)(s:ak H H'):bi c H' L S:=by obtain⟨dx,af,av,ar,ad,Rs,Ds,h,n⟩:=h;exact⟨dx,af,av,ar,ad,Rs,Ds,h.same s,n⟩
def fJ(c:Cs)(L:Addr)(H:Hp)(Q:VK)(S:LU)(Ol:List Int):Prop:=∀H' D,bB L H H'->H D=none->H' D=some (.lst (Ol.map V.int))->bi c H' L S->Q (.ref D) H'
def cY(S:LU)(d:LV):LU×List Int:=if(deedAt S d.num).isSome=true then(S,[-6])else if 60<=S.deeds.length then(S,[-9])else({S with deeds:=putDeed d S.deeds},[((S.deeds.length+1:Nat):Int)])
inductive vc(c:Cs)(vs:List V)(H:Hp)(Q:VK)(E:XK):Prop|mk(L y:Addr)(S:LU)(d:LV)(_:vs=[.ref L,.ref y])(_:bi c H L S)(_:SOk S)(_:b0 c (am S) H y d)(_:fJ c L H Q (cY S d).1 (cY S d).2)
theorem eX(T:Txt P w K mg c):T.FI.H P w base 1 (vc c):=by
 have B:=T.B;refine aS T.FI ["ledger","deed"] ?_;rintro _ _ _ _ s H vs Q E hr hu _ _ nd ⟨L,y,S,d,rfl,⟨dL,af,av,ar,ad,Rs,Ds,hL,Om⟩,ok,hd,k⟩
 refine⟨_,(aj (a9 (gK (il hu (fv 1) (fv 0))) (rt (aW (ag (bf rfl T.GS) aq))) aM)
 (aj (a9 (aA r9 (aK iU (by rfl) B.q Ig (ag (fv 0) aq)) (bf rfl T.GY) (aD _)) (rt (aW (ag (bf rfl T.GV) aq))) aM)
 (aj (fS hu (fv 0) (fv 1) (pv 1) rfl)
 (rt (aW (ag (aK iU (by rfl) B.q Ig (ag (fv 0) aq)) aq)))))),?_⟩
 obtain⟨dy,yb,yc,Nk,hy2,Pw⟩:=id hd;have lD:=hL.dLen;have hnl:(bO Ds).length=S.deeds.length:=by unfold bO;rw[G8];exact lD
 unfold cY at k;refine⟨_,rfl,rfl,Nk,T.Deed.o,rfl,_,rfl,rfl,hL.obj,T.Ledger.o,rfl,ad,_,rfl,bP.k (k:=Sum.inl (d.num:Int)) hL.dds,_,rfl,?_⟩;rw[hL.dHas ok];refine aP (λh=>?_) λh=>?_
 .rw[Hc h]at k;refine⟨aB,λq hq=>?_⟩;have s:=ak.upd (o:=.lst [.int (-6)]) hq;exact k _ q (bB.of s) hq aa ⟨dL,af,av,ar,ad,Rs,Ds,hL.same s,Om⟩
 rw[G9 h]at k;refine⟨_,rfl,rfl,hL.obj,T.Ledger.o,rfl,ad,_,rfl,hL.dds,_,_,rfl,rfl,_,rfl,aP (λh2=>?_) λh2=>?_⟩
 .have MR:=Hb h2;rw[hnl]at MR;rw[Hc (by omega)]at k;refine⟨aB,λq hq=>?_⟩;have s:=ak.upd (o:=.lst [.int (-9)]) hq;exact k _ q (bB.of s) hq aa ⟨dL,af,av,ar,ad,Rs,Ds,hL.same s,Om⟩
 have MR:¬60<=S.deeds.length:=λz=>h2 (He (by rw[hnl];omega));rw[G9 MR]at k;have OX:deedAt S d.num=none:=by
  cases hh:deedAt S d.num with
  |none=>rfl
  |some x=>rw[hh]at h;exact absurd rfl h
 refine⟨_,rfl,_,rfl,rfl,hL.obj,T.Ledger.o,rfl,_,rfl,rfl,Nk,T.Deed.o,rfl,ad,_,rfl,dX.k (k:=Sum.inl (d.num:Int)) hL.dds (by rw[hnl];exact aG (by omega)),?_⟩;have Oi:=hL.addD ok Om hd OX;have kp:=bB.putD (L:=L) (o:=.dK (bG (bO Ds) (Sum.inl (d.num:Int)) (.ref y))) hL.dds;have hnL:L≠ad:=aF hL.obj hL.dds;have eD:(upd H ad (.dK (bG (bO Ds) (Sum.inl (d.num:Int)) (.ref y)))) ad=some (.dK (bO (Ds++[(y,d)]))):=Oi.dds;generalize Pd:upd H ad (.dK (bG (bO Ds) (Sum.inl (d.num:Int)) (.ref y)))=H2 at*;refine⟨_,rfl,rfl,Oi.obj,T.Ledger.o,rfl,ad,_,rfl,Oi.dds,aB,λq hq=>?_⟩;have s:=ak.upd (o:=.lst [.int (((bO (Ds++[(y,d)])).length:Nat):Int)]) hq;have hqH:H q=none:=by
  have nq:q≠ad:=λz=>by rw[z,eD]at hq;cases hq
  rw[<-Pd,ai nq]at hq;exact hq
 refine k _ q (kp.trans (bB.of s)) hqH ?_ ⟨dL,af,av,ar,ad,Rs,_,Oi.same s,Om⟩;rw[aa];refine HU (λz=>some (HO.lst z)) ?_;show [V.int (((bO (Ds++[(y,d)])).length:Nat):Int)]=[V.int ((S.deeds.length+1:Nat):Int)];have:(bO (Ds++[(y,d)])).length=S.deeds.length+1:=by unfold bO;rw[G8,Hx,lD];rfl
 rw[this]
inductive xl(c:Cs)(vs:List V)(H:Hp)(Q:VK)(E:XK):Prop|mk(x:Addr)(kk num:Int)(ws:List Int)(rows:List (List Int))(n kn r:Int)(_:vs=[.int kk,.ref x])(_:bc c H x num ws rows)(_:ws[0]?=some n)(_:ws[1]?=some kn)(_:ws[2]?=some r)(_:∀H' y dy ab ac,ak H H'->H y=none->H' y=some (.ins c.Deed dy (dO kk n kn r 0 0 0 0 0 0 0 0 0 ab ac))->H' ab=some (.lst [])->H' ac=some (.lst [])->Q (.ref y) H')
theorem qR(T:Txt P w K mg c):T.FJ.H P w base 3 (xl c):=by refine aS T.FJ ["kind","call"] ?_;rintro _ _ _ _ _ H vs Q E hr _ _ _ nd ⟨x,kk,num,ws,rows,n,kn,r,rfl,⟨dx,aw,ar,rs,e,hx,L7,Mu,MT⟩,w0,w1,w2,k⟩;refine⟨_,(rt (iy (Dt T) (hr.mono (by decide)) rfl (ag (pv 0) (ag (wx 1) (ag (wx 1) (ag (wx 1) aq)))))),?_⟩;refine⟨_,rfl,_,rfl,rfl,hx,T.Call.o,rfl,aw,_,_,_,rfl,rfl,SqL.of L7,aN (j:=0) rfl (by rw[Hd,w0];rfl),_,rfl,rfl,hx,T.Call.o,rfl,aw,_,_,_,rfl,rfl,SqL.of L7,aN (j:=1) rfl (by rw[Hd,w1];rfl),_,rfl,rfl,hx,T.Call.o,rfl,aw,_,_,_,rfl,rfl,SqL.of L7,aN (j:=2) rfl (by rw[Hd,w2];rfl),λy dy hy hdy ne=>?_⟩;refine⟨y,dy,kk,n,kn,r,rfl,aa,λH' ab ac h1 h2 h3 f1 f2 kp=>⟨rfl,?_⟩⟩;exact k H' y dy ab ac (ak.made hy hdy kp) hy h1 h2 h3
inductive nU(c:Cs)(vs:List V)(H:Hp)(Q:VK)(E:XK):Prop|mk(x:Addr)(num:Int)(d:LV)(vr:List (List Nat))(_:vs=[.int (d.kind:Nat),.ref x])(_:bc c H x num [(d.num:Int),(d.known:Int),(d.day:Int),(d.about:Int)] [])(_:d={blank with num:=d.num,known:=d.known,day:=d.day,kind:=d.kind,about:=d.about})(_:3<=d.kind)(_:∀H' y,ak H H'->b0 c vr H' y d->Q (.ref y) H')
theorem gm(T:Txt P w K mg c):T.FM.H P w base 4 (nU c):=by
 refine aS T.FM ["kind","call","deed"] ?_;rintro _ _ _ _ _ H vs Q E hr _ _ _ nd ⟨x,num,d,vr,rfl,hcall,hd,hk,k⟩
 refine⟨_,(aj (aO 2 nd (az (qR T) hr (p2 0 1)))
 (aj (aU (pv 2) (wx 1) rfl)
 (rt (pv 2)))),?_⟩
 obtain⟨dx,aw,ar,rs,e,hx,L7,Mu,MT⟩:=id hcall;refine⟨_,rfl,_,rfl,x,_,num,_,_,_,_,_,rfl,hcall,rfl,rfl,rfl,λH1 y dy ab ac s1 hy h1 h2 h3=>?_⟩;refine⟨_,rfl,rfl,s1 _ _ hx,T.Call.o,rfl,aw,_,_,_,rfl,rfl,SqL.of (s1 _ _ L7),aN (j:=3) rfl rfl,_,rfl,rfl,h1,T.Deed.o,rfl,?_⟩;refine⟨_,rfl,k _ y (a_ s1 hy) ⟨dy,ab,ac,?_,?_,?_⟩⟩
 .rw[aa,hd];rfl
 .rw[ai (aF h2 h1),h2,hd];rfl
 .have e2:pD vr d=[]:=by unfold pD;rw[G9 (by omega)]
  rw[ai (aF h3 h1),h3,e2];rfl
inductive u_(c:Cs)(vs:List V)(H:Hp)(Q:VK)(E:XK):Prop|mk(L x:Addr)(S:LU)(kk num:Int)(ws:List Int)(bx:List Nat)(n kn r ri gi ta la:Int)(_:vs=[.int kk,.ref L,.ref x])(_:aY c H L S)(_:SOk S)(_:bc c H x num ws [Vbptaj.ints bx])(_:ws[0]?=some n)(_:ws[1]?=some kn)(_:ws[2]?=some r)(_:ws[3]?=some ri)(_:ws[4]?=some gi)(_:ws[5]?=some ta)(_:atI (ws.map V.int) (-1)=some (.int la))(_:bx.length=S.sizes.length)(_:∀H' y dy rb D,ak H H'->H y=none->H' y=some (.ins c.Deed dy (dO kk n kn r ri gi ta 0 0 0 0 la 0 rb D))->H' rb=some (.lst (nI bx))->H' D=some (.lst (((am S).map λv=>inBox bx v).map V.bl))->Q (.ref y) H')
theorem oZ(T:Txt P w K mg c):T.FK.H P w base 4 (u_ c):=by
 refine aS T.FK ["kind","ledger","call","deed","variant"] ?_;rintro _ _ _ _ s H vs Q E hr _ _ _ nd ⟨L,x,S,kk,num,ws,bx,n,kn,r,ri,gi,ta,la,rfl,hL,ok,hcall,w0,w1,w2,w3,w4,w5,w9,Pf,k⟩
 refine⟨_,(aj (aO 3 nd (az (qR T) hr (p2 0 2)))
 (aj (aU (pv 3) (wx 2) rfl)
 (aj (aU (pv 3) (wx 2) rfl)
 (aj (aU (pv 3) (wx 2) rfl)
 (aj (aU (pv 3) (cr cD (fv 2) (El CN aI) (λ_ _=>rfl)) rfl)
 (aj (aU (pv 3) (wx 2) rfl)
 (aj (aU (pv 3) (bQ rfl nd (a8 (fv 1)) (aX (own:=[("variant",4)]) (by rfl))
  (by exact λ_ _ _ _ _=>(aT 4 nd))
  (by exact λ_ _ _ _ _=>b7)
  (by exact λ_ _ _ _ _=>(az (tU T) hr (ag (bv (K:=K) rfl (pv 3) rfl) (p1 4))))) rfl)
 (rt (pv 3))))))))),?_⟩
 obtain⟨dx,aw,ar,rs,e,hx,L7,Mu,MT⟩:=id hcall;obtain⟨r0,NT,MD⟩:=ng MT;obtain⟨dL,af,av,NU,N5,Rs,Ds,MV⟩:=id hL;have l64:=ik ok;refine⟨_,rfl,_,rfl,x,kk,num,ws,_,n,kn,r,rfl,hcall,w0,w1,w2,λH1 y dy ab ac s1 hy h1 h2 h3=>?_⟩;have nx:x≠y:=au hx hy;have na:aw≠y:=au L7 hy;have nr:ar≠y:=au Mu hy;refine⟨_,rfl,rfl,s1 _ _ hx,T.Call.o,rfl,aw,_,_,_,rfl,rfl,SqL.of (s1 _ _ L7),aN (j:=3) rfl (by rw[Hd,w3];rfl),_,rfl,rfl,h1,T.Deed.o,rfl,?_⟩;have s2:=a_ (o:=.ins c.Deed dy (dO kk n kn r ri 0 0 0 0 0 0 0 0 ab ac)) s1 hy;refine⟨_,rfl,rfl,s2 _ _ hx,T.Call.o,rfl,aw,_,_,_,rfl,rfl,SqL.of (s2 _ _ L7),aN (j:=4) rfl (by rw[Hd,w4];rfl),_,rfl,rfl,aa,T.Deed.o,rfl,?_⟩;have s3:=a_ (o:=.ins c.Deed dy (dO kk n kn r ri gi 0 0 0 0 0 0 0 ab ac)) s2 hy;refine⟨_,rfl,rfl,s3 _ _ hx,T.Call.o,rfl,aw,_,_,_,rfl,rfl,SqL.of (s3 _ _ L7),aN (j:=5) rfl (by rw[Hd,w5];rfl),_,rfl,rfl,aa,T.Deed.o,rfl,?_⟩;have s4:=a_ (o:=.ins c.Deed dy (dO kk n kn r ri gi ta 0 0 0 0 0 0 ab ac)) s3 hy;refine⟨_,rfl,rfl,s4 _ _ hx,T.Call.o,rfl,_,rfl,aw,_,_,_,rfl,rfl,SqL.of (s4 _ _ L7),w9,_,rfl,rfl,aa,T.Deed.o,rfl,?_⟩;have s5:=a_ (o:=.ins c.Deed dy (dO kk n kn r ri gi ta 0 0 0 0 la 0 ab ac)) s4 hy;refine⟨_,rfl,rfl,s5 _ _ hx,T.Call.o,rfl,ar,_,_,_,rfl,rfl,SqL.of (s5 _ _ Mu),aN (j:=0) rfl (by rw[Hd,NT];rfl),_,rfl,rfl,aa,T.Deed.o,rfl,?_⟩;have s6:=a_ (o:=.ins c.Deed dy (dO kk n kn r ri gi ta 0 0 0 0 la 0 r0 ac)) s5 hy;generalize hH6:upd _ _ _=H6;have s6':ak H H6:=by rw[<-hH6];exact s6
 have hy6:H6 y=some (.ins c.Deed dy (dO kk n kn r ri gi ta 0 0 0 0 la 0 r0 ac)):=by rw[<-hH6];exact aa
 have hLI6:=MV.same s6';obtain⟨vrs,OC,PJ⟩:=id hLI6.vars;have lvrs:vrs.length=(am S).length:=HC PJ;dsimp only[bp,b6,cu,tC,bu];refine bq ?_;refine⟨_,rfl,rfl,hLI6.obj,T.Ledger.o,rfl,av,rfl,⟨_,SqL.of OC⟩,?_⟩;refine bT (am S) (λ_=>true) (λv=>V.bl (inBox bx v)) (gS (F:=λ(H:Hp)(r:Addr)(row:List Nat)=>H r=some (.lst (nI row))) OC PJ λH H' r x s h=>s _ _ h) (aG (by omega)) ?_ ?_
 .rintro i v u H' R' hi s' ⟨r',v',rfl,Oh,NX,MJ⟩ k';have e:v'=v:=Hg (NX.symm.trans hi);subst e;refine⟨rfl,ck (bS ?_)⟩;have hl:=cQ S.sizes (Hl hi);have:=ok.l6;exact⟨_,rfl,rfl,s' _ _ hy6,T.Deed.o,rfl,_,rfl,r0,r',bx,v',rfl,s' _ _ (s6' _ _ MD),MJ,by omega,by omega,λH2 s2=>(k' H2 s2).1 rfl⟩
 .intro D H7 hD s7 hl7;rw[bh]at hl7;refine⟨_,rfl,rfl,s7 _ _ hy6,T.Deed.o,rfl,?_⟩;have nD:D≠y:=λz=>by rw[z,hy6]at hD;cases hD
  have nr0:r0≠y:=au MD hy;refine⟨_,rfl,k _ y dy r0 D (a_ (s6'.trans s7) hy) hy ?_ ?_ ?_⟩
  .rw[aa];rfl
  .rw[ai nr0];exact s7 _ _ (s6' _ _ MD)
  .rw[ai nD,hl7,HM];rfl
structure PD(d:LV):Prop where
 k2:d.kind<=2
 so:d.sole=false
 fr:d.from_=0
 to:d.to_=0
 ab:d.about=0
inductive nT(c:Cs)(vs:List V)(H:Hp)(Q:VK)(E:XK):Prop|mk(L x:Addr)(S:LU)(num:Int)(d:LV)(_:vs=[.int (d.kind:Nat),.ref L,.ref x])(_:aY c H L S)(_:SOk S)(_:bc c H x num [(d.num:Int),(d.known:Int),(d.day:Int),(d.right:Int),(d.giver:Int),(d.taker:Int),(d.parts:Int),(d.lands:Int)] [Vbptaj.ints d.box])(_:d.box.length=S.sizes.length)(_:PD d)(_:∀H' y,ak H H'->b0 c (am S) H' y d->Q (.ref y) H')
theorem iW(T:Txt P w K mg c):T.FL.H P w base 5 (nT c):=by
 refine aS T.FL ["kind","ledger","call","deed"] ?_;rintro _ _ _ _ _ H vs Q E hr _ _ _ nd ⟨L,x,S,num,d,rfl,hL,ok,hcall,Pf,pd,k⟩
 refine⟨_,(aj (aO 3 nd (az (oZ T) hr (ag (pv 0) (p2 1 2))))
 (aj (aU (pv 3) (wx 2) rfl)
 (rt (pv 3)))),?_⟩
 obtain⟨dx,aw,ar,rs,e,hx,L7,Mu,MT⟩:=id hcall;refine⟨_,rfl,_,rfl,_,rfl,L,x,S,_,num,_,d.box,_,_,_,_,_,_,(d.lands:Int),rfl,hL,ok,hcall,rfl,rfl,rfl,rfl,rfl,rfl,rfl,Pf,λH1 y dy rb D s1 hy h1 h2 h3=>?_⟩;refine⟨_,rfl,rfl,s1 _ _ hx,T.Call.o,rfl,aw,_,_,_,rfl,rfl,SqL.of (s1 _ _ L7),aN (j:=6) rfl rfl,_,rfl,rfl,h1,T.Deed.o,rfl,?_⟩;refine⟨_,rfl,k _ y (a_ s1 hy) ⟨dy,rb,D,?_,?_,?_⟩⟩
 .rw[aa];unfold wW;rw[pd.so,pd.fr,pd.to,pd.ab];rfl
 .rw[ai (aF h2 h1)];exact h2
 .rw[ai (aF h3 h1),h3];unfold pD;rw[Hc pd.k2]
inductive jn(c:Cs)(kk:Nat)(vs:List V)(H:Hp)(Q:VK)(E:XK):Prop|mk(L x:Addr)(S:LU)(num:Int)(d:LV)(_:vs=[.ref L,.ref x])(_:bi c H L S)(_:SOk S)(_:bc c H x num [(d.num:Int),(d.known:Int),(d.day:Int),(d.right:Int),(d.giver:Int),(d.taker:Int),(d.parts:Int),(d.lands:Int)] [Vbptaj.ints d.box])(_:d.box.length=S.sizes.length)(_:PD d)(_:d.kind=kk)(_:fJ c L H Q (cY S d).1 (cY S d).2)
theorem fJ.of(k:fJ c L H Q S Ol)(s:ak H H1):fJ c L H1 Q S Ol:=λH' D kp hD hl hL=>k H' D ((bB.of s).trans kp) (s.free hD) hl hL
theorem qf(T:Txt P w K mg c):T.FN.H P w base 6 (jn c 0):=by refine aS T.FN ["ledger","call"] ?_;rintro _ _ _ _ _ H vs Q E hr _ _ _ nd ⟨L,x,S,num,d,rfl,hL,ok,hcall,Pf,pd,hk,k⟩;refine⟨_,(rt (az (eX T) hr (ag (pv 0) (ag (az (iW T) hr (ag (bf rfl T.Gz) (p2 0 1))) aq)))),?_⟩;refine⟨_,rfl,_,rfl,_,rfl,L,x,S,num,d,by rw[hk];rfl,hL.one,ok,hcall,Pf,pd,λH1 y s1 hd=>?_⟩;exact⟨L,y,S,d,rfl,hL.same s1,ok,hd,k.of s1⟩
theorem uN(T:Txt P w K mg c):T.FP.H P w base 6 (jn c 2):=by refine aS T.FP ["ledger","call"] ?_;rintro _ _ _ _ _ H vs Q E hr _ _ _ nd ⟨L,x,S,num,d,rfl,hL,ok,hcall,Pf,pd,hk,k⟩;refine⟨_,(rt (az (eX T) hr (ag (pv 0) (ag (az (iW T) hr (ag (bf rfl T.GB) (p2 0 1))) aq)))),?_⟩;refine⟨_,rfl,_,rfl,_,rfl,L,x,S,num,d,by rw[hk];rfl,hL.one,ok,hcall,Pf,pd,λH1 y s1 hd=>?_⟩;exact⟨L,y,S,d,rfl,hL.same s1,ok,hd,k.of s1⟩
inductive gq(c:Cs)(kk:Nat)(vs:List V)(H:Hp)(Q:VK)(E:XK):Prop|mk(L x:Addr)(S:LU)(num:Int)(d:LV)(_:vs=[.ref L,.ref x])(_:bi c H L S)(_:SOk S)(_:bc c H x num [(d.num:Int),(d.known:Int),(d.day:Int),(d.about:Int)] [])(_:d={blank with num:=d.num,known:=d.known,day:=d.day,kind:=d.kind,about:=d.about})(_:3<=d.kind)(_:d.kind=kk)(_:fJ c L H Q (cY S d).1 (cY S d).2)
theorem rW(T:Txt P w K mg c):T.FQ.H P w base 5 (gq c 3):=by refine aS T.FQ ["ledger","call"] ?_;rintro _ _ _ _ _ H vs Q E hr _ _ _ nd ⟨L,x,S,num,d,rfl,hL,ok,hcall,hd,h3,hk,k⟩;refine⟨_,(rt (az (eX T) hr (ag (pv 0) (ag (az (gm T) hr (ag (bf rfl T.GC) (p1 1))) aq)))),?_⟩;refine⟨_,rfl,_,rfl,x,num,d,am S,by rw[hk];rfl,hcall,hd,h3,λH1 y s1 hd1=>?_⟩;exact⟨L,y,S,d,rfl,hL.same s1,ok,hd1,k.of s1⟩
theorem rV(T:Txt P w K mg c):T.FR.H P w base 5 (gq c 4):=by refine aS T.FR ["ledger","call"] ?_;rintro _ _ _ _ _ H vs Q E hr _ _ _ nd ⟨L,x,S,num,d,rfl,hL,ok,hcall,hd,h3,hk,k⟩;refine⟨_,(rt (az (eX T) hr (ag (pv 0) (ag (az (gm T) hr (ag (bf rfl T.GD) (p1 1))) aq)))),?_⟩;refine⟨_,rfl,_,rfl,x,num,d,am S,by rw[hk];rfl,hcall,hd,h3,λH1 y s1 hd1=>?_⟩;exact⟨L,y,S,d,rfl,hL.same s1,ok,hd1,k.of s1⟩
theorem pp(T:Txt P w K mg c):T.FS.H P w base 5 (gq c 5):=by refine aS T.FS ["ledger","call"] ?_;rintro _ _ _ _ _ H vs Q E hr _ _ _ nd ⟨L,x,S,num,d,rfl,hL,ok,hcall,hd,h3,hk,k⟩;refine⟨_,(rt (az (eX T) hr (ag (pv 0) (ag (az (gm T) hr (ag (bf rfl T.GF) (p1 1))) aq)))),?_⟩;refine⟨_,rfl,_,rfl,x,num,d,am S,by rw[hk];rfl,hcall,hd,h3,λH1 y s1 hd1=>?_⟩;exact⟨L,y,S,d,rfl,hL.same s1,ok,hd1,k.of s1⟩
inductive jw(c:Cs)(vs:List V)(H:Hp)(Q:VK)(E:XK):Prop|mk(L x:Addr)(S:LU)(num:Int)(d:LV)(_:vs=[.ref L,.ref x])(_:bi c H L S)(_:SOk S)(_:bc c H x num [(d.num:Int),(d.known:Int),(d.day:Int),(d.right:Int),(d.giver:Int),(d.taker:Int),fB d.sole,(d.from_:Int),(d.to_:Int),(d.lands:Int)] [Vbptaj.ints d.box])(_:d.box.length=S.sizes.length)(_:d.kind=1)(_:d.parts=0)(_:d.about=0)(_:fJ c L H Q (cY S d).1 (cY S d).2)
theorem rX(T:Txt P w K mg c):T.FO.H P w base 5 (jw c):=by
 refine aS T.FO ["ledger","call","deed"] ?_;rintro _ _ _ _ _ H vs Q E hr _ _ _ nd ⟨L,x,S,num,d,rfl,hL,ok,hcall,Pf,hk,hpa,MP,k⟩
 refine⟨_,(aj (aO 2 nd (az (oZ T) hr (ag (bf rfl T.GA) (p2 0 1))))
 (aj (aU (pv 2) (wx 1) rfl)
 (aj (aU (pv 2) (wx 1) rfl)
 (aj (aU (pv 2) (wx 1) rfl)
 (rt (az (eX T) hr (p2 0 2))))))),?_⟩
 obtain⟨dx,aw,ar,rs,e,hx,L7,Mu,MT⟩:=id hcall;refine⟨_,rfl,_,rfl,L,x,S,1,num,_,d.box,_,_,_,_,_,_,(d.lands:Int),rfl,hL.one,ok,hcall,rfl,rfl,rfl,rfl,rfl,rfl,rfl,Pf,λH1 y dy rb D s1 hy h1 h2 h3=>?_⟩;refine⟨_,rfl,rfl,s1 _ _ hx,T.Call.o,rfl,aw,_,_,_,rfl,rfl,SqL.of (s1 _ _ L7),aN (j:=6) rfl rfl,_,rfl,rfl,h1,T.Deed.o,rfl,?_⟩;have s2:=a_ (o:=.ins c.Deed dy (dO 1 d.num d.known d.day d.right d.giver d.taker 0 (fB d.sole) 0 0 d.lands 0 rb D)) s1 hy;refine⟨_,rfl,rfl,s2 _ _ hx,T.Call.o,rfl,aw,_,_,_,rfl,rfl,SqL.of (s2 _ _ L7),aN (j:=7) rfl rfl,_,rfl,rfl,aa,T.Deed.o,rfl,?_⟩;have s3:=a_ (o:=.ins c.Deed dy (dO 1 d.num d.known d.day d.right d.giver d.taker 0 (fB d.sole) d.from_ 0 d.lands 0 rb D)) s2 hy;refine⟨_,rfl,rfl,s3 _ _ hx,T.Call.o,rfl,aw,_,_,_,rfl,rfl,SqL.of (s3 _ _ L7),aN (j:=8) rfl rfl,_,rfl,rfl,aa,T.Deed.o,rfl,?_⟩;have s4:=a_ (o:=.ins c.Deed dy (dO 1 d.num d.known d.day d.right d.giver d.taker 0 (fB d.sole) d.from_ d.to_ d.lands 0 rb D)) s3 hy;have nrb:rb≠y:=aF h2 h1;have nD:D≠y:=aF h3 h1;refine⟨_,rfl,_,rfl,L,y,S,d,rfl,hL.same s4,ok,⟨dy,rb,D,?_,?_,?_⟩,k.of s4⟩
 .rw[aa];unfold wW;rw[hk,hpa,MP];rfl
 .rw[ai nrb,ai nrb,ai nrb];exact h2
 .rw[ai nD,ai nD,ai nD,h3];unfold pD;rw[Hc (by omega)]
def pQ(ks:List Nat):LU:={Vbptaj.start with sizes:=ks}
inductive lH(c:Cs)(vs:List V)(H:Hp)(Q:VK)(E:XK):Prop|mk(L x:Addr)(S:LU)(num:Int)(ws:List Int)(ks:List Nat)(_:vs=[.ref L,.ref x])(_:bi c H L S)(_:bc c H x num ws [Vbptaj.ints ks])(_:(∀k∈ks,1<=k))(_:(∀k∈ks,k<=8))(_:ks.length<=6)(_:ks.foldl (λa b=>a*b) 1<=64)(_:fJ c L H Q (pQ ks) [0])
theorem vB(T:Txt P w K mg c):T.FF.H P w base 2 (lH c):=by
 refine aS T.FF ["ledger","call"] ?_;rintro _ _ _ _ _ H vs Q E hr _ _ _ nd ⟨L,x,S,num,ws,ks,rfl,⟨dL,af,av,NU,N5,Rs,Ds,hL,Om⟩,hcall,k1,k8,kl,kp,k⟩
 refine⟨_,(aj (aU (pv 0) (wx 1) rfl)
 (aj (aU (pv 0) (az (km T) hr (ag (fv 0) aq)) rfl)
 (aj (aU (pv 0) cZ rfl)
 (aj (aU (pv 0) cZ rfl)
 (rt (aW (ag aI aq))))))),?_⟩
 obtain⟨dx,aw,ar,rs,e,hx,L7,Mu,MT⟩:=id hcall;obtain⟨r0,NT,MD⟩:=ng MT;have nrL:r0≠L:=aF MD hL.obj;refine⟨_,rfl,rfl,hx,T.Call.o,rfl,ar,_,_,_,rfl,rfl,SqL.of Mu,aN (j:=0) rfl (by rw[Hd,NT];rfl),_,rfl,rfl,hL.obj,T.Ledger.o,rfl,?_⟩;generalize hH1:upd _ _ _=H1;have N1:H1 L=some (.ins c.Ledger dL (ic r0 av NU N5)):=by rw[<-hH1];exact aa
 have kp1:bB L H H1:=by rw[<-hH1];exact bB.putL
 have OO:H1 r0=some (.lst (nI ks)):=kp1 _ _ MD nrL (by intro kvs z;cases z);have fr1:∀b,H1 b=none->H b=none:=λb hb=>by
  have nb:b≠L:=λz=>by rw[z,N1]at hb;cases hb
  rw[<-hH1,ai nb]at hb;exact hb
 refine⟨_,rfl,rfl,N1,T.Ledger.o,rfl,r0,ks,rfl,OO,k1,k8,kl,kp,λH2 V2 s2 hV2 rows=>?_⟩;have Oi:=s2 _ _ N1;refine⟨_,rfl,rfl,Oi,T.Ledger.o,rfl,?_⟩;generalize hH3:upd _ _ _=H3;have OY:H3 L=some (.ins c.Ledger dL (ic r0 V2 NU N5)):=by rw[<-hH3];exact aa
 have kp3:bB L H2 H3:=by rw[<-hH3];exact bB.putL
 have fr3:∀b,H3 b=none->H2 b=none:=λb hb=>by
  have nb:b≠L:=λz=>by rw[z,OY]at hb;cases hb
  rw[<-hH3,ai nb]at hb;exact hb
 intro a5 h5;have s5:=ak.upd (o:=.dK []) h5;refine⟨_,rfl,rfl,s5 _ _ OY,T.Ledger.o,rfl,?_⟩;have n5:a5≠L:=λz=>by rw[z,OY]at h5;cases h5
 generalize hH6:upd _ _ _=H6;have hL6:H6 L=some (.ins c.Ledger dL (ic r0 V2 a5 N5)):=by rw[<-hH6];exact aa
 have kp6:bB L H3 H6:=by rw[<-hH6];exact(bB.of s5).trans bB.putL
 have h56:H6 a5=some (.dK []):=by rw[<-hH6,ai n5];exact aa
 have fr6:∀b,H6 b=none->H3 b=none:=λb hb=>by
  have nb:b≠L:=λz=>by rw[z,hL6]at hb;cases hb
  rw[<-hH6,ai nb]at hb;exact s5.free hb
 intro a7 h7;have s7:=ak.upd (o:=.dK []) h7;have n7:a7≠L:=λz=>by rw[z,hL6]at h7;cases h7
 have n57:a5≠a7:=au h56 h7;refine⟨_,rfl,rfl,s7 _ _ hL6,T.Ledger.o,rfl,?_⟩;generalize hH8:upd _ _ _=H8;have hL8:H8 L=some (.ins c.Ledger dL (ic r0 V2 a5 a7)):=by rw[<-hH8];exact aa
 have kp8:bB L H6 H8:=by rw[<-hH8];exact(bB.of s7).trans bB.putL
 have h58:H8 a5=some (.dK []):=by rw[<-hH8,ai n5,ai n57];exact h56
 have h78:H8 a7=some (.dK []):=by rw[<-hH8,ai n7];exact aa
 have fr8:∀b,H8 b=none->H6 b=none:=λb hb=>by
  have nb:b≠L:=λz=>by rw[z,hL8]at hb;cases hb
  rw[<-hH8,ai nb]at hb;exact s7.free hb
 have kp28:bB L H2 H8:=kp3.trans (kp6.trans kp8);have kl2:∀b xs,H2 b=some (.lst xs)->H8 b=some (.lst xs):=λb xs h=>kp28 _ _ h (aF h Oi) (by intro kvs z;cases z);obtain⟨vrs,hv1,hv2⟩:=rows;have led:bJ c H8 L (pQ ks) dL r0 V2 a5 a7 [] []:=⟨hL8,kl2 _ _ (s2 _ _ OO),⟨vrs,kl2 _ _ hv1,Paired.mapP hv2 λr row q=>kl2 _ _ q⟩,h58,λp m=>(by cases m),HS _,h78,λp m=>(by cases m),HS _⟩;refine⟨aB,λq hq=>?_⟩;have s9:=ak.upd (o:=.lst [.int 0]) hq;exact k _ q (kp1.trans ((bB.of s2).trans (kp28.trans (bB.of s9)))) (fr1 _ (s2.free (fr3 _ (fr6 _ (fr8 _ hq))))) aa ⟨dL,r0,V2,a5,a7,[],[],led.same s9,n57⟩
inductive uV(c:Cs)(vs:List V)(H:Hp)(Q:VK)(E:XK):Prop|mk(L x:Addr)(S:LU)(num:Int)(R:LW)(bl ol:List Int)(_:vs=[.ref L,.ref x])(_:aY c H L S)(_:SOk S)(_:bc c H x num [(R.num:Int),(R.first:Int),(R.last:Int),(R.lands:Int)] [bl,ol])(_:bl.length<=60)(_:de S.sizes.length bl=R.boxes.map Vbptaj.ints)(_:(∀b∈R.boxes,b.length=S.sizes.length))(_:R.boxes.length<=1000)(_:ol=(R.owners.flatMap λp=>[(p.1:Int),(p.2:Int)]))(_:R.owners.length<=100)(_:(R.owners.Pairwise λa b=>a.1<b.1))(_:∀H' y,ak H H'->bd c (am S) H' y R->Q (.ref y) H')
theorem AF(os:List (Nat×Nat))(i:Nat)(h:os[i]?=some p):(os.flatMap λp=>[(p.1:Int),(p.2:Int)])[2*i]?=some (p.1:Int)/\(os.flatMap λp=>[(p.1:Int),(p.2:Int)])[2*i+1]?=some (p.2:Int):=by
 induction os generalizing i with
 |nil=>simp at h
 |cons q r ih=>
  cases i with
  |zero=>cases h;exact⟨rfl,rfl⟩
  |succ i=>have:=ih i h;rw[Iu,show 2*(i+1)=2*i+2 by omega];exact this
theorem xB(T:Txt P w K mg c):T.FG.H P w base 4 (uV c):=by
 have B:=T.B;refine aS T.FG ["ledger","call","right","boxes","variant","owners","at"] ?_;rintro _ _ _ _ s H vs Q E hr hu _ _ nd ⟨L,x,S,num,R,bl,ol,rfl,hL,ok,hcall,Px,hcut,hbw,hbn,hol,hon,Nc,k⟩
 refine⟨_,(aj (aO 2 nd (iy (B0 T) (hr.mono (by decide)) rfl (ag (wx 1) (ag (wx 1) (ag (wx 1) (ag (wx 1) aq))))))
 (aj (aO 3 nd (az (mW T) hr (ag (aK aV (by rfl) B.q Ig (ag (fv 0) aq)) (ag (wx 1) aq))))
 (aj (aU (pv 2) (bQ rfl nd (a8 (fv 0)) (aX (own:=[("variant",4)]) (by rfl))
  (by exact λ_ _ _ _ _=>(aT 4 nd))
  (by exact λ_ _ _ _ _=>b7)
  (by exact λ_ _ _ _ _=>(az (rR T) hr (p2 3 4)))) rfl)
 (aj (aO 5 nd (wx 1))
 (aj (cy HI rfl (kQ rfl B.q (ag aI (ag (aK aV (by rfl) B.q Ig (p1 5)) (ag aI aq)))) (aT 6 nd)
 (aL (fS hu (fv 2) (cr cD (pv 5) (pv 6) (λ_ _=>rfl)) (cr cD (pv 5) (bH d6 (pv 6) aI) (λ_ _=>rfl)) rfl)))
 (rt (pv 2))))))),?_⟩
 obtain⟨dx,aw,ar,rs,e,hx,L7,Mu,MT⟩:=id hcall;obtain⟨r0,NT,MD⟩:=ng MT;obtain⟨r1,OO,hr1H⟩:=dA (F:=λ(r:Addr)(row:List Int)=>H r=some (.lst (row.map V.int))) (i:=1) MT rfl;obtain⟨dL,af,av,NU,N5,Rs,Ds,MV⟩:=id hL;have l64:=ik ok;refine⟨_,rfl,rfl,hx,T.Call.o,rfl,aw,_,_,_,rfl,rfl,SqL.of L7,aN (j:=0) rfl rfl,_,rfl,rfl,hx,T.Call.o,rfl,aw,_,_,_,rfl,rfl,SqL.of L7,aN (j:=1) rfl rfl,_,rfl,rfl,hx,T.Call.o,rfl,aw,_,_,_,rfl,rfl,SqL.of L7,aN (j:=2) rfl rfl,_,rfl,rfl,hx,T.Call.o,rfl,aw,_,_,_,rfl,rfl,SqL.of L7,aN (j:=3) rfl rfl,λy dy hy hdy ne=>?_⟩;refine⟨y,dy,_,_,_,_,rfl,aa,λH1 ac ao h1 h2 h3 f1 f2 kp=>⟨rfl,?_⟩⟩;have s1:ak H H1:=ak.made hy hdy kp;have s0:ak H (upd (upd H dy (.own y)) y (.ins c.Right dy [])):=λb o e=>by rw[ai (au e hy),ai (au e hdy)];exact e
 have fao:H ao=none:=s0.free f2;have hLI1:=MV.same s1;refine⟨_,rfl,rfl,hLI1.obj,T.Ledger.o,rfl,af,_,rfl,.inl (SqL.of hLI1.fld),_,rfl,rfl,s1 _ _ hx,T.Call.o,rfl,ar,_,_,_,rfl,rfl,SqL.of (s1 _ _ Mu),aN (j:=0) rfl (by rw[Hd,NT];rfl),?_⟩;have:=ok.l1;have:=ok.l6;refine⟨S.sizes.length,r0,bl,by rw[bE];rfl,s1 _ _ MD,ok.l1,by omega,Px,λH2 D2 s2 MO rows2=>?_⟩;rw[hcut]at rows2;have rows2':=jV.mpr rows2;have Mg:=s1.trans s2;have OU:=MV.same Mg;obtain⟨vrs,OC,PJ⟩:=id OU.vars;dsimp only[bp,b6,cu,tC,bu];refine bq ?_;refine⟨_,rfl,rfl,OU.obj,T.Ledger.o,rfl,av,rfl,⟨_,SqL.of OC⟩,?_⟩;refine bT (am S) (λ_=>true) (λv=>V.bl (R.boxes.any λb=>inBox b v)) (gS (F:=λ(H:Hp)(r:Addr)(row:List Nat)=>H r=some (.lst (nI row))) OC PJ λH H' r x s h=>s _ _ h) (aG (by omega)) ?_ ?_
 .rintro i v u H' R' hi s' ⟨r',v',rfl,Oh,NX,MJ⟩ k';have e:v'=v:=Hg (NX.symm.trans hi);subst e;refine⟨rfl,ck (bS ?_)⟩;have hl:=cQ S.sizes (Hl hi);exact⟨_,rfl,_,rfl,D2,r',R.boxes,v',rfl,rows2'.same s',MJ,λb hb=>(hbw b hb).trans hl.symm,by omega,hbn,λH2 s2=>(k' H2 s2).1 rfl⟩
 .intro D3 H3 MK s3 Nd;rw[bh]at Nd;have Pw:=s3 _ _ (s2 _ _ h1);have M6:=Mg.trans s3;refine⟨_,rfl,rfl,Pw,T.Right.o,rfl,?_⟩;generalize hH4:upd _ _ _=H4;have hy4:H4 y=some (.ins c.Right dy (oh R.num R.first R.last R.lands D3 ao)):=by rw[<-hH4];exact aa
  have PB:ak H H4:=by rw[<-hH4];exact a_ M6 hy
  have hao3:=s3 _ _ (s2 _ _ h3);have hao4:H4 ao=some (.dK (pN [])):=by rw[<-hH4,ai (aF hao3 Pw)];exact hao3
  have OD:H4 D3=some (.lst (((am S).map λv=>R.boxes.any λb=>inBox b v).map V.bl)):=by rw[<-hH4,ai (aF Nd Pw),Nd,HM];rfl
  refine⟨_,rfl,rfl,PB _ _ hx,T.Call.o,rfl,ar,_,_,_,rfl,rfl,SqL.of (PB _ _ Mu),aN (j:=1) rfl (by rw[Hd,OO];rfl),?_⟩;have lol:ol.length=2*R.owners.length:=by rw[hol];exact fQ (λp:Nat×Nat=>[(p.1:Int),(p.2:Int)]) 2 (λ_=>rfl) R.owners
  have sB:ak H (hide H4 ao):=dv PB fao;have nyo:y≠ao:=aF hy4 hao4;have hyB:(hide H4 ao) y=some (.ins c.Right dy (oh R.num R.first R.last R.lands D3 ao)):=by rw[cq nyo];exact hy4
  have nDo:D3≠ao:=aF OD hao4;have hDB:(hide H4 ao) D3=some (.lst (((am S).map λv=>R.boxes.any λb=>inBox b v).map V.bl)):=by rw[cq nDo];exact OD
  dsimp only[bp,b6,cu,tC,bu];refine cw ?_;refine⟨_,rfl,r1,_,rfl,.inl (SqL.of (PB _ _ hr1H)),_,_,_,_,rfl,by rw[G8];exact pL (c:=2) (by decide) (by decide) (by omega),?_⟩;refine cB (i7 (G:=λH'=>ak (hide H4 ao) H')) (λi σ H'=>∃v6,σ=[some (.ref L),some (.ref x),some (.ref y),some (.ref D2),none,some (.ref r1),v6]/\ak (hide H4 ao) H'/\H' ao=some (.dK (pN (R.owners.take i)))) ?_ ?_ ?_ ?_
  .exact⟨none,rfl,d3,hao4⟩
  .rintro i σ H' _ ⟨_,_,s,_⟩;exact s
  .rintro i u σ H5 H6 hi ⟨v6,rfl,s5,hao5⟩ s6 rfl;have OV:=s5.trans s6;have hao6:=s6 _ _ hao5;have Pt:i<R.owners.length:=by omega
   obtain⟨p,hp⟩:∃p,R.owners[i]?=some p:=⟨R.owners[i],Hn Pt⟩;obtain⟨q1,q2⟩:=AF R.owners i hp;rw[<-hol]at q1 q2;have e1:(0:Int)+(i:Nat)*((2:Nat):Int)=((2*i:Nat):Int):=by omega
   have a1:atI (ol.map V.int) ((0:Int)+(i:Nat)*((2:Nat):Int))=some (.int (p.1:Int)):=aN (j:=2*i) e1 (by rw[Hd,q1];rfl);have a2:atI (ol.map V.int) ((0:Int)+(i:Nat)*((2:Nat):Int)+1)=some (.int (p.2:Int)):=aN (j:=2*i+1) (by rw[e1];omega) (by rw[Hd,q2];rfl);have hr6:=OV _ _ (sB _ _ hr1H);have Mi:∀z∈R.owners.take i,z.1≠p.1:=λz hz e=>by have hs:=Nc;rw[jL hp,List.pairwise_append]at hs;have:=hs.2.2 z hz p (Hk ..);omega
   have epu:bG (pN (R.owners.take i)) (Sum.inl (p.1:Int)) (.int (p.2:Int))=pN (R.owners.take (i+1)):=by
    rw[mj];unfold dS;have hb:¬((R.owners.take i).any λx=>x.1==p.1)=true:=by rw[IR];rintro⟨z,hz,hzz⟩;exact Mi z hz (by simpa using hzz)
    rw[G9 hb,a6 hp]
   have dp:dX H6 ao (.int (p.1:Int)) (.int (p.2:Int)) (upd H6 ao (.dK (pN (R.owners.take (i+1))))):=by rw[<-epu];refine dX.k (k:=Sum.inl (p.1:Int)) hao6 ?_;unfold pN;rw[G8,Iv];exact aG (by omega)
   refine⟨_,rfl,_,rfl,_,_,rfl,rfl,r1,_,_,_,rfl,rfl,SqL.of hr6,a2,_,rfl,rfl,OV _ _ hyB,T.Right.o,rfl,_,rfl,_,rfl,r1,_,_,_,rfl,rfl,SqL.of hr6,a1,ao,_,rfl,dp,?_⟩;exact⟨_,rfl,a_ OV dh,aa⟩
  .rintro σ H' ⟨v6,rfl,s5,hao5⟩;rw[JN (by omega)]at hao5;exact⟨_,rfl,k H' y (sB.trans s5) ⟨dy,D3,ao,s5 _ _ hyB,s5 _ _ hDB,hao5⟩⟩
def eW(S:LU)(R:LW):LU×List Int:=if(rightAt S R.num).isSome=true then(S,[-6])else if R.last<R.first then(S,[-7])else if 8<=S.rights.length then(S,[-9])else({S with rights:=putRight R S.rights},[((S.rights.length+1:Nat):Int)])
inductive lI(c:Cs)(vs:List V)(H:Hp)(Q:VK)(E:XK):Prop|mk(L x:Addr)(S:LU)(num:Int)(R:LW)(bl ol:List Int)(_:vs=[.ref L,.ref x])(_:bi c H L S)(_:SOk S)(_:bc c H x num [(R.num:Int),(R.first:Int),(R.last:Int),(R.lands:Int)] [bl,ol])(_:bl.length<=60)(_:de S.sizes.length bl=R.boxes.map Vbptaj.ints)(_:(∀b∈R.boxes,b.length=S.sizes.length))(_:R.boxes.length<=1000)(_:ol=(R.owners.flatMap λp=>[(p.1:Int),(p.2:Int)]))(_:R.owners.length<=100)(_:(R.owners.Pairwise λa b=>a.1<b.1))(_:R.owners≠[])(_:fJ c L H Q (eW S R).1 (eW S R).2)
theorem vG(T:Txt P w K mg c):T.FH.H P w base 5 (lI c):=by
 have B:=T.B;refine aS T.FH ["ledger","call","right"] ?_;rintro _ _ _ _ s H vs Q E hr hu _ _ nd ⟨L,x,S,num,R,bl,ol,rfl,Oi,ok,hcall,Px,hcut,hbw,hbn,hol,hon,Nc,hone,k⟩
 refine⟨_,(aj (aO 2 nd (az (xB T) hr (p2 0 1)))
 (aj (a9 (gK (il hu (fv 2) (fv 0))) (rt (aW (ag (bf rfl T.GS) aq))) aM)
 (aj (a9 (aA gB (fv 2) (fv 2) (aD _)) (rt (aW (ag (bf rfl T.GU) aq))) aM)
 (aj (a9 (aA r9 (aK iU (by rfl) B.q Ig (ag (fv 0) aq)) (bf rfl T.GX) (aD _)) (rt (aW (ag (bf rfl T.GV) aq))) aM)
 (aj (fS hu (fv 0) (fv 2) (pv 2) rfl)
 (rt (aW (ag (aK iU (by rfl) B.q Ig (ag (fv 0) aq)) aq)))))))),?_⟩
 refine⟨_,rfl,_,rfl,L,x,S,num,R,bl,ol,rfl,Oi.one,ok,hcall,Px,hcut,hbw,hbn,hol,hon,Nc,λH1 y s1 hR=>?_⟩;obtain⟨dL,af,av,ar,ad,Rs,Ds,hL,Om⟩:=Oi.same s1;have k:=k.of s1;obtain⟨dy,yc,yo,Nk,hy2,Pw⟩:=id hR;have lR:=hL.rLen;have hnl:(cF Rs).length=S.rights.length:=by unfold cF;rw[G8];exact lR
 unfold eW at k;have fin:∀(n:Int)(Ol:List Int),Ol=[n]->fJ c L H1 Q S Ol->∀q,H1 q=none->Q (.ref q) (upd H1 q (.lst [.int n])):=λn Ol ea kk q hq=>by subst ea;have s:=ak.upd (o:=.lst [.int n]) hq;exact kk _ q (bB.of s) hq aa ⟨dL,af,av,ar,ad,Rs,Ds,hL.same s,Om⟩
 refine⟨_,rfl,rfl,Nk,T.Right.o,rfl,_,rfl,rfl,hL.obj,T.Ledger.o,rfl,ar,_,rfl,bP.k (k:=Sum.inl (R.num:Int)) hL.rts,_,rfl,?_⟩;rw[hL.rHas ok];refine aP (λh=>?_) λh=>?_
 .rw[Hc h]at k;exact⟨aB,λq hq=>fin _ _ rfl k q hq⟩
 rw[G9 h]at k;refine⟨_,rfl,rfl,Nk,T.Right.o,rfl,_,rfl,rfl,Nk,T.Right.o,rfl,_,_,rfl,rfl,_,rfl,aP (λh1=>?_) λh1=>?_⟩
 .have Ni:=Hb h1;rw[Hc (by omega)]at k;exact⟨aB,λq hq=>fin _ _ rfl k q hq⟩
 rw[G9 (λz=>h1 (He (by omega)))]at k;refine⟨_,rfl,rfl,hL.obj,T.Ledger.o,rfl,ar,_,rfl,hL.rts,_,_,rfl,rfl,_,rfl,aP (λh2=>?_) λh2=>?_⟩
 .have MR:=Hb h2;rw[hnl]at MR;rw[Hc (by omega)]at k;exact⟨aB,λq hq=>fin _ _ rfl k q hq⟩
 have MR:¬8<=S.rights.length:=λz=>h2 (He (by rw[hnl];omega));rw[G9 MR]at k;have OX:rightAt S R.num=none:=by
  cases hh:rightAt S R.num with
  |none=>rfl
  |some x=>rw[hh]at h;exact absurd rfl h
 refine⟨_,rfl,_,rfl,rfl,hL.obj,T.Ledger.o,rfl,_,rfl,rfl,Nk,T.Right.o,rfl,ar,_,rfl,dX.k (k:=Sum.inl (R.num:Int)) hL.rts (by rw[hnl];exact aG (by omega)),?_⟩;have OY:=hL.addR ok Om hR hone OX;have kp:=bB.putD (L:=L) (o:=.dK (bG (cF Rs) (Sum.inl (R.num:Int)) (.ref y))) hL.rts;have eD:(upd H1 ar (.dK (bG (cF Rs) (Sum.inl (R.num:Int)) (.ref y)))) ar=some (.dK (cF (Rs++[(y,R)]))):=OY.rts;generalize Pd:upd H1 ar (.dK (bG (cF Rs) (Sum.inl (R.num:Int)) (.ref y)))=H2 at*;refine⟨_,rfl,rfl,OY.obj,T.Ledger.o,rfl,ar,_,rfl,OY.rts,aB,λq hq=>?_⟩;have s:=ak.upd (o:=.lst [.int (((cF (Rs++[(y,R)])).length:Nat):Int)]) hq;have hqH:H1 q=none:=by
  have nq:q≠ar:=λz=>by rw[z,eD]at hq;cases hq
  rw[<-Pd,ai nq]at hq;exact hq
 refine k _ q (kp.trans (bB.of s)) hqH ?_ ⟨dL,af,av,ar,ad,_,Ds,OY.same s,Om⟩;rw[aa];refine HU (λz=>some (HO.lst z)) ?_;show [V.int (((cF (Rs++[(y,R)])).length:Nat):Int)]=[V.int ((S.rights.length+1:Nat):Int)];have:(cF (Rs++[(y,R)])).length=S.rights.length+1:=by unfold cF;rw[G8,Hx,lR];rfl
 rw[this]
end
theorem sn(h:t σ H λc H1=>Q (!c) H1):Cy t σ H Q:=h
theorem zr(h:t σ H λx H1=>CK H1 x Q):tB t σ H Q:=h
def gX(S:LU)(z:Int):Bool:=S.rights.any λR=>decide ((R.num:Int)=z)
def eG(S:LU)(z:Int)(ks:List Int):Bool:=S.deeds.any λd=>decide ((d.num:Int)=z)&&ks.contains (d.kind:Int)
def ay(S:LU)(name:Str)(z:Int):Bool:=if name="right"then gX S z else match dC.lookup name with
 |none=>true
 |some ks=>eG S z ks
theorem gk{α:Type}(f:α->Nat):∀(Rs:List (Addr×α))(z:Int),(aQ (Rs.map λp=>((Sum.inl (f p.2:Int):Key),V.ref p.1)) (Sum.inl z)).isSome=(Rs.map (·.2)).any λR=>decide ((f R:Int)=z)
 |[],z=>rfl
 |p::r,z=>by
  rw[Hf,Hf,J7];by_cases e:(f p.2:Int)=z
  .rw[b8 (by rw[e])];rw[He e,Bool.true_or];rfl
  .rw[bR (λh=>e (by injection h)),gk f r z,Hw e,J6]
theorem ui{α:Type}{l m:List α}(h:l.Perm m)(p:α->Bool):l.any p=m.any p:=by apply HD.mpr;rw[IR,IR];exact⟨λ⟨x,hx,q⟩=>⟨x,h.mem_iff.mp hx,q⟩,λ⟨x,hx,q⟩=>⟨x,h.mem_iff.mpr hx,q⟩⟩
theorem Ax(n:Int)(l:List Int):inV (V.int n) (l.map V.int)=l.contains n:=by
 unfold inV;rw[Kv];apply HD.mpr;rw[IR,HZ];constructor
 .rintro⟨x,hx,h⟩;have h':eqV (V.int x) (V.int n)=true:=h;simp[eqV]at h';exact h'▸hx
 .intro h;exact⟨n,h,by show eqV (V.int n) (V.int n)=true;simp[eqV]⟩
theorem y9(l:List Int):(l.map V.int).all eJ=true:=Ij.mpr λv hv=>by obtain⟨n,_,rfl⟩:=HA.mp hv;rfl
section
variable{P:Program}{w:World}{K:LS}{mg:Str->Option Value}{base:Heap}{c:Cs}
inductive uY(c:Cs)(vs:List V)(H:Hp)(Q:VK)(E:XK):Prop|mk(L:Addr)(S:LU)(name:Str)(z:Int)(_:vs=[.ref L,.str name,.int z])(_:aY c H L S)(_:SOk S)(_:Q (.bl (ay S name z)) H)
theorem xC(T:Txt P w K mg c):T.FD.H P w base 1 (uY c):=by
 obtain⟨MF,MG,Nl⟩:=T.GW;refine aS T.FD ["ledger","name","number"] ?_;rintro _ _ _ _ _ H vs Q E hr hu _ _ nd ⟨L,S,name,z,rfl,⟨dL,af,av,ar,ad,Rs,Ds,hL⟩,ok,k⟩;obtain⟨bs,hd,pr⟩:=Nl;obtain⟨l1,l2⟩:=sS pr name;unfold ay at k
 refine⟨_,(aj (a9 (aA bY (pv 1) kF (aD _)) (rt (xV (il hu (pv 2) (fv 0)))) aM)
 (aj (a9 (aA Ag (pv 1) (fC rfl MG) (by with_unfolding_all rfl)) (rt (je (xV (il hu (pv 2) (fv 0))) (kG (eV iO (oo (dg hu (fv 0) (pv 2) (λ_ _=>rfl)) rfl) (tD (fC rfl MG) (pv 1) (λ_ _=>rfl)) (by with_unfolding_all rfl))))) aM)
 (rt eR))),?_⟩
 refine⟨_,rfl,rfl,_,rfl,aP (λh=>?_) λh=>?_⟩
 .have hn:name="right":=by have:=Hb h;injection this
  rw[Hc hn]at k;refine⟨_,rfl,_,rfl,rfl,hL.obj,T.Ledger.o,rfl,ar,_,rfl,bP.k (k:=Sum.inl z) hL.rts,?_⟩;have e:(aQ (cF Rs) (Sum.inl z)).isSome=gX S z:=by unfold cF gX;rw[gk (λR:LW=>R.num),ui hL.rPm]
  exact Qbl k e.symm
 have hn:¬name="right":=λe=>h (He (by rw[e]));rw[G9 hn]at k;refine⟨_,rfl,MF,_,name,rfl,rfl,hd,_,rfl,?_⟩;cases ht:dC.lookup name with
 |none=>rw[ht]at k;rw[l1 ht];exact eh k
 |some ks=>
  rw[ht]at k;obtain⟨b,hb,hk⟩:=l2 ks ht;rw[hb];refine bS ?_;have e:(aQ (bO Ds) (Sum.inl z)).isSome=S.deeds.any λd=>decide ((d.num:Int)=z):=by unfold bO;rw[gk (λd:LV=>d.num),ui hL.dPm]
  refine⟨_,rfl,_,rfl,rfl,hL.obj,T.Ledger.o,rfl,ad,_,rfl,bP.k (k:=Sum.inl z) hL.dds,_,rfl,?_⟩;rw[e];refine aP (λh1=>?_) λh1=>?_
  .obtain⟨d,N4,Oc⟩:=IR.mp h1;have Oc:=Hb Oc;obtain⟨y,hy,dy,yb,yc,Ni,MR,h3'⟩:=hL.dGet ok N4;have hy:bP H ad (.int z) (some (.ref y)):=by rw[<-Oc];exact hy
   refine⟨_,rfl,rfl,hL.obj,T.Ledger.o,rfl,_,rfl,ad,_,rfl,hy,rfl,Ni,T.Deed.o,rfl,_,rfl,MF,_,name,_,rfl,rfl,hd,hb,b,_,rfl,.inr (hk H),rfl,y9 _,?_⟩;simp only[false_eq_true,if_false];refine Qbl k ?_;rw[Ax];unfold eG;apply HD.mpr;rw[IR];constructor
   .rintro⟨d',hd',q⟩;rw[Hq]at q;have q1:=Hb q.1;have:d'=d:=mT ok.dNo hd' N4 (by omega);rw[<-this];exact q.2
   .intro q;exact⟨d,N4,by rw[Hq];exact⟨He Oc,q⟩⟩
  .refine Qbl k ?_;unfold eG;rw[K6];intro d N4 q;rw[Hq]at q;exact h1 (IR.mpr ⟨d,N4,q.1⟩)
def c_(S:LU)(names LZ:List Str)(ws:List Int)(rows:List (List Int)):Int:=
 if(names.zip ws).all (λp=>ax p.1 p.2)=false then -3 else if(LZ.zip rows).all (λp=>aZ p.1 S.sizes p.2)=false then -4 else if(names.zip ws).all (λp=>ay S p.1 p.2)=false then -5 else 0
inductive my(c:Cs)(vs:List V)(H:Hp)(Q:VK)(E:XK):Prop|mk(L x:Addr)(S:LU)(i:Nat)(names LZ:List Str)(ws:List Int)(rows:List (List Int))(_:vs=[.ref L,.ref x])(_:aY c H L S)(_:SOk S)(_:bc c H x (i:Nat) ws rows)(_:cW[i]?=some names)(_:cP[i]?=some LZ)(_:ws.length<=1000)(_:rows.length<=1000)(_:(∀r∈rows,r.length<=60))(_:∀H',ak H H'->Q (.int (c_ S names LZ ws rows)) H')
theorem sQ(names:List Str)(ws:List Int):min (names.map V.str).length (ws.map V.int).length=(names.zip ws).length:=by rw[G8,G8,Jf]
theorem nW(T:Txt P w K mg c):T.FE.H P w base 4 (my c):=by
 have B:=T.B;obtain⟨PM,NB,PN⟩:=T.Gy;obtain⟨OZ,Na,O0⟩:=T.Gx;refine aS T.FE ["ledger","call","names","name","whole","row"] ?_;rintro _ _ _ _ s H vs Q E hr _ _ _ nd ⟨L,x,S,i,names,LZ,ws,rows,rfl,hL,ok,⟨dx,aw,ar,rs,e,hx,L7,Mu,MT⟩,hn,hl,hw1,OO,hr60,k⟩;obtain⟨bW,kW,atW⟩:=O0.at_;obtain⟨bL,kL,atL⟩:=PN.at_;obtain⟨b1,hb1,kb1⟩:=atW i names hn;obtain⟨b2,OJ,kb2⟩:=atL i LZ hl;unfold c_ at k
 refine⟨_,(aj (aO 2 nd (cr gO (fC rfl Na) (fv 1) (λ_ _=>rfl)))
 (aj (a9 (om (eL (aK (ip rfl) (by rfl) B.q fR (ag (bQ rfl nd (nA rfl B.q (ag (pv 2) (ag (fv 1) aq))) (aX (own:=[("name",3),("whole",4)]) (by rfl))
  (by exact λ_ _ _ _ _=>(eU (K:=K) (n:=2) rfl rfl (bX (aT 3 nd) (bX (aT 4 nd) eT))))
  (by exact λ_ _ _ _ _=>b7)
  (by exact λ_ _ _ _ _=>(az (xE T) hr (p2 3 4)))) aq)) (λ_=>rfl))) (rt (bf rfl T.GP)) aM)
 (aj (a9 (om (eL (aK (ip rfl) (by rfl) B.q fR (ag (bQ rfl nd (nA rfl B.q (ag (cr gO (fC rfl NB) (fv 1) (λ_ _=>rfl)) (ag (fv 1) aq))) (aX (own:=[("name",3),("row",5)]) (by rfl))
  (by exact λ_ _ _ _ _=>(eU (K:=K) (n:=2) rfl rfl (bX (aT 3 nd) (bX (aT 5 nd) eT))))
  (by exact λ_ _ _ _ _=>b7)
  (by exact λ_ _ _ _ _=>(az (xF T) hr (ag (pv 3) (ag (bv (K:=K) rfl (pv 0) rfl) (p1 5)))))) aq)) (λ_=>rfl))) (rt (bf rfl T.GQ)) aM)
 (aj (a9 (om (eL (aK (ip rfl) (by rfl) B.q fR (ag (bQ rfl nd (nA rfl B.q (ag (pv 2) (ag (fv 1) aq))) (aX (own:=[("name",3),("whole",4)]) (by rfl))
  (by exact λ_ _ _ _ _=>(eU (K:=K) (n:=2) rfl rfl (bX (aT 3 nd) (bX (aT 4 nd) eT))))
  (by exact λ_ _ _ _ _=>b7)
  (by exact λ_ _ _ _ _=>(az (xC T) hr (ag (pv 0) (p2 3 4))))) aq)) (λ_=>rfl))) (rt (bf rfl T.GR)) aM)
 (rt aI))))),?_⟩
 have lrs:rs.length=rows.length:=HC MT;refine⟨_,rfl,rfl,hx,T.Call.o,rfl,OZ,_,_,_,rfl,rfl,kW H,aN (j:=i) rfl (by rw[Hd,hb1];rfl),?_⟩;dsimp only[bp,b6,cu,tC,bu];refine sq (sn (zr (gA (dP (bq ?_)))));refine⟨_,rfl,_,rfl,rfl,hx,T.Call.o,rfl,b1,aw,_,_,rfl,kb1 H,SqL.of L7,?_⟩;refine bT (names.zip ws) (λ_=>true) (λp=>V.bl (ax p.1 p.2)) (Item:=λi v H'=>∃T x y,v=.ref T/\H' T=some (.tup [x,y])/\(names.map V.str)[i]?=some x/\(ws.map V.int)[i]?=some y) ?_ ?_ ?_ ?_
 .have q:=kY (K:=K) (a:=b1) (b:=aw) (xs:=names.map V.str) (ys:=ws.map V.int) (G:=λH'=>ak H H') (λH' s=>⟨kb1 H',SqL.of (s _ _ L7)⟩);rw[sQ]at q;exact q
 .rw[Jf];exact aG (by omega)
 .rintro j ⟨nm,z⟩ v H' R hi s' ⟨T',x',y',rfl,hT,Nt,MS⟩ k';obtain⟨h1,h2⟩:=I0.mp hi;rw[Hd,h1]at Nt;rw[Hd,h2]at MS;cases Nt;cases MS;refine⟨T',_,rfl,SqT.of hT,rfl,_,_,rfl,_,_,rfl,rfl,rfl,?_⟩;refine ck (bS ?_);exact⟨_,rfl,_,rfl,nm,z,rfl,(k' H' (ak.refl _)).1 rfl⟩
 intro D1 H1 Np s1 Pr;rw[bh]at Pr;refine⟨D1,(names.zip ws).map (λp=>ax p.1 p.2),rfl,SqL.of (by rw[Pr,HM];rfl),_,rfl,?_⟩;rw[KP];have e1:(names.zip ws).all (id∘λp=>ax p.1 p.2)=(names.zip ws).all (λp=>ax p.1 p.2):=rfl;rw[e1];refine aP (λh=>?_) λh=>?_
 .have h':(names.zip ws).all (λp=>ax p.1 p.2)=false:=by simpa using h
  rw[Hc h']at k;exact k H1 s1
 have h':(names.zip ws).all (λp=>ax p.1 p.2)=true:=by
  cases hh:(names.zip ws).all (λp=>ax p.1 p.2)with
  |true=>rfl
  |false=>rw[hh]at h;exact absurd rfl h
 rw[G9 (by rw[h'];simp)]at k;dsimp only[bp,b6];refine sq (sn (zr (gA (dP (bq ?_)))));have ON:=s1 _ _ hx;have PH:=s1 _ _ Mu;obtain⟨dL,af,av,NU,N5,Rs,Ds,MV⟩:=id hL;refine⟨_,rfl,rfl,ON,T.Call.o,rfl,PM,_,_,_,rfl,rfl,kL H1,aN (j:=i) rfl (by rw[Hd,OJ];rfl),_,rfl,rfl,ON,T.Call.o,rfl,b2,ar,_,_,rfl,kb2 H1,SqL.of PH,?_⟩;refine bT (LZ.zip rows) (λ_=>true) (λp=>V.bl (aZ p.1 S.sizes p.2)) (Item:=λi v H'=>∃T x y,v=.ref T/\H' T=some (.tup [x,y])/\(LZ.map V.str)[i]?=some x/\(rs.map V.ref)[i]?=some y) ?_ ?_ ?_ ?_
 .have q:=kY (K:=K) (a:=b2) (b:=ar) (xs:=LZ.map V.str) (ys:=rs.map V.ref) (G:=λH'=>ak H1 H') (λH' s=>⟨kb2 H',SqL.of (s _ _ PH)⟩);rw[G8,G8,lrs,<-Jf]at q;exact q
 .rw[Jf];exact aG (by omega)
 .rintro j ⟨nm,row⟩ v H' R hi s' ⟨T',x',y',rfl,hT,Nt,MS⟩ k';obtain⟨h1,h2⟩:=I0.mp hi;obtain⟨r,hr,MJ⟩:=dA MT h2;rw[Hd,h1]at Nt;rw[Hd,hr]at MS;cases Nt;cases MS;refine⟨T',_,rfl,SqT.of hT,rfl,_,_,rfl,_,_,rfl,rfl,rfl,?_⟩;refine ck (bS ?_);have sH:=s1.trans s';have hL':=MV.same sH;have:=ok.l6;exact⟨_,rfl,_,rfl,rfl,hL'.obj,T.Ledger.o,rfl,_,rfl,nm,af,r,S.sizes,row,rfl,hL'.fld,sH _ _ MJ,ok.l1,by omega,hr60 row (Hl h2),λH2 s2=>(k' H2 s2).1 rfl⟩
 intro D2 H2 MO s2 hl2;rw[bh]at hl2;refine⟨D2,(LZ.zip rows).map (λp=>aZ p.1 S.sizes p.2),rfl,SqL.of (by rw[hl2,HM];rfl),_,rfl,?_⟩;rw[KP];have e2:(LZ.zip rows).all (id∘λp=>aZ p.1 S.sizes p.2)=(LZ.zip rows).all (λp=>aZ p.1 S.sizes p.2):=rfl;rw[e2];have Mg:=s1.trans s2;refine aP (λh=>?_) λh=>?_
 .have h':(LZ.zip rows).all (λp=>aZ p.1 S.sizes p.2)=false:=by simpa using h
  rw[Hc h']at k;exact k H2 Mg
 have h':(LZ.zip rows).all (λp=>aZ p.1 S.sizes p.2)=true:=by
  cases hh:(LZ.zip rows).all (λp=>aZ p.1 S.sizes p.2)with
  |true=>rfl
  |false=>rw[hh]at h;exact absurd rfl h
 rw[G9 (by rw[h'];simp)]at k;dsimp only[bp,b6];refine sq (sn (zr (gA (dP (bq ?_)))));have N2:=Mg _ _ hx;have NP:=Mg _ _ L7;refine⟨_,rfl,_,rfl,rfl,N2,T.Call.o,rfl,b1,aw,_,_,rfl,kb1 H2,SqL.of NP,?_⟩;refine bT (names.zip ws) (λ_=>true) (λp=>V.bl (ay S p.1 p.2)) (Item:=λi v H'=>∃T x y,v=.ref T/\H' T=some (.tup [x,y])/\(names.map V.str)[i]?=some x/\(ws.map V.int)[i]?=some y) ?_ ?_ ?_ ?_
 .have q:=kY (K:=K) (a:=b1) (b:=aw) (xs:=names.map V.str) (ys:=ws.map V.int) (G:=λH'=>ak H2 H') (λH' s=>⟨kb1 H',SqL.of (s _ _ NP)⟩);rw[sQ]at q;exact q
 .rw[Jf];exact aG (by omega)
 .rintro j ⟨nm,z⟩ v H' R hi s' ⟨T',x',y',rfl,hT,Nt,MS⟩ k';obtain⟨h1,h2⟩:=I0.mp hi;rw[Hd,h1]at Nt;rw[Hd,h2]at MS;cases Nt;cases MS;refine⟨T',_,rfl,SqT.of hT,rfl,_,_,rfl,_,_,rfl,rfl,rfl,?_⟩;refine ck (bS ?_);exact⟨_,rfl,_,rfl,_,rfl,L,S,nm,z,rfl,hL.same (Mg.trans s'),ok,(k' H' (ak.refl _)).1 rfl⟩
 intro D3 H3 MK s3 Nd;rw[bh]at Nd;refine⟨D3,(names.zip ws).map (λp=>ay S p.1 p.2),rfl,SqL.of (by rw[Nd,HM];rfl),_,rfl,?_⟩;rw[KP];have e3:(names.zip ws).all (id∘λp=>ay S p.1 p.2)=(names.zip ws).all (λp=>ay S p.1 p.2):=rfl;rw[e3];refine aP (λh=>?_) λh=>?_
 .have h':(names.zip ws).all (λp=>ay S p.1 p.2)=false:=by simpa using h
  rw[Hc h']at k;exact k H3 (Mg.trans s3)
 .have h':(names.zip ws).all (λp=>ay S p.1 p.2)=true:=by
   cases hh:(names.zip ws).all (λp=>ay S p.1 p.2)with
   |true=>rfl
   |false=>rw[hh]at h;exact absurd rfl h
  rw[G9 (by rw[h'];simp)]at k;exact k H3 (Mg.trans s3)
theorem sW(h:Has X.prog X.w X.K X.mg X.base k x ps sp)(hr:bC k X.A)(hm:X.mg x=some (.ref f))(hs:sp vs H Q E0):keepIn X.K (.ref f)=true/\mf X f vs H Q:=by
 obtain⟨f',fd,m,kp,b,F⟩:=h;have e:f'=f:=by rw[hm]at m;injection m with m;injection m with m;exact m.symm
 subst e;exact⟨kp,k,fd,ps,sp,hr,b,F,hs⟩
def A3(c:Cs):Nat->Sp
 |0=>lH c
 |1=>lI c
 |2=>jn c 0
 |3=>jw c
 |4=>jn c 2
 |5=>gq c 3
 |6=>gq c 4
 |7=>gq c 5
 |_=>λ_ _ _ _=>False
def wQ(c:Cs):Nat->Sp
 |0=>fO c jq
 |1=>kc c
 |2=>lG c
 |3=>j_ c
 |4=>ju c
 |5=>ke c
 |6=>fO c jp
 |7=>fO c iB
 |8=>kg c
 |9=>lE c
 |10=>lF c
 |11=>jt c
 |_=>λ_ _ _ _=>False
inductive Bg(c:Cs)(vs:List V)(H:Hp)(Q:VK)(E:XK):Prop|mk(L x:Addr)(i:Nat)(ws:List Int)(rows:List (List Int))(_:vs=[.ref L,.ref x])(_:bc c H x (i:Nat) ws rows)(_:A3 c i [.ref L,.ref x] H Q E0)
inductive Bf(c:Cs)(vs:List V)(H:Hp)(Q:VK)(E:XK):Prop|mk(L x:Addr)(i:Nat)(ws:List Int)(rows:List (List Int))(_:vs=[.ref L,.ref x])(_:bc c H x ((i+8:Nat):Int) ws rows)(_:wQ c i [.ref L,.ref x] H Q E0)
theorem Dq(T:Txt P w K mg c):T.FT.H P w base 7 (Bg c):=by
 obtain⟨On,Nv,Oo,Op,Oq⟩:=T.GZ;refine aS T.FT ["ledger","call","keeper"] ?_;rintro f L1 A outer s H vs Q E hr _ _ _ nd ⟨L,x,i,ws,rows,rfl,⟨dx,aw,ar,rs,e,hx,L7,Mu,MT⟩,k⟩
 refine⟨_,(aj (aO 2 nd (cr gO (fC rfl Oo) (fv 1) (λ_ _=>rfl)))
 (rt (tF (pv 2) (p2 0 1)))),?_⟩
 have go:∀(j:Nat)(nm:Str)(kk:Nat)(ps:List Str)(sp:Sp),i=j->(["set_field","add_right","add_transfer","add_licence","add_pledge","add_release","add_seizure","add_annulment"]:List Str)[j]?=some nm->Has P w K mg base kk nm ps sp->bC kk (A.deeper (envOfC "keep" (aE kz) s.heap.objs.size f L1))->sp [.ref L,.ref x] H Q E0->∃b,Nv[i]?=some b/\keepIn K (.ref b)=true/\mf (fc CX0 P w K mg base ["ledger","call","keeper"] "keep" (aE kz) f L1 A outer s H E).nox b [.ref L,.ref x] H Q:=by intro j nm kk ps sp hij hnm hh O8 hs;subst hij;obtain⟨b,hb,hm⟩:=dA Oq hnm;obtain⟨h1,h2⟩:=sW (X:=(fc CX0 P w K mg base ["ledger","call","keeper"] "keep" (aE kz) f L1 A outer s H E).nox) hh O8 hm hs;exact⟨b,hb,h1,h2⟩
 have key:∃b,Nv[i]?=some b/\keepIn K (.ref b)=true/\mf (fc CX0 P w K mg base ["ledger","call","keeper"] "keep" (aE kz) f L1 A outer s H E).nox b [.ref L,.ref x] H Q:=by
  match i,k with
  |0,k=>exact go 0 "set_field" 2 _ _ rfl rfl (vB T) (hr.mono (by decide)) k
  |1,k=>exact go 1 "add_right" 5 _ _ rfl rfl (vG T) (hr.mono (by decide)) k
  |2,k=>exact go 2 "add_transfer" 6 _ _ rfl rfl (qf T) (hr.mono (by decide)) k
  |3,k=>exact go 3 "add_licence" 5 _ _ rfl rfl (rX T) (hr.mono (by decide)) k
  |4,k=>exact go 4 "add_pledge" 6 _ _ rfl rfl (uN T) (hr.mono (by decide)) k
  |5,k=>exact go 5 "add_release" 5 _ _ rfl rfl (rW T) (hr.mono (by decide)) k
  |6,k=>exact go 6 "add_seizure" 5 _ _ rfl rfl (rV T) (hr.mono (by decide)) k
  |7,k=>exact go 7 "add_annulment" 5 _ _ rfl rfl (pp T) (hr.mono (by decide)) k
  |_+8,k=>exact k.elim
 obtain⟨b,hb,hk,hrun⟩:=key;refine⟨_,rfl,rfl,hx,T.Call.o,rfl,On,_,_,_,rfl,rfl,Op H,aN (j:=i) rfl (by rw[Hd,hb];rfl),?_⟩;exact⟨_,rfl,b,rfl,hk,_,rfl,_,rfl,hrun⟩
theorem Do(T:Txt P w K mg c):T.Gu.H P w base 9 (Bf c):=by
 obtain⟨Ot,Nw,Ou,Ov,Ow⟩:=T.G6;refine aS T.Gu ["ledger","call","teller"] ?_;rintro f L1 A outer s H vs Q E hr _ _ _ nd ⟨L,x,i,ws,rows,rfl,⟨dx,aw,ar,rs,e,hx,L7,Mu,MT⟩,k⟩
 refine⟨_,(aj (aO 2 nd (cr gO (fC rfl Ou) (bH sC (fv 1) (bf rfl T.G5)) (λ_ _=>rfl)))
 (rt (tF (pv 2) (p2 0 1)))),?_⟩
 have go:∀(j:Nat)(nm:Str)(kk:Nat)(ps:List Str)(sp:Sp),i=j->(["tell_holders","tell_leave","tell_free","tell_parts","tell_effect","tell_force","tell_locks","tell_bound","tell_deeds","tell_told","tell_same","tell_owners"]:List Str)[j]?=some nm->Has P w K mg base kk nm ps sp->bC kk (A.deeper (envOfC "tell" (aE kx) s.heap.objs.size f L1))->sp [.ref L,.ref x] H Q E0->∃b,Nw[i]?=some b/\keepIn K (.ref b)=true/\mf (fc CX0 P w K mg base ["ledger","call","teller"] "tell" (aE kx) f L1 A outer s H E).nox b [.ref L,.ref x] H Q:=by intro j nm kk ps sp hij hnm hh O8 hs;subst hij;obtain⟨b,hb,hm⟩:=dA Ow hnm;obtain⟨h1,h2⟩:=sW (X:=(fc CX0 P w K mg base ["ledger","call","teller"] "tell" (aE kx) f L1 A outer s H E).nox) hh O8 hm hs;exact⟨b,hb,h1,h2⟩
 have key:∃b,Nw[i]?=some b/\keepIn K (.ref b)=true/\mf (fc CX0 P w K mg base ["ledger","call","teller"] "tell" (aE kx) f L1 A outer s H E).nox b [.ref L,.ref x] H Q:=by
  clear hx
  match i,k with
  |0,k=>exact go 0 "tell_holders" 8 _ _ rfl rfl (qd T) (hr.mono (by decide)) k
  |1,k=>exact go 1 "tell_leave" 8 _ _ rfl rfl (uG T) (hr.mono (by decide)) k
  |2,k=>exact go 2 "tell_free" 8 _ _ rfl rfl (vz T) (hr.mono (by decide)) k
  |3,k=>exact go 3 "tell_parts" 8 _ _ rfl rfl (uE T) (hr.mono (by decide)) k
  |4,k=>exact go 4 "tell_effect" 8 _ _ rfl rfl (rM T) (hr.mono (by decide)) k
  |5,k=>exact go 5 "tell_force" 4 _ _ rfl rfl (uH T) (hr.mono (by decide)) k
  |6,k=>exact go 6 "tell_locks" 8 _ _ rfl rfl (uF T) (hr.mono (by decide)) k
  |7,k=>exact go 7 "tell_bound" 8 _ _ rfl rfl (uJ T) (hr.mono (by decide)) k
  |8,k=>exact go 8 "tell_deeds" 5 _ _ rfl rfl (uI T) (hr.mono (by decide)) k
  |9,k=>exact go 9 "tell_told" 1 _ _ rfl rfl (vx T) (hr.mono (by decide)) k
  |10,k=>exact go 10 "tell_same" 8 _ _ rfl rfl (vy T) (hr.mono (by decide)) k
  |11,k=>exact go 11 "tell_owners" 8 _ _ rfl rfl (rL T) (hr.mono (by decide)) k
  |_+12,k=>exact k.elim
 obtain⟨b,hb,hk,hrun⟩:=key;have e8:(((i+8:Nat):Int)-8)=(i:Nat):=by omega
 refine⟨_,rfl,rfl,hx,T.Call.o,rfl,_,_,rfl,rfl,Ot,_,_,_,rfl,rfl,Ov H,aN (j:=i) e8 (by rw[Hd,hb];rfl),?_⟩;exact⟨_,rfl,b,rfl,hk,_,rfl,_,rfl,hrun⟩
end
end Wh
namespace Wh
open Vbptaj
def inR(lo hi n:Int):Bool:=decide (lo<=n)&&decide (n<=hi)
theorem cT{α:Type}{n lo hi:Int}{f:Nat->Res α}:(num n lo hi>>=f)=if inR lo hi n=true then f n.toNat else .error (-3):=by
 unfold num inR;by_cases h:lo<=n/\n<=hi
 .rw[Hc h,Hc (by rw[He h.1,He h.2];rfl)];rfl
 .rw[G9 h,G9 (λq=>h (by rw[Hq]at q;exact⟨Hb q.1,Hb q.2⟩))];rfl
theorem eO{α:Type}{b:Bool}{e:Int}{f:Unit->Res α}:(need b e>>=f)=if b=true then f ()else .error e:=by
 unfold need;by_cases h:b=true
 .rw[Hc h,Hc h];rfl
 .rw[G9 h,G9 h];rfl
theorem c4{α:Type}{a b:Bool}{X E:α}:(if a=true then(if b=true then X else E)else E)=if(a&&b)=true then X else E:=by cases a<;>cases b<;>rfl
theorem g_{l:List Int}(h:∀x∈l,0<=x):Vbptaj.ints (l.map toNat)=l:=by
 unfold Vbptaj.ints;rw[HM]
 conv=>rhs;rw[<-map_id l]
 apply J9;intro x hx;have:=h x hx;show((x.toNat:Nat):Int)=x;omega
theorem DA(x:Int)(k:Nat):(decide (1<=x)&&decide (x/2^k=0))=true↔0<=x/\1<=x.toNat/\x.toNat<2^k:=by
 rw[Hq,Ht,Ht];by_cases h0:0<=x
 .obtain⟨n,rfl⟩:=Int.eq_ofNat_of_zero_le h0;have e:(n:Int)/2^k=((n/2^k:Nat):Int):=by push_cast;rfl
  rw[e,JB];have hp:0<2^k:=Nat.pow_pos (by decide);constructor
  .rintro⟨h1,h2⟩;refine⟨h0,by omega,?_⟩;have h3:n/2^k=0:=by omega
   exact(LI hp).mp h3
  .rintro⟨_,h1,h2⟩;refine⟨by omega,?_⟩;rw[(LI hp).mpr h2];rfl
 .constructor
  .rintro⟨h1,_⟩;omega
  .rintro⟨h1,_⟩;exact absurd h1 h0
theorem pH:∀(l:List Int)(ks:List Nat),l.length=ks.length->(((l.zip ks).all λp=>decide (1<=p.1)&&decide (p.1/2^p.2=0))=true↔(∀x∈l,0<=x)/\(((l.map toNat).zip ks).all λp=>decide (1<=p.1/\p.1<2^p.2))=true)
 |[],[],_=>⟨λ_=>⟨λx h=>(by cases h),rfl⟩,λ_=>rfl⟩
 |x::l,k::ks,h=>by
  have ih:=pH l ks (by simpa using h);rw[IJ,Ji,Hf,IJ,Ji];have e:=DA x k;constructor
  .intro hh;obtain⟨h1,h23⟩:=Ir.mp hh;obtain⟨h2,h3⟩:=ih.mp h23;obtain⟨q1,q2,q3⟩:=e.mp h1;exact⟨λy hy=>(Hi.mp hy).elim (λz=>z▸q1) (λz=>h2 y z),Ir.mpr ⟨He ⟨q2,q3⟩,h3⟩⟩
  .rintro⟨h1,hh⟩;obtain⟨h2,h3⟩:=Ir.mp hh;have q:=Hb h2;exact Ir.mpr ⟨e.mpr ⟨h1 x (Hk ..),q.1,q.2⟩,ih.mpr ⟨λy hy=>h1 y (Hh _ hy),h3⟩⟩
 |[],_::_,h=>by simp at h
 |_::_,[],h=>by simp at h
theorem mq(S:State)(l:List Int):cg S.sizes l=true↔(l.all (λx=>decide (0<=x))=true/\isBox S (l.map toNat)=true):=by
 unfold cg isBox;rw[Hq,Hq,Ht,IX,G8];constructor
 .rintro⟨h1,h2⟩;obtain⟨q1,q2⟩:=(pH l S.sizes h1).mp h2;exact⟨Ij.mpr λx hx=>He (q1 x hx),h1,q2⟩
 .rintro⟨h1,h2,h3⟩;exact⟨h2,(pH l S.sizes h2).mpr ⟨λx hx=>Hb (Ij.mp h1 x hx),h3⟩⟩
theorem uh{α:Type}{S:State}{l:List Int}{f:Box->Res α}:(boxIn S l>>=f)=if cg S.sizes l=true then f (l.map toNat)else .error (-4):=by
 unfold boxIn;by_cases h:cg S.sizes l=true
 .rw[Hc h,Hc ((mq S l).mp h)];rfl
 .rw[G9 h,G9 (λq=>h ((mq S l).mpr q))];rfl
theorem lA{S:State}{l:List Int}(h:cg S.sizes l=true):Vbptaj.ints (l.map toNat)=l/\(l.map toNat).length=S.sizes.length:=by obtain⟨h1,h2⟩:=(mq S l).mp h;refine⟨g_ λx hx=>Hb (Ij.mp h1 x hx),?_⟩;unfold isBox at h2;rw[Hq,IX]at h2;exact h2.1
theorem pJ(S:State)(l:List Int):cz S.sizes l=true↔(l.length=S.sizes.length/\((l.zip S.sizes).all λp=>decide (0<=p.1/\p.1<(p.2:Int)))=true):=by
 unfold cz;rw[Hq,Ht];have e:(λp:Int×Nat=>decide (0<=p.1)&&decide (p.1<(p.2:Int)))=λp=>decide (0<=p.1/\p.1<(p.2:Int)):=by funext p;apply HD.mpr;rw[Hq,Ht,Ht,Ht]
 rw[e]
theorem jS{α:Type}{S:State}{l:List Int}{f:Variant->Res α}:(variantIn S l>>=f)=if cz S.sizes l=true then f (l.map toNat)else .error (-4):=by
 unfold variantIn;by_cases h:cz S.sizes l=true
 .rw[Hc h,Hc ((pJ S l).mp h)];rfl
 .rw[G9 h,G9 (λq=>h ((pJ S l).mpr q))];rfl
theorem lP:∀(l:List Int)(ks:List Nat),l.length=ks.length->((l.zip ks).all λp=>decide (0<=p.1/\p.1<(p.2:Int)))=true->(∀x∈l,0<=x)/\l.map toNat∈variants ks
 |[],[],_,_=>⟨λx h=>(by cases h),HH.mpr rfl⟩
 |x::l,k::ks,h,ha=>by rw[IJ,Ji,Hq]at ha;have q:=Hb ha.1;dsimp only at q;obtain⟨i1,i2⟩:=lP l ks (by simpa using h) ha.2;refine⟨λy hy=>(Hi.mp hy).elim (λz=>z▸q.1) (λz=>i1 y z),?_⟩;rw[Hf];unfold variants;exact mem_flatMap.mpr ⟨x.toNat,J5.mpr (by omega),HA.mpr ⟨_,i2,rfl⟩⟩
 |[],_::_,h,_=>by simp at h
 |_::_,[],h,_=>by simp at h
theorem iM(h:cz S.sizes l=true):Vbptaj.ints (l.map toNat)=l/\l.map toNat∈am S:=by obtain⟨h1,h2⟩:=(pJ S l).mp h;obtain⟨q1,q2⟩:=lP l S.sizes h1 h2;exact⟨g_ q1,q2⟩
theorem AN(k:Nat)(hk:1<=k):de k []=[]:=by
 unfold de;have:([]:List Int).length+k-1=k-1:=by simp
 rw[this,K2 (by omega)];rfl
theorem zg(k:Nat)(hk:1<=k)(l:List Int)(hl:l≠[]):de k l=l.take k::de k (l.drop k):=by
 unfold de;have OQ:0<l.length:=List.length_pos_iff.mpr hl;have e:(l.length+k-1)/k=((l.drop k).length+k-1)/k+1:=by
  rw[IC];by_cases h:k<=l.length
  .have:l.length+k-1=(l.length-k+k-1)+k:=by omega
   rw[this,Nat.add_div_right _ (by omega)]
  .have:l.length-k=0:=by omega
   rw[this];have h1:(0+k-1)/k=0:=K2 (by omega);rw[h1];have h2:l.length+k-1=(l.length-1)+k:=by omega
   rw[h2,Nat.add_div_right _ (by omega),K2 (by omega)]
 rw[e,Kf,Hf,HM];congr 1
 .simp
 .apply J9;intro i _;show(l.drop ((i+1)*k)).take k=((l.drop k).drop (i*k)).take k;rw[Li,succ_mul];congr 2;omega
theorem jR(S:State)(hk:1<=S.sizes.length):∀(n:Nat)(l:List Int),l.length<=n->((de S.sizes.length l).all (cg S.sizes)=true↔(l.length%S.sizes.length=0/\(∀x∈l,0<=x)/\(pieces S.sizes.length (l.length/S.sizes.length) (l.map toNat)).all (isBox S)=true))/\ ((de S.sizes.length l).all (cg S.sizes)=true->de S.sizes.length l=(pieces S.sizes.length (l.length/S.sizes.length) (l.map toNat)).map Vbptaj.ints)
 |0,l,hn=>by
  have e:l=[]:=IF.mp (by omega);subst e;rw[AN _ hk];have e2:pieces S.sizes.length (([]:List Int).length/S.sizes.length) (([]:List Int).map toNat)=[]:=by rw[length_nil,Nat.zero_div];rfl
  rw[e2];exact⟨⟨λ_=>⟨Nat.zero_mod _,λx h=>(by cases h),rfl⟩,λ_=>rfl⟩,λ_=>rfl⟩
 |n+1,l,hn=>by
  by_cases hl:l=[]
  .subst hl;exact jR S hk n [] (HJ _)
  .have OQ:0<l.length:=List.length_pos_iff.mpr hl;generalize hks:S.sizes.length=k at*;have ih:=jR S (by rw[hks];exact hk) n (l.drop k) (by rw[IC];omega);rw[hks]at ih;rw[zg k hk l hl,Ji,Hq,ih.1];by_cases L3:k<=l.length
   .have e1:l.length/k=(l.drop k).length/k+1:=by rw[IC];rw[Nat.div_eq_sub_div (by omega) L3]
    have e2:l.length%k=(l.drop k).length%k:=by rw[IC];rw[Nat.mod_eq_sub_mod L3]
    have ep:pieces k (l.length/k) (l.map toNat)=(l.take k).map toNat::pieces k ((l.drop k).length/k) ((l.drop k).map toNat):=by rw[e1,pieces,map_take,map_drop]
    rw[ep,Ji,Hq,e2,mq];have Mf:(∀x∈l,0<=x)↔(∀x∈l.take k,0<=x)/\∀x∈l.drop k,0<=x:=by
     constructor
     .intro h;exact⟨λx hx=>h x (Kr hx),λx hx=>h x (List.mem_of_mem_drop hx)⟩
     .rintro⟨h1,h2⟩ x hx;rw[<-JA k l]at hx;exact(H_.mp hx).elim (h1 x) (h2 x)
    have Md:(l.take k).all (λx=>decide (0<=x))=true↔∀x∈l.take k,0<=x:=by rw[Ij];exact⟨λh x hx=>Hb (h x hx),λh x hx=>He (h x hx)⟩
    constructor
    .rw[Mf,Md];constructor
     .rintro⟨⟨a,b⟩,c,d,e⟩;exact⟨c,⟨a,d⟩,b,e⟩
     .rintro⟨c,⟨a,d⟩,b,e⟩;exact⟨⟨a,b⟩,c,d,e⟩
    .rintro⟨⟨a,b⟩,c⟩;rw[Hf,ih.2 (ih.1.mpr c),g_ (Md.mp a)]
   .have Mi:¬cg S.sizes (l.take k)=true:=λq=>by have:=(lA q).2;rw[G8,Iv,hks]at this;omega
    refine⟨⟨λh=>absurd h.1 Mi,λh=>?_⟩,λh=>absurd h.1 Mi⟩;have:=h.1;rw[Nat.mod_eq_of_lt (by omega)]at this;omega
theorem lu(S:State)(hk:1<=S.sizes.length)(l:List Int):cJ S.sizes l=true↔(l.length%S.sizes.length=0/\l.all (λx=>decide (0<=x))=true/\1<=(pieces S.sizes.length (l.length/S.sizes.length) (l.map toNat)).length/\(pieces S.sizes.length (l.length/S.sizes.length) (l.map toNat)).length<=8/\(pieces S.sizes.length (l.length/S.sizes.length) (l.map toNat)).all (isBox S)=true):=by
 obtain⟨h1,h2⟩:=jR S hk l.length l (Hu _);have Md:l.all (λx=>decide (0<=x))=true↔∀x∈l,0<=x:=by rw[Ij];exact⟨λh x hx=>Hb (h x hx),λh x hx=>He (h x hx)⟩
 unfold cJ;rw[Hq,Ht,Md];constructor
 .rintro⟨⟨a,b⟩,c⟩;have e:=HU length (h2 c);rw[G8]at e;obtain⟨q1,q2,q3⟩:=h1.mp c;exact⟨q1,q2,by omega,by omega,q3⟩
 .rintro⟨q1,q2,q3,q4,q5⟩;have c:=h1.mpr ⟨q1,q2,q5⟩;have e:=HU length (h2 c);rw[G8]at e;exact⟨⟨by omega,by omega⟩,c⟩
theorem xM{α:Type}{S:State}(hk:1<=S.sizes.length){l:List Int}{f:List Box->Res α}:(boxesIn S l>>=f)=if cJ S.sizes l=true then f (pieces S.sizes.length (l.length/S.sizes.length) (l.map toNat))else .error (-4):=by
 unfold boxesIn;dsimp only;by_cases h:cJ S.sizes l=true
 .rw[Hc h,Hc ((lu S hk l).mp h)];rfl
 .rw[G9 h,G9 (λq=>h ((lu S hk l).mpr q))];rfl
theorem vK{S:State}(hk:1<=S.sizes.length){l:List Int}(h:cJ S.sizes l=true):de S.sizes.length l=(pieces S.sizes.length (l.length/S.sizes.length) (l.map toNat)).map Vbptaj.ints/\(∀b∈pieces S.sizes.length (l.length/S.sizes.length) (l.map toNat),b.length=S.sizes.length)/\(pieces S.sizes.length (l.length/S.sizes.length) (l.map toNat)).length<=8:=by obtain⟨q1,q2,q3,q4,q5⟩:=(lu S hk l).mp h;obtain⟨h1,h2⟩:=jR S hk l.length l (Hu _);unfold cJ at h;rw[Hq]at h;refine⟨h2 h.2,λb hb=>?_,q4⟩;have:=Ij.mp q5 b hb;unfold isBox at this;rw[Hq,IX]at this;exact this.1
def dU:List Int->List (Nat×Nat)
 |p::q::r=>(p.toNat,q.toNat)::dU r
 |_=>[]
theorem gG:∀(n:Nat)(l:List Int),l.length=2*n->(pieces 2 n (l.map toNat)).map (λx=>(x.getD 0 0,x.getD 1 0))=dU l
 |0,l,h=>by have e:l=[]:=IF.mp (by omega);subst e;rfl
 |n+1,l,h=>by
  match l,h with
  |p::q::r,h=>have:=gG n r (by simp at h;omega);rw[pieces,Hf,dU];congr 1
theorem wa:∀(n:Nat)(l:List Int)(b t:Nat),l.length=2*n->(f9 b t l=true↔((∀x∈l,0<=x)/\((dU l).all λp=>decide (1<=p.1/\p.1<=PERSONS/\1<=p.2))=true/\rising (b::(dU l).map λp=>p.1)=true/\t+((dU l).map λp=>p.2).sum=WHOLE))
 |0,l,b,t,h=>by
  have e:l=[]:=IF.mp (by omega);subst e;unfold f9;rw[Ht];show((t:Int)=120)↔_;constructor
  .intro q;exact⟨λx hx=>(by cases hx),rfl,rfl,by show t+0=120;omega⟩
  .rintro⟨_,_,_,q⟩;have q':t+0=120:=q;omega
 |n+1,l,b,t,h=>by
  match l,h with
  |p::q::r,h=>
   have hr:r.length=2*n:=by simp at h;omega
   rw[f9,dU,Ji,Hf,Hf,JS,rising];by_cases hc:p<=(b:Int)\/20<p\/q<1
   .rw[Hc hc];constructor
    .intro z;cases z
    .rintro⟨h1,h2,h3,h4⟩;exfalso;rw[Hq]at h2 h3;have q2:=Hb h2.1;have q3:=Hb h3.1;have q1:=h1 p (Hk ..);have q4:=h1 q (Hh _ (Hk ..));unfold PERSONS at q2;dsimp only at q2 q3;omega
   .rw[G9 hc];have ih:=wa n r p.toNat (t+q.toNat) hr;have e1:(p.toNat:Int)=p:=by omega
    have e2:((t+q.toNat:Nat):Int)=(t:Int)+q:=by omega
    rw[e1,e2]at ih;rw[ih,Hq,Hq];constructor
    .rintro⟨h1,h2,h3,h4⟩;refine⟨λx hx=>?_,⟨He ?_,h2⟩,⟨He (by omega),h3⟩,by omega⟩
     .rcases Hi.mp hx with rfl|hx
      .omega
      .rcases Hi.mp hx with rfl|hx
       .omega
       .exact h1 x hx
     .unfold PERSONS;dsimp only;omega
    .rintro⟨h1,h2,h3,h4⟩;exact⟨λx hx=>h1 x (Hh _ (Hh _ hx)),h2.2,h3.2,by omega⟩
theorem vY(ps:List (Nat×Nat))(h:(ps.all λp=>decide (1<=p.1/\p.1<=PERSONS/\1<=p.2))=true):rising (0::ps.map λp=>p.1)=rising (ps.map λp=>p.1):=by
 cases ps with
 |nil=>rfl
 |cons p r=>rw[Ji,Hq]at h;have:=Hb h.1;rw[Hf,rising,He (by omega),HE]
theorem jX(l:List Int):cE l=true↔(l.length%2=0/\l.all (λx=>decide (0<=x))=true/\((((pieces 2 (l.length/2) (l.map toNat)).map λx=>(x.getD 0 0,x.getD 1 0)).all λp=>decide (1<=p.1/\p.1<=PERSONS/\1<=p.2))=true)/\rising (((pieces 2 (l.length/2) (l.map toNat)).map λx=>(x.getD 0 0,x.getD 1 0)).map λp=>p.1)=true/\(((pieces 2 (l.length/2) (l.map toNat)).map λx=>(x.getD 0 0,x.getD 1 0)).map λp=>p.2).sum=WHOLE):=by
 unfold cE;rw[Hq,Ht];have Md:l.all (λx=>decide (0<=x))=true↔∀x∈l,0<=x:=by rw[Ij];exact⟨λh x hx=>Hb (h x hx),λh x hx=>He (h x hx)⟩
 rw[Md];by_cases he:l.length%2=0
 .have hl:l.length=2*(l.length/2):=by omega
  rw[gG _ l hl];have ho:=wa _ l 0 0 hl;have NR:f9 0 0 l=true↔_:=ho;rw[NR];constructor
  .rintro⟨_,h1,h2,h3,h4⟩;rw[vY _ h2]at h3;exact⟨he,h1,h2,h3,by omega⟩
  .rintro⟨_,h1,h2,h3,h4⟩;refine⟨he,h1,h2,?_,by omega⟩;rw[vY _ h2];exact h3
 .exact⟨λh=>absurd h.1 he,λh=>absurd h.1 he⟩
theorem vM{α:Type}{l:List Int}{f:List (Nat×Nat)->Res α}:(ownersIn l>>=f)=if cE l=true then f (dU l)else .error (-4):=by
 unfold ownersIn;dsimp only;by_cases h:cE l=true
 .have hq:=(jX l).mp h;rw[Hc h,Hc hq,gG _ l (by omega)];rfl
 .rw[G9 h,G9 (λq=>h ((jX l).mpr q))];rfl
theorem qu:∀(l:List Nat),rising l=true->l.Pairwise (·<·)
 |[],_=>Pairwise.nil
 |[a],_=>IG _ _
 |a::b::l,h=>by
  rw[rising,Hq]at h;have h1:=Hb h.1;have ih:=qu (b::l) h.2;refine HF.mpr ⟨λz hz=>?_,ih⟩;rcases Hi.mp hz with rfl|hz
  .exact h1
  .exact K3 h1 ((HF.mp ih).1 z hz)
theorem qz:∀(n:Nat)(l:List Int),l.length=2*n->(∀x∈l,0<=x)->l=(dU l).flatMap λp=>[(p.1:Int),(p.2:Int)]
 |0,l,h,_=>by have e:l=[]:=IF.mp (by omega);subst e;rfl
 |n+1,l,h,h0=>by
  match l,h with
  |p::q::r,h=>have ih:=qz n r (by simp at h;omega) λx hx=>h0 x (Hh _ (Hh _ hx));have h1:=h0 p (Hk ..);have h2:=h0 q (Hh _ (Hk ..));rw[dU,Iu,<-ih];show p::q::r=((p.toNat:Nat):Int)::((q.toNat:Nat):Int)::r;rw[Kw h1,Kw h2]
theorem tm:∀(n:Nat)(l:List Int),l.length=2*n->(dU l).length=n
 |0,l,h=>by have e:l=[]:=IF.mp (by omega);subst e;rfl
 |n+1,l,h=>by
  match l,h with
  |p::q::r,h=>rw[dU,Hr,tm n r (by simp at h;omega)]
theorem uB(h:cE l=true)(PP:l.length<=60):l=((dU l).flatMap λp=>[(p.1:Int),(p.2:Int)])/\(dU l).length<=100/\((dU l).Pairwise λa b=>a.1<b.1)/\(∀p∈dU l,1<=p.1/\p.1<=20/\1<=p.2)/\((dU l).map (·.2)).sum=120:=by
 obtain⟨h1,h2,h3,h4,h5⟩:=(jX l).mp h;have hl:l.length=2*(l.length/2):=by omega
 rw[gG _ l hl]at h3 h4 h5;refine⟨qz _ l hl λx hx=>Hb (Ij.mp h2 x hx),by rw[tm _ l hl];omega,?_,λp hp=>Hb (Ij.mp h3 p hp),h5⟩;have:=qu _ h4;rw[IL]at this;exact this
theorem oN(ok:SOk S)(m:R∈S.rights):rightAt S R.num=some R:=by
 unfold rightAt;have key:∀l:List Right,(l.Pairwise λa b=>a.num<b.num)->R∈l->l.find? (λx=>x.num==R.num)=some R:=by
  intro l;induction l with
  |nil=>intro _ h;cases h
  |cons q r ih=>
   intro hp h;rw[HF]at hp;rw[Jc];rcases Hi.mp h with e|h'
   .rw[<-e];simp
   .have e:(q.num==R.num)=false:=by rw[Ia];have:=hp.1 R h';omega
    rw[e];exact ih hp.2 h'
 exact key _ ok.rSo m
theorem cM{α:Type}{S:State}(ok:SOk S){r:Int}{f:Right->Res α}:(gX S r=false->(rightIn S r>>=f)=.error (-5))/\(gX S r=true->∃R∈S.rights,(R.num:Int)=r/\(rightIn S r>>=f)=f R):=by
 unfold gX;constructor
 .intro h;have Mi:∀R∈S.rights,¬(R.num:Int)=r:=λR hR e=>by rw[K6]at h;exact h R hR (He e)
  unfold rightIn;by_cases hr:r<0
  .rw[Hc hr];rfl
  .rw[G9 hr];have:rightAt S r.toNat=none:=iD.mpr λR hR e=>Mi R hR (by omega);rw[this];rfl
 .intro h;obtain⟨R,hR,e⟩:=IR.mp h;have e:=Hb e;refine⟨R,hR,e,?_⟩;unfold rightIn;have e2:r.toNat=R.num:=by omega
  rw[G9 (by omega),e2,oN ok hR];rfl
theorem f6{α:Type}{S:State}(ok:SOk S){z:Int}{ks:List Int}{g:Deed->Bool}(hg:∀d∈S.deeds,g d=ks.contains (d.kind:Int)){f:Deed->Res α}:(eG S z ks=false->(deedIn S z g>>=f)=.error (-5))/\(eG S z ks=true->∃d∈S.deeds,(d.num:Int)=z/\g d=true/\(deedIn S z g>>=f)=f d):=by
 unfold eG;constructor
 .intro h;have Mi:∀d∈S.deeds,(d.num:Int)=z->g d=false:=λd hd e=>by rw[K6]at h;have:=h d hd;rw[He e,HE]at this;rw[hg d hd];simpa using this
  unfold deedIn;by_cases hr:z<0
  .rw[Hc hr];rfl
  .rw[G9 hr];cases hd:deedAt S z.toNat with
   |none=>rfl
   |some d=>
    unfold deedAt at hd;have hm:=Io hd;have hn:d.num=z.toNat:=by simpa using JQ hd
    have:=Mi d hm (by omega);dsimp only;rw[G9 (by rw[this];simp)];rfl
 .intro h;obtain⟨d,hd,e⟩:=IR.mp h;rw[Hq]at e;have e1:=Hb e.1;have Nh:g d=true:=by rw[hg d hd];exact e.2
  refine⟨d,hd,e1,Nh,?_⟩;unfold deedIn;have e2:z.toNat=d.num:=by omega
  rw[G9 (by omega),e2,iR ok hd];dsimp only;rw[Hc Nh];rfl
theorem iu(n:Int):ax "right" n=true:=by rfl
theorem qv(n:Int):ax "pledge" n=true:=by rfl
theorem zW(n:Int):ax "no annulment" n=true:=by rfl
theorem zX(n:Int):ax "grant" n=true:=by rfl
theorem Bw(n:Int):ax "deed" n=true:=by rfl
theorem vh(n:Int):ax "new right" n=inR 1 99 n:=by rfl
theorem jW(n:Int):ax "new deed" n=inR 1 999 n:=by rfl
theorem bK(n:Int):ax "day" n=inR 0 100000 n:=by rfl
theorem ia(n:Int):ax "land" n=inR 0 3 n:=by rfl
theorem ny(n:Int):ax "lands" n=inR 1 15 n:=by rfl
theorem eM(n:Int):ax "person" n=inR 1 20 n:=by rfl
theorem zV(n:Int):ax "parts" n=inR 1 120 n:=by rfl
theorem Bv(n:Int):ax "sole" n=inR 0 1 n:=by rfl
theorem iA(S:State)(n:Int):ay S "right" n=gX S n:=by rfl
theorem qO(S:State)(n:Int):ay S "pledge" n=eG S n [2]:=by rfl
theorem Au(S:State)(n:Int):ay S "no annulment" n=eG S n [0,1,2,3,4]:=by rfl
theorem Av(S:State)(n:Int):ay S "grant" n=eG S n [0,1,2]:=by rfl
theorem BW(S:State)(n:Int):ay S "deed" n=eG S n [0,1,2,3,4,5]:=by rfl
theorem vt(S:State)(n:Int):ay S "new right" n=true:=by rfl
theorem j4(S:State)(n:Int):ay S "new deed" n=true:=by rfl
theorem bM(S:State)(n:Int):ay S "day" n=true:=by rfl
theorem ie(S:State)(n:Int):ay S "land" n=true:=by rfl
theorem nH(S:State)(n:Int):ay S "lands" n=true:=by rfl
theorem eN(S:State)(n:Int):ay S "person" n=true:=by rfl
theorem As(S:State)(n:Int):ay S "parts" n=true:=by rfl
theorem BV(S:State)(n:Int):ay S "sole" n=true:=by rfl
theorem y3(ks:List Nat)(l:List Int):aZ "leaves" ks l=cS l:=by rfl
theorem AA(ks:List Nat)(l:List Int):aZ "boxes" ks l=cJ ks l:=by rfl
theorem y2(ks:List Nat)(l:List Int):aZ "owners" ks l=cE l:=by rfl
theorem ye(ks:List Nat)(l:List Int):aZ "box" ks l=cg ks l:=by rfl
theorem hW(ks:List Nat)(l:List Int):aZ "variant" ks l=cz ks l:=by rfl
def cV(S:State)(y:Res (State×Answer)):State×Answer:=match y with
 | .ok x=>x
 | .error e=>(S,[e])
theorem cR (e3:(names.zip ws).all (λp=>ax p.1 p.2)=A) (e4:(LZ.zip rows).all (λp=>aZ p.1 S.sizes p.2)=B) (e5:(names.zip ws).all (λp=>ay S p.1 p.2)=C)
 (hy:y=if A=true then(if B=true then Y else .error (-4))else .error (-3)) (hC:C=false->Y=.error (-5)):
  (c_ S names LZ ws rows≠0->cV S y=(S,[c_ S names LZ ws rows])/\c_ S names LZ ws rows<0)/\(c_ S names LZ ws rows=0->A=true/\B=true/\C=true/\y=Y):=by
 unfold c_;rw[e3,e4,e5];subst hy;cases A with
 |false=>exact⟨λ_=>⟨rfl,by show(-3:Int)<0;decide⟩,λh=>absurd h (by show¬(-3:Int)=0;decide)⟩
 |true=>
  cases B with
  |false=>exact⟨λ_=>⟨rfl,by show(-4:Int)<0;decide⟩,λh=>absurd h (by show¬(-4:Int)=0;decide)⟩
  |true=>
   cases C with
   |false=>refine⟨λ_=>⟨?_,by decide⟩,λh=>absurd h (by decide)⟩;rw[hC rfl];rfl
   |true=>exact⟨λh=>absurd rfl h,λ_=>⟨rfl,rfl,rfl,rfl⟩⟩
theorem BZ:inR lo hi n=true↔lo<=n/\n<=hi:=by unfold inR;rw[Hq,Ht,Ht]
theorem cv:e∈putDeed d l↔e=d\/e∈l:=by rw[(eP d l).mem_iff,Hi]
theorem mQ:∀{l:List Deed},Srt l->(∀e∈l,e.num≠d.num)->Srt (putDeed d l)
 |[],_,_=>IG _ _
 |e::l,hs,hn=>by
  have hs':=hs;have hs:=HF.mp hs;unfold putDeed;split
  .rename_i h;refine HF.mpr ⟨λy hy=>?_,hs'⟩;rcases Hi.mp hy with rfl|hy
   .exact h
   .have:=hs.1 y hy;omega
  .rename_i h;refine HF.mpr ⟨λy hy=>?_,mQ hs.2 λy hy=>hn y (Hh _ hy)⟩;rcases cv.mp hy with rfl|hy
   .have:=hn e (Hk ..);omega
   .exact hs.1 y hy
theorem gj:e∈putRight d l↔e=d\/e∈l:=by rw[(fL d l).mem_iff,Hi]
theorem lM:∀{l:List Right},(l.Pairwise λa b=>a.num<b.num)->(∀e∈l,e.num≠d.num)->(putRight d l).Pairwise λa b=>a.num<b.num
 |[],_,_=>IG _ _
 |e::l,hs,hn=>by
  have hs':=hs;have hs:=HF.mp hs;unfold putRight;split
  .rename_i h;refine HF.mpr ⟨λy hy=>?_,hs'⟩;rcases Hi.mp hy with rfl|hy
   .exact h
   .have:=hs.1 y hy;omega
  .rename_i h;refine HF.mpr ⟨λy hy=>?_,lM hs.2 λy hy=>hn y (Hh _ hy)⟩;rcases gj.mp hy with rfl|hy
   .have:=hn e (Hk ..);omega
   .exact hs.1 y hy
structure DOk(S:State)(d:Deed):Prop where
 ki:d.kind<=5
 bx:d.kind<=2->d.box.length=S.sizes.length
 rt:d.kind<=2->∃R∈S.rights,R.num=d.right
 ab:d.kind=3\/d.kind=4->∃p∈S.deeds,p.num=d.about/\p.kind=2
 pe:d.kind<=2->1<=d.giver/\d.giver<=20/\1<=d.taker/\d.taker<=20
 pa:d.kind=0\/d.kind=2->1<=d.parts/\d.parts<=120
 bz:3<=d.kind->d.box=[]
theorem SOk.addD(ok:SOk S)(h:DOk S d)(hn:deedAt S d.num=none)(hl:S.deeds.length<60):SOk {S with deeds:=putDeed d S.deeds}:=by
 have Mi:=m6.mp hn;refine⟨ok.l1,ok.l6,ok.k1,ok.k8,ok.pr,ok.rSo,ok.rLe,ok.rBx,ok.rOw,mQ ok.dSo Mi,?_,?_,λe he=>?_,λe he=>?_,λe he=>?_,λe he=>?_,λe he=>?_,λe he=>?_,λe he=>?_⟩
 .have p:=(eP d S.deeds).map (·.num);refine p.nodup_iff.mpr ?_;rw[Hf,Ik];refine⟨λm=>?_,ok.dNo⟩;obtain⟨e,he,h2⟩:=HA.mp m;exact Mi e he h2
 .dsimp only;rw[(eP d S.deeds).length_eq,Hr];omega
 .rcases cv.mp he with rfl|he
  .exact h.ki
  .exact ok.dKi e he
 .rcases cv.mp he with rfl|he
  .exact h.bx
  .exact ok.dBx e he
 .rcases cv.mp he with rfl|he
  .exact h.rt
  .exact ok.dRt e he
 .intro hk;rcases cv.mp he with rfl|he
  .obtain⟨p,hp,h2⟩:=h.ab hk;exact⟨p,cv.mpr (.inr hp),h2⟩
  .obtain⟨p,hp,h2⟩:=ok.dAb e he hk;exact⟨p,cv.mpr (.inr hp),h2⟩
 .rcases cv.mp he with rfl|he
  .exact h.pe
  .exact ok.dPe e he
 .rcases cv.mp he with rfl|he
  .exact h.pa
  .exact ok.dPa e he
 .rcases cv.mp he with rfl|he
  .exact h.bz
  .exact ok.dBz e he
theorem lC(ok:SOk S)(h:DOk S d):SOk (cY S d).1:=by
 unfold cY;split
 .exact ok
 .rename_i h1;split
  .exact ok
  .rename_i h2;refine ok.addD h ?_ (by omega);cases hh:deedAt S d.num with
   |none=>rfl
   |some x=>rw[hh]at h1;exact absurd rfl h1
structure ROk(S:State)(R:Right):Prop where
 bx:R.boxes.length<=8/\∀b∈R.boxes,b.length=S.sizes.length
 ow:(R.owners.Pairwise λa b=>a.1<b.1)/\(∀p∈R.owners,1<=p.1/\p.1<=20/\1<=p.2)/\(R.owners.map (·.2)).sum=120
theorem SOk.addR(ok:SOk S)(h:ROk S R)(hn:rightAt S R.num=none)(hl:S.rights.length<8):SOk {S with rights:=putRight R S.rights}:=by
 have Mi:=iD.mp hn;refine⟨ok.l1,ok.l6,ok.k1,ok.k8,ok.pr,lM ok.rSo Mi,?_,λe he=>?_,λe he=>?_,ok.dSo,ok.dNo,ok.dLe,ok.dKi,ok.dBx,λe he hk=>?_,ok.dAb,ok.dPe,ok.dPa,ok.dBz⟩
 .dsimp only;rw[(fL R S.rights).length_eq,Hr];omega
 .rcases gj.mp he with rfl|he
  .exact h.bx
  .exact ok.rBx e he
 .rcases gj.mp he with rfl|he
  .exact h.ow
  .exact ok.rOw e he
 .obtain⟨p,hp,h2⟩:=ok.dRt e he hk;exact⟨p,gj.mpr (.inr hp),h2⟩
theorem xO(ok:SOk S)(h:ROk S R):SOk (eW S R).1:=by
 unfold eW;split
 .exact ok
 .rename_i h1;split
  .exact ok
  .split
   .exact ok
   .rename_i h2;refine ok.addR h ?_ (by omega);cases hh:rightAt S R.num with
    |none=>rfl
    |some x=>rw[hh]at h1;exact absurd rfl h1
theorem ua(h1:1<=ks.length)(h6:ks.length<=6)(k1:∀k∈ks,1<=k)(k8:∀k∈ks,k<=8)(kp:ks.foldl (λa b=>a*b) 1<=64):SOk (pQ ks):=
 ⟨h1,h6,k1,k8,kp,Pairwise.nil,HJ _,λR m=>(by cases m),λR m=>(by cases m),Pairwise.nil,Pairwise.nil,HJ _,λR m=>(by cases m),λR m=>(by cases m),λR m=>(by cases m),λR m=>(by cases m),λR m=>(by cases m),λR m=>(by cases m),λR m=>(by cases m)⟩
theorem sN(S:State)(d:Deed):cV S (add S d)=cY S d:=by
 unfold add cY;rw[eO,eO];cases h:deedAt S d.num with
 |some x=>rfl
 |none=>
  have e1:(none:Option Deed).isNone=true:=rfl;have e2:¬(none:Option Deed).isSome=true:=by simp
  rw[Hc e1,G9 e2];by_cases h2:S.deeds.length<DEEDS
  .have MR:¬60<=S.deeds.length:=by unfold DEEDS at h2;omega
   rw[He h2,Hc rfl,G9 MR];rfl
  .have MR:60<=S.deeds.length:=by unfold DEEDS at h2;omega
   rw[Hw h2,G9 (by simp),Hc MR];rfl
theorem yO(S:State)(kind:Nat)(k n d r a b p w:Int)(l:List Int):deedOfParts S kind k n d r a b p w l=if(inR 1 999 k&&(inR 0 100000 n&&(inR 0 100000 d&&(inR 1 20 a&&(inR 1 20 b&&(inR 1 120 p&&inR 1 15 w))))))=true then(if cg S.sizes l=true then(rightIn S r>>=λt=>add S {blank with num:=k.toNat,known:=n.toNat,day:=d.toNat,kind:=kind,right:=t.num,giver:=a.toNat,taker:=b.toNat,parts:=p.toNat,lands:=w.toNat,box:=l.map toNat})else .error (-4))else .error (-3):=by unfold deedOfParts key dayOf person;simp only[cT,uh,c4]
theorem zl(S:State)(kind:Nat)(k n d q:Int)(g:Deed->Bool):deedAbout S kind k n d q g=if(inR 1 999 k&&(inR 0 100000 n&&inR 0 100000 d))=true then(if true=true then(deedIn S q g>>=λe=>add S {blank with num:=k.toNat,known:=n.toNat,day:=d.toNat,kind:=kind,about:=e.num})else .error (-4))else .error (-3):=by unfold deedAbout key dayOf;simp only[cT,c4,if_true]
end Wh
namespace Wh
open Vbptaj
open PySem (Str)
section
variable{c:Cs}{H:L2.Hp}{L x:PySem.Addr}{Q:L2.VK}{S:State}
def BrK(c:Cs)(S:State)(i:Nat)(names LZ:List Str)(ws:List Int)(rows:List (List Int)):Prop:=
 (c_ S names LZ ws rows≠0->step S (((i:Int)::ws)::rows)=(S,[c_ S names LZ ws rows])/\c_ S names LZ ws rows<0)/\
 (c_ S names LZ ws rows=0->SOk (step S (((i:Int)::ws)::rows)).1/\(step S (((i:Int)::ws)::rows)).2.length<=5000/\∀(H:L2.Hp)(L x:PySem.Addr)(Q:L2.VK),bi c H L S->bc c H x (i:Nat) ws rows->fJ c L H Q (step S (((i:Int)::ws)::rows)).1 (step S (((i:Int)::ws)::rows)).2->A3 c i [.ref L,.ref x] H Q L2.E0)
def BrT(c:Cs)(S:State)(i:Nat)(names LZ:List Str)(ws:List Int)(rows:List (List Int)):Prop:=
 (c_ S names LZ ws rows≠0->step S ((((i+8:Nat):Int)::ws)::rows)=(S,[c_ S names LZ ws rows])/\c_ S names LZ ws rows<0)/\
 (c_ S names LZ ws rows=0->(step S ((((i+8:Nat):Int)::ws)::rows)).1=S/\(step S ((((i+8:Nat):Int)::ws)::rows)).2.length<=5000/\∀(H:L2.Hp)(L x:PySem.Addr)(Q:L2.VK),aY c H L S->bc c H x ((i+8:Nat):Int) ws rows->Ans H Q (step S ((((i+8:Nat):Int)::ws)::rows)).2->wQ c i [.ref L,.ref x] H Q L2.E0)
end
theorem j9(S:State)(d:Deed):(cY S d).2.length<=5000:=by
 unfold cY;split
 .exact(by decide:1<=5000)
 .split<;>exact(by decide:1<=5000)
theorem vR(S:State)(R:Right):(eW S R).2.length<=5000:=by
 unfold eW;split
 .exact(by decide:1<=5000)
 .split
  .exact(by decide:1<=5000)
  .split<;>exact(by decide:1<=5000)
theorem aH(h:inR lo hi n=true)(h0:0<=lo):((n.toNat:Nat):Int)=n/\lo<=n/\n<=hi:=by have:=BZ.mp h;omega
theorem brP(c:Cs)(ok:SOk S)(kind i:Nat)(hi:(i=2/\kind=0)\/(i=4/\kind=2))(k n d r a b p w:Int)(l:List Int):BrK c S i ["new deed","day","day","right","person","person","parts","lands"] ["box"] [k,n,d,r,a,b,p,w] [l]:=by
 have Mr:step S (((i:Int)::[k,n,d,r,a,b,p,w])::[l])=cV S (deedOfParts S kind k n d r a b p w l):=by rcases hi with⟨rfl,rfl⟩|⟨rfl,rfl⟩<;>rfl
 have e3:((["new deed","day","day","right","person","person","parts","lands"]:List Str).zip [k,n,d,r,a,b,p,w]).all (λq=>ax q.1 q.2)=(inR 1 999 k&&(inR 0 100000 n&&(inR 0 100000 d&&(inR 1 20 a&&(inR 1 20 b&&(inR 1 120 p&&inR 1 15 w)))))):=by show(ax "new deed" k&&(ax "day" n&&(ax "day" d&&(ax "right" r&&(ax "person" a&&(ax "person" b&&(ax "parts" p&&(ax "lands" w&&true))))))))=_;rw[jW,bK,bK,iu,eM,eM,zV,ny,HE,HG]
 have e4:((["box"]:List Str).zip [l]).all (λq=>aZ q.1 S.sizes q.2)=cg S.sizes l:=by show(aZ "box" S.sizes l&&true)=_;rw[ye,HG]
 have e5:((["new deed","day","day","right","person","person","parts","lands"]:List Str).zip [k,n,d,r,a,b,p,w]).all (λq=>ay S q.1 q.2)=gX S r:=by show(ay S "new deed" k&&(ay S "day" n&&(ay S "day" d&&(ay S "right" r&&(ay S "person" a&&(ay S "person" b&&(ay S "parts" p&&(ay S "lands" w&&true))))))))=_;rw[j4,bM,bM,iA,eN,eN,As,nH];simp only[Bool.true_and,Bool.and_true]
 obtain⟨g1,g2⟩:=cR e3 e4 e5 (yO S kind k n d r a b p w l) (λhC=>(cM ok).1 hC);unfold BrK;rw[Mr];refine⟨g1,λh=>?_⟩;obtain⟨hA,hB,hC,hY⟩:=g2 h;obtain⟨R,hR,NQ,hf⟩:=(cM ok (f:=λt=>add S {blank with num:=k.toNat,known:=n.toNat,day:=d.toNat,kind:=kind,right:=t.num,giver:=a.toNat,taker:=b.toNat,parts:=p.toNat,lands:=w.toNat,box:=l.map toNat})).2 hC;rw[hf]at hY;simp only[and_eq_true]at hA;obtain⟨q1,q2,q3,q4,q5,q6,q7⟩:=hA;obtain⟨t1,_,_⟩:=aH q1 (by decide);obtain⟨t2,_,_⟩:=aH q2 (by decide);obtain⟨t3,_,_⟩:=aH q3 (by decide);obtain⟨t4,u4,v4⟩:=aH q4 (by decide);obtain⟨t5,u5,v5⟩:=aH q5 (by decide);obtain⟨t6,u6,v6⟩:=aH q6 (by decide);obtain⟨t7,_,_⟩:=aH q7 (by decide);obtain⟨b1,b2⟩:=lA hB;generalize hd:({blank with num:=k.toNat,known:=n.toNat,day:=d.toNat,kind:=kind,right:=R.num,giver:=a.toNat,taker:=b.toNat,parts:=p.toNat,lands:=w.toNat,box:=l.map toNat}:Deed)=D at*;rw[hY,sN];have dok:DOk S D:=by
  subst hd;refine⟨by show kind<=5;omega,λ_=>b2,λ_=>⟨R,hR,rfl⟩,λhk=>?_,λ_=>⟨by show 1<=a.toNat;omega,by show a.toNat<=20;omega,by show 1<=b.toNat;omega,by show b.toNat<=20;omega⟩,λ_=>⟨by show 1<=p.toNat;omega,by show p.toNat<=120;omega⟩,λhk=>?_⟩
  .have ML:kind=3\/kind=4:=hk;omega
  .have ML:3<=kind:=hk;omega
 refine⟨lC ok dok,j9 _ _,λH L x Q hL hc kk=>?_⟩;have base:jn c kind [.ref L,.ref x] H Q L2.E0:=by
  refine⟨L,x,S,((i:Nat):Int),D,rfl,hL,ok,?_,?_,?_,?_,kk⟩
  .subst hd;show bc c H x _ [((k.toNat:Nat):Int),((n.toNat:Nat):Int),((d.toNat:Nat):Int),(R.num:Int),((a.toNat:Nat):Int),((b.toNat:Nat):Int),((p.toNat:Nat):Int),((w.toNat:Nat):Int)] [Vbptaj.ints (l.map toNat)];rw[t1,t2,t3,t4,t5,t6,t7,NQ,b1];exact hc
  .subst hd;exact b2
  .subst hd;exact⟨by show kind<=2;omega,rfl,rfl,rfl,rfl⟩
  .subst hd;rfl
 rcases hi with⟨rfl,rfl⟩|⟨rfl,rfl⟩
 .exact base
 .exact base
theorem brA(c:Cs)(ok:SOk S)(kind i:Nat)(nm:Str)(ks:List Int)(g:Deed->Bool)(hi:(i=5/\kind=3/\nm="pledge"/\ks=[2]/\g=λe=>e.kind==2)\/(i=6/\kind=4/\nm="pledge"/\ks=[2]/\g=λe=>e.kind==2)\/(i=7/\kind=5/\nm="no annulment"/\ks=[0,1,2,3,4]/\g=λe=>e.kind !=5))(k n d q:Int):BrK c S i ["new deed","day","day",nm] [] [k,n,d,q] []:=by
 have Mr:step S (((i:Int)::[k,n,d,q])::[])=cV S (deedAbout S kind k n d q g):=by rcases hi with⟨rfl,rfl,_,_,rfl⟩|⟨rfl,rfl,_,_,rfl⟩|⟨rfl,rfl,_,_,rfl⟩<;>rfl
 have hk35:3<=kind/\kind<=5:=by omega
 have hnm:(ax nm q=true)/\ay S nm q=eG S q ks:=by
  rcases hi with⟨_,_,rfl,rfl,_⟩|⟨_,_,rfl,rfl,_⟩|⟨_,_,rfl,rfl,_⟩
  .exact⟨qv q,qO S q⟩
  .exact⟨qv q,qO S q⟩
  .exact⟨zW q,Au S q⟩
 have hg:∀e∈S.deeds,g e=ks.contains (e.kind:Int):=λe he=>by
  have h5:=ok.dKi e he;have Ph:∀m:Nat,m<=5->(m==2)=([2]:List Int).contains (m:Int):=by decide
  have hc5:∀m:Nat,m<=5->(m !=5)=([0,1,2,3,4]:List Int).contains (m:Int):=by decide
  rcases hi with⟨_,_,_,rfl,rfl⟩|⟨_,_,_,rfl,rfl⟩|⟨_,_,_,rfl,rfl⟩
  .exact Ph _ h5
  .exact Ph _ h5
  .exact hc5 _ h5
 have e3:((["new deed","day","day",nm]:List Str).zip [k,n,d,q]).all (λq=>ax q.1 q.2)=(inR 1 999 k&&(inR 0 100000 n&&inR 0 100000 d)):=by show(ax "new deed" k&&(ax "day" n&&(ax "day" d&&(ax nm q&&true))))=_;rw[jW,bK,bK,hnm.1,HG,HG]
 have e4:(([]:List Str).zip ([]:List (List Int))).all (λq=>aZ q.1 S.sizes q.2)=true:=rfl;have e5:((["new deed","day","day",nm]:List Str).zip [k,n,d,q]).all (λq=>ay S q.1 q.2)=eG S q ks:=by show(ay S "new deed" k&&(ay S "day" n&&(ay S "day" d&&(ay S nm q&&true))))=_;rw[j4,bM,bM,hnm.2];simp only[Bool.true_and,Bool.and_true]
 obtain⟨g1,g2⟩:=cR e3 e4 e5 (zl S kind k n d q g) (λhC=>(f6 ok hg).1 hC);unfold BrK;rw[Mr];refine⟨g1,λh=>?_⟩;obtain⟨hA,hB,hC,hY⟩:=g2 h;obtain⟨e,he,hen,heg,hf⟩:=(f6 ok hg (f:=λe=>add S {blank with num:=k.toNat,known:=n.toNat,day:=d.toNat,kind:=kind,about:=e.num})).2 hC;rw[hf]at hY;simp only[and_eq_true]at hA;obtain⟨q1,q2,q3⟩:=hA;obtain⟨t1,_,_⟩:=aH q1 (by decide);obtain⟨t2,_,_⟩:=aH q2 (by decide);obtain⟨t3,_,_⟩:=aH q3 (by decide);generalize hd:({blank with num:=k.toNat,known:=n.toNat,day:=d.toNat,kind:=kind,about:=e.num}:Deed)=D at*;rw[hY,sN];have dok:DOk S D:=by
  subst hd;refine⟨hk35.2,λhk=>?_,λhk=>?_,λhk=>⟨e,he,rfl,?_⟩,λhk=>?_,λhk=>?_,λ_=>rfl⟩
  .have ML:kind<=2:=hk;omega
  .have ML:kind<=2:=hk;omega
  .have ML:kind=3\/kind=4:=hk;rcases hi with⟨_,_,_,_,rfl⟩|⟨_,_,_,_,rfl⟩|⟨_,h5,_⟩
   .simpa using heg
   .simpa using heg
   .omega
  .have ML:kind<=2:=hk;omega
  .have ML:kind=0\/kind=2:=hk;omega
 refine⟨lC ok dok,j9 _ _,λH L x Q hL hc kk=>?_⟩;have base:gq c kind [.ref L,.ref x] H Q L2.E0:=by
  refine⟨L,x,S,((i:Nat):Int),D,rfl,hL,ok,?_,?_,?_,?_,kk⟩
  .subst hd;show bc c H x _ [((k.toNat:Nat):Int),((n.toNat:Nat):Int),((d.toNat:Nat):Int),(e.num:Int)] [];rw[t1,t2,t3,hen];exact hc
  .subst hd;rfl
  .subst hd;exact hk35.1
  .subst hd;rfl
 rcases hi with⟨rfl,rfl,_⟩|⟨rfl,rfl,_⟩|⟨rfl,rfl,_⟩
 .exact base
 .exact base
 .exact base
theorem brF(c:Cs)(ok:SOk S)(l:List Int):BrK c S 0 [] ["leaves"] [] [l]:=by
 have e3:(([]:List Str).zip ([]:List Int)).all (λq=>ax q.1 q.2)=true:=rfl;have e4:((["leaves"]:List Str).zip [l]).all (λq=>aZ q.1 S.sizes q.2)=cS l:=by show(aZ "leaves" S.sizes l&&true)=_;rw[y3,HG]
 have e5:(([]:List Str).zip ([]:List Int)).all (λq=>ay S q.1 q.2)=true:=rfl;have Mm:act S (.field l)=if true=true then(if cS l=true then .ok ({start with sizes:=l.map toNat},[0])else .error (-4))else .error (-3):=by unfold act;dsimp only;rw[eO];rfl
 obtain⟨g1,g2⟩:=cR e3 e4 e5 Mm (λh=>by cases h);have Mr:step S ((((0:Nat):Int)::[])::[l])=cV S (act S (.field l)):=rfl;unfold BrK;rw[Mr];refine⟨g1,λh=>?_⟩;obtain⟨_,hB,_,hY⟩:=g2 h;rw[hY];unfold cS at hB;rw[Hq,Hq,Ht,Ht]at hB;obtain⟨h1,h2,h3⟩:=hB;have MR:∀z∈l,1<=z/\z<=8:=λz hz=>Hb (Ij.mp h2 z hz);have k1:∀k∈l.map toNat,1<=k:=λk hk=>by obtain⟨z,hz,rfl⟩:=HA.mp hk;have:=MR z hz;omega
 have k8:∀k∈l.map toNat,k<=8:=λk hk=>by obtain⟨z,hz,rfl⟩:=HA.mp hk;have:=MR z hz;omega
 have hl:(l.map toNat).length=l.length:=G8 ..;have ei:Vbptaj.ints (l.map toNat)=l:=g_ λz hz=>by have:=MR z hz;omega
 refine⟨ua (by omega) (by omega) k1 k8 h3,(by decide:1<=5000),λH L x Q hL hc kk=>?_⟩;exact⟨L,x,S,((0:Nat):Int),[],l.map toNat,rfl,hL,by rw[ei];exact hc,k1,k8,by omega,h3,kk⟩
theorem brR(c:Cs)(ok:SOk S)(r a b w:Int)(bl ol:List Int)(hb60:bl.length<=60)(ho60:ol.length<=60):BrK c S 1 ["new right","day","day","lands"] ["boxes","owners"] [r,a,b,w] [bl,ol]:=by
 have e3:((["new right","day","day","lands"]:List Str).zip [r,a,b,w]).all (λq=>ax q.1 q.2)=(inR 1 99 r&&(inR 0 100000 a&&(inR 0 100000 b&&inR 1 15 w))):=by show(ax "new right" r&&(ax "day" a&&(ax "day" b&&(ax "lands" w&&true))))=_;rw[vh,bK,bK,ny,HG]
 have e4:((["boxes","owners"]:List Str).zip [bl,ol]).all (λq=>aZ q.1 S.sizes q.2)=(cJ S.sizes bl&&cE ol):=by show(aZ "boxes" S.sizes bl&&(aZ "owners" S.sizes ol&&true))=_;rw[AA,y2,HG]
 have e5:((["new right","day","day","lands"]:List Str).zip [r,a,b,w]).all (λq=>ay S q.1 q.2)=true:=by show(ay S "new right" r&&(ay S "day" a&&(ay S "day" b&&(ay S "lands" w&&true))))=_;rw[vt,bM,bM,nH];rfl
 generalize hR:({num:=r.toNat,first:=a.toNat,last:=b.toNat,lands:=w.toNat,boxes:=pieces S.sizes.length (bl.length/S.sizes.length) (bl.map toNat),owners:=dU ol}:Right)=R;have Mm:act S (.right r a b w bl ol)=if(inR 1 99 r&&(inR 0 100000 a&&(inR 0 100000 b&&inR 1 15 w)))=true then(if(cJ S.sizes bl&&cE ol)=true then(need (rightAt S R.num).isNone (-6)>>=λ_=>need (decide (R.first<=R.last)) (-7)>>=λ_=>need (decide (S.rights.length<RIGHTS)) (-9)>>=λ_=>pure ({S with rights:=putRight R S.rights},[((S.rights.length+1:Nat):Int)]))else .error (-4))else .error (-3):=by unfold act;simp only[dayOf];simp only[cT,xM ok.l1,vM,c4];subst hR;rfl
 obtain⟨g1,g2⟩:=cR e3 e4 e5 Mm (λh=>by cases h);have Mr:step S ((((1:Nat):Int)::[r,a,b,w])::[bl,ol])=cV S (act S (.right r a b w bl ol)):=rfl;unfold BrK;rw[Mr];refine⟨g1,λh=>?_⟩;obtain⟨hA,hB,_,hY⟩:=g2 h;simp only[and_eq_true]at hA hB;obtain⟨q1,q2,q3,q4⟩:=hA;obtain⟨t1,_,_⟩:=aH q1 (by decide);obtain⟨t2,_,_⟩:=aH q2 (by decide);obtain⟨t3,_,_⟩:=aH q3 (by decide);obtain⟨t4,_,_⟩:=aH q4 (by decide);obtain⟨b1,b2,b3⟩:=vK ok.l1 hB.1;obtain⟨o1,o2,o3,o4,o5⟩:=uB hB.2 ho60;have hans:cV S (act S (.right r a b w bl ol))=eW S R:=by
  rw[hY];unfold eW;rw[eO,eO,eO];cases h:rightAt S R.num with
  |some x=>rfl
  |none=>
   have x1:(none:Option Right).isNone=true:=rfl;have x2:¬(none:Option Right).isSome=true:=by simp
   rw[Hc x1,G9 x2];by_cases h1:R.first<=R.last
   .have Mq:¬R.last<R.first:=by omega
    rw[He h1,Hc rfl,G9 Mq];by_cases h2:S.rights.length<RIGHTS
    .have MR:¬8<=S.rights.length:=by unfold RIGHTS at h2;omega
     rw[He h2,Hc rfl,G9 MR];rfl
    .have MR:8<=S.rights.length:=by unfold RIGHTS at h2;omega
     rw[Hw h2,G9 (by simp),Hc MR];rfl
   .have Mq:R.last<R.first:=by omega
    rw[Hw h1,G9 (by simp),Hc Mq];rfl
 rw[hans];have rok:ROk S R:=by subst hR;exact⟨⟨b3,b2⟩,o3,o4,o5⟩
 refine⟨xO ok rok,vR _ _,λH L x Q hL hc kk=>?_⟩;refine⟨L,x,S,((1:Nat):Int),R,bl,ol,rfl,hL,ok,?_,hb60,?_,?_,?_,?_,?_,?_,?_,kk⟩
 .subst hR;show bc c H x _ [((r.toNat:Nat):Int),((a.toNat:Nat):Int),((b.toNat:Nat):Int),((w.toNat:Nat):Int)] [bl,ol];rw[t1,t2,t3,t4];exact hc
 .subst hR;exact b1
 .subst hR;exact b2
 .subst hR;exact Hv b3 (by decide)
 .subst hR;exact o1
 .subst hR;exact o2
 .subst hR;exact o3
 .subst hR;intro z;have z':dU ol=[]:=z;rw[z']at o5;cases o5
theorem BN(S:State)(k n d r a b o f t w:Int)(l:List Int):act S (.licence k n d r a b o f t w l)=if(inR 1 999 k&&(inR 0 100000 n&&(inR 0 100000 d&&(inR 1 20 a&&(inR 1 20 b&&(inR 0 1 o&&(inR 0 100000 f&&(inR 0 100000 t&&inR 1 15 w))))))))=true then(if cg S.sizes l=true then(rightIn S r>>=λy=>add S {blank with num:=k.toNat,known:=n.toNat,day:=d.toNat,kind:=1,right:=y.num,giver:=a.toNat,taker:=b.toNat,sole:=o.toNat==1,from_:=f.toNat,to_:=t.toNat,lands:=w.toNat,box:=l.map toNat})else .error (-4))else .error (-3):=by unfold act;simp only[key,dayOf,person];simp only[cT,uh,c4]
theorem brL(c:Cs)(ok:SOk S)(k n d r a b o f t w:Int)(l:List Int):BrK c S 3 ["new deed","day","day","right","person","person","sole","day","day","lands"] ["box"] [k,n,d,r,a,b,o,f,t,w] [l]:=by
 have Mr:step S ((((3:Nat):Int)::[k,n,d,r,a,b,o,f,t,w])::[l])=cV S (act S (.licence k n d r a b o f t w l)):=rfl;have e3:((["new deed","day","day","right","person","person","sole","day","day","lands"]:List Str).zip [k,n,d,r,a,b,o,f,t,w]).all (λq=>ax q.1 q.2)=(inR 1 999 k&&(inR 0 100000 n&&(inR 0 100000 d&&(inR 1 20 a&&(inR 1 20 b&&(inR 0 1 o&&(inR 0 100000 f&&(inR 0 100000 t&&inR 1 15 w)))))))):=by show(ax "new deed" k&&(ax "day" n&&(ax "day" d&&(ax "right" r&&(ax "person" a&&(ax "person" b&&(ax "sole" o&&(ax "day" f&&(ax "day" t&&(ax "lands" w&&true))))))))))=_;rw[jW,bK,bK,iu,eM,eM,Bv,bK,bK,ny,HE,HG]
 have e4:((["box"]:List Str).zip [l]).all (λq=>aZ q.1 S.sizes q.2)=cg S.sizes l:=by show(aZ "box" S.sizes l&&true)=_;rw[ye,HG]
 have e5:((["new deed","day","day","right","person","person","sole","day","day","lands"]:List Str).zip [k,n,d,r,a,b,o,f,t,w]).all (λq=>ay S q.1 q.2)=gX S r:=by show(ay S "new deed" k&&(ay S "day" n&&(ay S "day" d&&(ay S "right" r&&(ay S "person" a&&(ay S "person" b&&(ay S "sole" o&&(ay S "day" f&&(ay S "day" t&&(ay S "lands" w&&true))))))))))=_;rw[j4,bM,bM,iA,eN,eN,BV,bM,bM,nH];simp only[Bool.true_and,Bool.and_true]
 obtain⟨g1,g2⟩:=cR e3 e4 e5 (BN S k n d r a b o f t w l) (λhC=>(cM ok).1 hC);unfold BrK;rw[Mr];refine⟨g1,λh=>?_⟩;obtain⟨hA,hB,hC,hY⟩:=g2 h;obtain⟨R,hR,NQ,hf⟩:=(cM ok (f:=λy=>add S {blank with num:=k.toNat,known:=n.toNat,day:=d.toNat,kind:=1,right:=y.num,giver:=a.toNat,taker:=b.toNat,sole:=o.toNat==1,from_:=f.toNat,to_:=t.toNat,lands:=w.toNat,box:=l.map toNat})).2 hC;rw[hf]at hY;simp only[and_eq_true]at hA;obtain⟨q1,q2,q3,q4,q5,q6,q7,q8,q9⟩:=hA;obtain⟨t1,_,_⟩:=aH q1 (by decide);obtain⟨t2,_,_⟩:=aH q2 (by decide);obtain⟨t3,_,_⟩:=aH q3 (by decide);obtain⟨t4,u4,v4⟩:=aH q4 (by decide);obtain⟨t5,u5,v5⟩:=aH q5 (by decide);obtain⟨t6,u6,v6⟩:=aH q6 (by decide);obtain⟨t7,_,_⟩:=aH q7 (by decide);obtain⟨t8,_,_⟩:=aH q8 (by decide);obtain⟨t9,_,_⟩:=aH q9 (by decide);obtain⟨b1,b2⟩:=lA hB;have hso:fB (o.toNat==1)=o:=by
  have:o=0\/o=1:=by omega
  rcases this with rfl|rfl<;>rfl
 generalize hd:({blank with num:=k.toNat,known:=n.toNat,day:=d.toNat,kind:=1,right:=R.num,giver:=a.toNat,taker:=b.toNat,sole:=o.toNat==1,from_:=f.toNat,to_:=t.toNat,lands:=w.toNat,box:=l.map toNat}:Deed)=D at*;rw[hY,sN];have dok:DOk S D:=by
  subst hd;refine⟨by show 1<=5;decide,λ_=>b2,λ_=>⟨R,hR,rfl⟩,λhk=>?_,λ_=>⟨by show 1<=a.toNat;omega,by show a.toNat<=20;omega,by show 1<=b.toNat;omega,by show b.toNat<=20;omega⟩,λhk=>?_,λhk=>?_⟩
  .have ML:1=3\/1=4:=hk;omega
  .have ML:1=0\/1=2:=hk;omega
  .have ML:3<=1:=hk;omega
 refine⟨lC ok dok,j9 _ _,λH L x Q hL hc kk=>?_⟩;refine⟨L,x,S,((3:Nat):Int),D,rfl,hL,ok,?_,?_,?_,?_,?_,kk⟩
 .subst hd;show bc c H x _ [((k.toNat:Nat):Int),((n.toNat:Nat):Int),((d.toNat:Nat):Int),(R.num:Int),((a.toNat:Nat):Int),((b.toNat:Nat):Int),fB (o.toNat==1),((f.toNat:Nat):Int),((t.toNat:Nat):Int),((w.toNat:Nat):Int)] [Vbptaj.ints (l.map toNat)];rw[t1,t2,t3,t4,t5,hso,t7,t8,t9,NQ,b1];exact hc
 .subst hd;exact b2
 .subst hd;rfl
 .subst hd;rfl
 .subst hd;rfl
theorem wt(wf0:CWf (fresh R) []):∀(ds:List Deed),(ds.map (·.num)).Nodup->(∀d∈ds,d.kind<=4/\(d.kind<=2->d.giver<=20/\d.taker<=20))->∀(C:Cell)(done:List Nat),CWf C done->(∀n∈done,n∉ds.map (·.num))->∃Ob,CWf (ds.foldl (λC d=>(work C d).1) C) Ob/\Ob.length=done.length+ds.length
 |[],_,_,C,done,h,_=>⟨done,h,rfl⟩
 |d::ds,hn,hk,C,done,h,hd=>by
  rw[Hf,Ik]at hn;rw[IV]
  obtain⟨dn,w1,w2⟩:=wt wf0 ds hn.2 (λe he=>hk e (Hh _ he)) _ (d.num::done) (h.work (λm=>hd _ m (by rw[Hf];exact Hk ..)) (hk d (Hk ..)).2) λn m=>(by
   rcases Hi.mp m with rfl|m
   .exact hn.1
   .exact λq=>hd n m (by rw[Hf];exact Hh _ q))
  exact⟨dn,w1,by rw[w2,Hr,Hr];omega⟩
theorem AE(ok:SOk S)(hR:R∈S.rights)(hs:ds.Sublist S.deeds)(h5:∀d∈ds,d.kind≠5)(LY:Nat)(v:List Nat):∃done,CWf (cG S R LY v ds) done/\done.length<=60:=by
 have ME:(ds.filter λd=>bD S d R.num LY v).Sublist S.deeds:=Ip.trans hs;obtain⟨g1,g2,g3⟩:=gR ok ME λd m=>h5 d (HK.mp m).1;have ow:=ok.rOw R hR;have wf0:=nJ ⟨ow.1,ow.2.1⟩;obtain⟨dn,w1,w2⟩:=wt wf0 _ g1 g3 _ [] wf0 λn m=>by cases m
 exact⟨dn,w1,by rw[w2,length_nil];omega⟩
theorem lq(ok:SOk S)(hR:R∈S.rights)(LY:Nat)(v:List Nat)(day n:Nat):∃done,CWf (cellAt S R LY v day n) done/\done.length<=60:=by rw[<-iT];exact AE ok hR (gp S day n) (hZ S day n) LY v
theorem qp(l:List Nat):(sorted l).length<=l.length:=by obtain⟨s1,s2⟩:=lJ l;exact dm (s1.imp λh=>HW h) λx hx=>(s2 x).mp hx
theorem lT{α β:Type}(f:α->Option β):∀l:List α,(l.filterMap f).length<=l.length
 |[]=>Hu _
 |a::l=>by
  rw[Jv];have:=lT f l;cases f a with
  |none=>dsimp only;rw[Hr];omega
  |some b=>dsimp only;rw[Hr,Hr];omega
theorem qH(ok:SOk S)(u LY:Nat)(v:List Nat)(day n:Nat):(leave S u LY v day n).length<=1000:=by
 unfold leave;refine Hv (qp _) ?_;have key:∀l:List Right,(∀R∈l,R∈S.rights)->(l.flatMap λx=>askRight S u x LY v day n).length<=21*l.length:=by
  intro l;induction l with
  |nil=>intro _;exact Hu _
  |cons R l ih=>
   intro h;rw[Iu,Hx,Hr,mul_succ];have h1:=ih λR hR=>h R (Hh _ hR);have h2:(askRight S u R LY v day n).length<=21:=by
    unfold askRight;dsimp only;obtain⟨done,wf,_⟩:=lq ok (h R (Hk ..)) LY v day n;split
    .exact HJ _
    .exact Hv (lT _ _) wf.holdLen
   omega
 have MC:∀R∈inForce S LY v day,R∈S.rights:=λR hR=>by unfold inForce at hR;exact(HK.mp hR).1
 have h1:=key _ MC;have h2:(inForce S LY v day).length<=8:=by unfold inForce;exact Hv (Hz _ _) ok.rLe
 omega
theorem fP(l:List Nat):(Vbptaj.ints l).length=l.length:=G8 ..
theorem qS(ok:SOk S)(LY:Nat)(v:List Nat)(day:Nat):(inForce S LY v day).length<=8:=by unfold inForce;exact Hv (Hz _ _) ok.rLe
theorem y8(h:R∈inForce S LY v day):R∈S.rights:=by unfold inForce at h;exact(HK.mp h).1
theorem mZ{α β:Type}(f:α->List β):∀l:List α,(∀a∈l,(f a).length<=k)->(l.flatMap f).length<=k*l.length
 |[],_=>HJ _
 |a::l,h=>by rw[Iu,Hx,Hr,mul_succ];have:=h a (Hk ..);have:=mZ f l λb hb=>h b (Hh _ hb);omega
theorem Ay(C:Cell)(done:List Nat)(wf:CWf C done)(h:done.length<=60):(jq C).length<=4000:=by unfold jq;rw[fQ _ 2 (λ_=>rfl)];have:=wf.holdLen;omega
theorem Ak(C:Cell)(done:List Nat)(wf:CWf C done)(h:done.length<=60):(jp C).length<=4000:=by unfold jp;rw[fQ _ 4 (λ_=>rfl)];have:=wf.lockLen;omega
theorem zh(C:Cell)(done:List Nat)(wf:CWf C done)(h:done.length<=60):(iB C).length<=4000:=by unfold iB;rw[fQ _ 2 (λ_=>rfl)];have:=wf.boundLen;omega
theorem br4(c:Cs)(ok:SOk S)(i:Nat)(f:Cell->List Int)(a:Call)(r l d n:Int)(v:List Int)(hfl:∀C done,CWf C done->done.length<=60->(f C).length<=4000) (Mr:step S ((((i+8:Nat):Int)::[r,l,d,n])::[v])=cV S (act S a)) (ht:wQ c i=fO c f)(ha:act S a=(landOf l>>=λl=>dayOf d>>=λd=>dayOf n>>=λn=>variantIn S v>>=λv=>rightIn S r>>=λx=>need (x.lands.testBit l&&x.boxes.any λb=>inBox b v) (-7)>>=λ_=>pure (S,0::f (cellAt S x l v d n)))):BrT c S i ["right","land","day","day"] ["variant"] [r,l,d,n] [v]:=by
 have e3:((["right","land","day","day"]:List Str).zip [r,l,d,n]).all (λq=>ax q.1 q.2)=(inR 0 3 l&&(inR 0 100000 d&&inR 0 100000 n)):=by show(ax "right" r&&(ax "land" l&&(ax "day" d&&(ax "day" n&&true))))=_;rw[iu,ia,bK,bK,HE,HG]
 have e4:((["variant"]:List Str).zip [v]).all (λq=>aZ q.1 S.sizes q.2)=cz S.sizes v:=by show(aZ "variant" S.sizes v&&true)=_;rw[hW,HG]
 have e5:((["right","land","day","day"]:List Str).zip [r,l,d,n]).all (λq=>ay S q.1 q.2)=gX S r:=by show(ay S "right" r&&(ay S "land" l&&(ay S "day" d&&(ay S "day" n&&true))))=_;rw[iA,ie,bM,bM];simp only[Bool.true_and,Bool.and_true]
 have Mm:act S a=if(inR 0 3 l&&(inR 0 100000 d&&inR 0 100000 n))=true then(if cz S.sizes v=true then(rightIn S r>>=λx=>need (x.lands.testBit l.toNat&&x.boxes.any λb=>inBox b (v.map toNat)) (-7)>>=λ_=>pure (S,0::f (cellAt S x l.toNat (v.map toNat) d.toNat n.toNat)))else .error (-4))else .error (-3):=by rw[ha];unfold landOf dayOf;simp only[cT,jS,c4]
 obtain⟨g1,g2⟩:=cR e3 e4 e5 Mm (λhC=>(cM ok).1 hC);unfold BrT;rw[Mr];refine⟨g1,λh=>?_⟩;obtain⟨hA,hB,hC,hY⟩:=g2 h;obtain⟨R,hR,NQ,hf⟩:=(cM ok (f:=λx=>need (x.lands.testBit l.toNat&&x.boxes.any λb=>inBox b (v.map toNat)) (-7)>>=λ_=>pure (S,0::f (cellAt S x l.toNat (v.map toNat) d.toNat n.toNat)))).2 hC;rw[hf,eO]at hY;simp only[and_eq_true]at hA;obtain⟨q1,q2,q3⟩:=hA;obtain⟨t1,_,_⟩:=aH q1 (by decide);obtain⟨t2,_,_⟩:=aH q2 (by decide);obtain⟨t3,_,_⟩:=aH q3 (by decide);obtain⟨v1,v2⟩:=iM hB;have hr:cV S (act S a)=(S,if cellOf R l.toNat (v.map toNat)=true then 0::f (cellAt S R l.toNat (v.map toNat) d.toNat n.toNat)else [-7]):=by rw[hY];show cV S (if cellOf R l.toNat (v.map toNat)=true then _ else _)=_;cases cellOf R l.toNat (v.map toNat)<;>rfl
 rw[hr];refine⟨rfl,?_,λH L x Q hL hc kk=>?_⟩
 .dsimp only;split
  .obtain⟨done,wf,PP⟩:=lq ok hR l.toNat (v.map toNat) d.toNat n.toNat
   have:=hfl _ _ wf PP;rw[Hr];omega
  .exact(by decide:1<=5000)
 rw[ht];refine⟨L,x,S,((i+8:Nat):Int),R,l.toNat,d.toNat,n.toNat,v.map toNat,rfl,hL,ok,?_,hR,v2,kk⟩
 .rw[t1,t2,t3,NQ,v1];exact hc
theorem B8(c:Cs)(ok:SOk S)(u l d n:Int)(v:List Int):BrT c S 1 ["person","land","day","day"] ["variant"] [u,l,d,n] [v]:=by
 have e3:((["person","land","day","day"]:List Str).zip [u,l,d,n]).all (λq=>ax q.1 q.2)=(inR 1 20 u&&(inR 0 3 l&&(inR 0 100000 d&&inR 0 100000 n))):=by show(ax "person" u&&(ax "land" l&&(ax "day" d&&(ax "day" n&&true))))=_;rw[eM,ia,bK,bK,HG]
 have e4:((["variant"]:List Str).zip [v]).all (λq=>aZ q.1 S.sizes q.2)=cz S.sizes v:=by show(aZ "variant" S.sizes v&&true)=_;rw[hW,HG]
 have e5:((["person","land","day","day"]:List Str).zip [u,l,d,n]).all (λq=>ay S q.1 q.2)=true:=by show(ay S "person" u&&(ay S "land" l&&(ay S "day" d&&(ay S "day" n&&true))))=_;rw[eN,ie,bM,bM];rfl
 have Mm:act S (.leave u l d n v)=if(inR 1 20 u&&(inR 0 3 l&&(inR 0 100000 d&&inR 0 100000 n)))=true then(if cz S.sizes v=true then .ok (S,0::Vbptaj.ints (leave S u.toNat l.toNat (v.map toNat) d.toNat n.toNat))else .error (-4))else .error (-3):=by unfold act;simp only[person,landOf,dayOf];simp only[cT,jS,c4];rfl
 obtain⟨g1,g2⟩:=cR e3 e4 e5 Mm (λh=>by cases h);have Mr:step S ((((1+8:Nat):Int)::[u,l,d,n])::[v])=cV S (act S (.leave u l d n v)):=rfl;unfold BrT;rw[Mr];refine⟨g1,λh=>?_⟩;obtain⟨hA,hB,_,hY⟩:=g2 h;simp only[and_eq_true]at hA;obtain⟨q0,q1,q2,q3⟩:=hA;obtain⟨t0,_,_⟩:=aH q0 (by decide);obtain⟨t1,_,_⟩:=aH q1 (by decide);obtain⟨t2,_,_⟩:=aH q2 (by decide);obtain⟨t3,_,_⟩:=aH q3 (by decide);obtain⟨v1,v2⟩:=iM hB;rw[hY];have L3:=qH ok u.toNat l.toNat (v.map toNat) d.toNat n.toNat
 refine⟨rfl,?_,λH L x Q hL hc kk=>?_⟩
 .show(0::Vbptaj.ints (leave S u.toNat l.toNat (v.map toNat) d.toNat n.toNat)).length<=5000;rw[Hr,fP];omega
 refine⟨L,x,S,((1+8:Nat):Int),u.toNat,l.toNat,d.toNat,n.toNat,v.map toNat,rfl,hL,ok,?_,v2,qH ok _ _ _ _ _,kk⟩
 .rw[t0,t1,t2,t3,v1];exact hc
theorem DI(c:Cs)(ok:SOk S)(u l d n:Int):BrT c S 2 ["person","land","day","day"] [] [u,l,d,n] []:=by
 have e3:((["person","land","day","day"]:List Str).zip [u,l,d,n]).all (λq=>ax q.1 q.2)=(inR 1 20 u&&(inR 0 3 l&&(inR 0 100000 d&&inR 0 100000 n))):=by show(ax "person" u&&(ax "land" l&&(ax "day" d&&(ax "day" n&&true))))=_;rw[eM,ia,bK,bK,HG]
 have e4:(([]:List Str).zip ([]:List (List Int))).all (λq=>aZ q.1 S.sizes q.2)=true:=rfl;have e5:((["person","land","day","day"]:List Str).zip [u,l,d,n]).all (λq=>ay S q.1 q.2)=true:=by show(ay S "person" u&&(ay S "land" l&&(ay S "day" d&&(ay S "day" n&&true))))=_;rw[eN,ie,bM,bM];rfl
 have Mm:act S (.free u l d n)=if(inR 1 20 u&&(inR 0 3 l&&(inR 0 100000 d&&inR 0 100000 n)))=true then(if true=true then .ok (S,jr S u.toNat l.toNat d.toNat n.toNat)else .error (-4))else .error (-3):=by unfold act;simp only[person,landOf,dayOf];simp only[cT,c4];rfl
 obtain⟨g1,g2⟩:=cR e3 e4 e5 Mm (λh=>by cases h);have Mr:step S ((((2+8:Nat):Int)::[u,l,d,n])::[])=cV S (act S (.free u l d n)):=rfl;unfold BrT;rw[Mr];refine⟨g1,λh=>?_⟩;obtain⟨hA,hB,_,hY⟩:=g2 h;simp only[and_eq_true]at hA;obtain⟨q0,q1,q2,q3⟩:=hA;obtain⟨t0,_,_⟩:=aH q0 (by decide);obtain⟨t1,_,_⟩:=aH q1 (by decide);obtain⟨t2,_,_⟩:=aH q2 (by decide);obtain⟨t3,_,_⟩:=aH q3 (by decide);rw[hY];refine⟨rfl,?_,λH L x Q hL hc kk=>?_⟩
 .show(jr S u.toNat l.toNat d.toNat n.toNat).length<=5000;unfold jr;rw[Hr,fP];have l6:=ok.l6;have hv:∀vs:List (List Nat),(∀v∈vs,v∈am S)->(vs.headD []).length<=6:=λvs h=>by
   cases vs with
   |nil=>exact HJ _
   |cons v vs=>rw[List.headD_cons,cQ _ (h v (Hk ..))];exact l6
  exact Hv (Nat.succ_le_succ (hv ((am S).filter λv=> !(leave S u.toNat l.toNat v d.toNat n.toNat).isEmpty) λv hv=>(HK.mp hv).1)) (by decide)
 refine⟨L,x,S,((2+8:Nat):Int),u.toNat,l.toNat,d.toNat,n.toNat,rfl,hL,ok,?_,kk⟩
 .rw[t0,t1,t2,t3];exact hc
theorem B9(c:Cs)(ok:SOk S)(l d:Int)(v:List Int):BrT c S 5 ["land","day"] ["variant"] [l,d] [v]:=by
 have e3:((["land","day"]:List Str).zip [l,d]).all (λq=>ax q.1 q.2)=(inR 0 3 l&&inR 0 100000 d):=by show(ax "land" l&&(ax "day" d&&true))=_;rw[ia,bK,HG]
 have e4:((["variant"]:List Str).zip [v]).all (λq=>aZ q.1 S.sizes q.2)=cz S.sizes v:=by show(aZ "variant" S.sizes v&&true)=_;rw[hW,HG]
 have e5:((["land","day"]:List Str).zip [l,d]).all (λq=>ay S q.1 q.2)=true:=by show(ay S "land" l&&(ay S "day" d&&true))=_;rw[ie,bM];rfl
 have Mm:act S (.inForce l d v)=if(inR 0 3 l&&inR 0 100000 d)=true then(if cz S.sizes v=true then .ok (S,0::Vbptaj.ints ((inForce S l.toNat (v.map toNat) d.toNat).map λx=>x.num))else .error (-4))else .error (-3):=by unfold act;simp only[landOf,dayOf];simp only[cT,jS,c4];rfl
 obtain⟨g1,g2⟩:=cR e3 e4 e5 Mm (λh=>by cases h);have Mr:step S ((((5+8:Nat):Int)::[l,d])::[v])=cV S (act S (.inForce l d v)):=rfl;unfold BrT;rw[Mr];refine⟨g1,λh=>?_⟩;obtain⟨hA,hB,_,hY⟩:=g2 h;simp only[and_eq_true]at hA;obtain⟨q1,q2⟩:=hA;obtain⟨t1,_,_⟩:=aH q1 (by decide);obtain⟨t2,_,_⟩:=aH q2 (by decide);obtain⟨v1,v2⟩:=iM hB;rw[hY];refine⟨rfl,?_,λH L x Q hL hc kk=>?_⟩
 .show(0::Vbptaj.ints ((inForce S l.toNat (v.map toNat) d.toNat).map λx=>x.num)).length<=5000;rw[Hr,fP,G8];have:=qS ok l.toNat (v.map toNat) d.toNat
  omega
 refine⟨L,x,S,((5+8:Nat):Int),l.toNat,d.toNat,v.map toNat,rfl,hL,ok,?_,v2,kk⟩
 .rw[t1,t2,v1];exact hc
theorem B_(c:Cs)(ok:SOk S):BrT c S 8 [] [] [] []:=by
 have Mr:step S ((((8+8:Nat):Int)::[])::[])=(S,0::Vbptaj.ints (S.deeds.map λd=>d.num)):=rfl;unfold BrT;rw[Mr]
 exact⟨λh=>absurd rfl h,λ_=>⟨rfl,(by
  show(0::Vbptaj.ints (S.deeds.map λd=>d.num)).length<=5000;rw[Hr,fP,G8];have:=ok.dLe
  omega),λH L x Q hL hc kk=>⟨L,x,S,rfl,hL,ok,kk⟩⟩⟩
theorem DG(c:Cs)(ok:SOk S)(k:Int):BrT c S 9 ["deed"] [] [k] []:=by
 have hg:∀d∈S.deeds,(λ_:Deed=>true) d=([0,1,2,3,4,5]:List Int).contains (d.kind:Int):=λd hd=>by
  have h5:=ok.dKi d hd;have:∀m:Nat,m<=5->true=([0,1,2,3,4,5]:List Int).contains (m:Int):=by decide
  exact this _ h5
 have e3:((["deed"]:List Str).zip [k]).all (λq=>ax q.1 q.2)=true:=by show(ax "deed" k&&true)=_;rw[Bw];rfl
 have e4:(([]:List Str).zip ([]:List (List Int))).all (λq=>aZ q.1 S.sizes q.2)=true:=rfl;have e5:((["deed"]:List Str).zip [k]).all (λq=>ay S q.1 q.2)=eG S k [0,1,2,3,4,5]:=by show(ay S "deed" k&&true)=_;rw[BW,HG]
 have Mm:act S (.told k)=if true=true then(if true=true then(deedIn S k (λ_=>true)>>=λd=>.ok (S,ii d))else .error (-4))else .error (-3):=by unfold act;rfl
 obtain⟨g1,g2⟩:=cR e3 e4 e5 Mm (λhC=>(f6 ok hg).1 hC);have Mr:step S ((((9+8:Nat):Int)::[k])::[])=cV S (act S (.told k)):=rfl;unfold BrT;rw[Mr];refine⟨g1,λh=>?_⟩;obtain⟨_,_,hC,hY⟩:=g2 h;obtain⟨d,hd,M9,_,hf⟩:=(f6 ok hg (f:=λd=>.ok (S,ii d))).2 hC;rw[hf]at hY;rw[hY];have Pf:d.box.length<=1000:=by
  have l6:=ok.l6;by_cases h3:3<=d.kind
  .rw[ok.dBz d hd h3];exact HJ _
  .have:=ok.dBx d hd (by omega);omega
 refine⟨rfl,?_,λH L x Q hL hc kk=>?_⟩
 .show(ii d).length<=5000;unfold ii;rw[fP,Hx];show 12+d.box.length<=5000;omega
 refine⟨L,x,S,((9+8:Nat):Int),d,rfl,hL,ok,?_,hd,Pf,kk⟩;rw[M9];exact hc
theorem AO(c:Cs)(ok:SOk S)(l d n:Int)(v:List Int):BrT c S 11 ["land","day","day"] ["variant"] [l,d,n] [v]:=by
 have e3:((["land","day","day"]:List Str).zip [l,d,n]).all (λq=>ax q.1 q.2)=(inR 0 3 l&&(inR 0 100000 d&&inR 0 100000 n)):=by show(ax "land" l&&(ax "day" d&&(ax "day" n&&true)))=_;rw[ia,bK,bK,HG]
 have e4:((["variant"]:List Str).zip [v]).all (λq=>aZ q.1 S.sizes q.2)=cz S.sizes v:=by show(aZ "variant" S.sizes v&&true)=_;rw[hW,HG]
 have e5:((["land","day","day"]:List Str).zip [l,d,n]).all (λq=>ay S q.1 q.2)=true:=by show(ay S "land" l&&(ay S "day" d&&(ay S "day" n&&true)))=_;rw[ie,bM,bM];rfl
 have Mm:act S (.owners l d n v)=if(inR 0 3 l&&(inR 0 100000 d&&inR 0 100000 n))=true then(if cz S.sizes v=true then .ok (S,0::Vbptaj.ints (sorted ((inForce S l.toNat (v.map toNat) d.toNat).flatMap λx=>(cellAt S x l.toNat (v.map toNat) d.toNat n.toNat).hold.map λh=>h.1)))else .error (-4))else .error (-3):=by unfold act;simp only[landOf,dayOf];simp only[cT,jS,c4];rfl
 obtain⟨g1,g2⟩:=cR e3 e4 e5 Mm (λh=>by cases h);have Mr:step S ((((11+8:Nat):Int)::[l,d,n])::[v])=cV S (act S (.owners l d n v)):=rfl;unfold BrT;rw[Mr];refine⟨g1,λh=>?_⟩;obtain⟨hA,hB,_,hY⟩:=g2 h;simp only[and_eq_true]at hA;obtain⟨q1,q2,q3⟩:=hA;obtain⟨t1,_,_⟩:=aH q1 (by decide);obtain⟨t2,_,_⟩:=aH q2 (by decide);obtain⟨t3,_,_⟩:=aH q3 (by decide);obtain⟨v1,v2⟩:=iM hB;rw[hY];refine⟨rfl,?_,λH L x Q hL hc kk=>?_⟩
 .show(0::Vbptaj.ints (sorted ((inForce S l.toNat (v.map toNat) d.toNat).flatMap λx=>(cellAt S x l.toNat (v.map toNat) d.toNat n.toNat).hold.map λh=>h.1))).length<=5000;rw[Hr,fP];have h1:=qp ((inForce S l.toNat (v.map toNat) d.toNat).flatMap λx=>(cellAt S x l.toNat (v.map toNat) d.toNat n.toNat).hold.map λh=>h.1);have h2:=mZ (k:=21) (λx:Right=>(cellAt S x l.toNat (v.map toNat) d.toNat n.toNat).hold.map λh=>h.1) (inForce S l.toNat (v.map toNat) d.toNat) λR hR=>by
   obtain⟨done,wf,_⟩:=lq ok (y8 hR) l.toNat (v.map toNat) d.toNat n.toNat
   rw[G8];exact wf.holdLen
  have h3:=qS ok l.toNat (v.map toNat) d.toNat
  omega
 refine⟨L,x,S,((11+8:Nat):Int),l.toNat,d.toNat,n.toNat,v.map toNat,rfl,hL,ok,?_,v2,kk⟩
 .rw[t1,t2,t3,v1];exact hc
theorem oQ(vr:List (List Nat))(R:Right):(a0 vr R).map (λi=>vr.getD i [])=vr.filter λv=>R.boxes.any λb=>inBox b v:=by
 have e:(List.range vr.length).map (λi=>vr.getD i [])=vr:=by
  apply List.ext_getElem
  .rw[G8,Ic]
  .intro i h1 h2;rw[List.getElem_map,Ki,Iw,Hn h2];rfl
 conv=>rhs;rw[<-e,filter_map]
 rfl
theorem ue(S:State)(R:Right):cells S R=(gP S R).map λq=>(q.1,(am S).getD q.2 []):=by unfold cells gP;rw[map_flatMap];show(bw R.lands).flatMap _=_;congr 1;funext l;rw[<-oQ,HM,HM];rfl
theorem qC{β:Type}(vs:List β)(l:Nat):∀ls:List Nat,ls.Nodup->(ls.flatMap λk=>vs.map λv=>(k,v)).filter (λc=>c.1==l)=if ls.contains l=true then vs.map λv=>(l,v)else []
 |[],_=>rfl
 |k::ls,hn=>by
  rw[Ik]at hn;have ih:=qC vs l ls hn.2;rw[Iu,IK,ih];by_cases e:k=l
  .subst e;have h1:(vs.map λv=>(k,v)).filter (λc=>c.1==k)=vs.map λv=>(k,v):=by rw[J8];intro a ha;obtain⟨v,_,rfl⟩:=HA.mp ha;simp
   have h2:¬ls.contains k=true:=λh=>hn.1 (HZ.mp h);have h3:(k::ls).contains k=true:=by simp
   rw[h1,G9 h2,Hc h3,IU]
  .have h1:(vs.map λv=>(k,v)).filter (λc=>c.1==l)=[]:=by rw[Kd];intro a ha;obtain⟨v,_,rfl⟩:=HA.mp ha;simpa using e
   have h3:(k::ls).contains l=ls.contains l:=by
    rw[List.contains_cons];have:(l==k)=false:=by simpa using λz=>e z.symm
    rw[this,J6]
   rw[h1,h3,List.nil_append]
theorem Af(S:State)(R:Right)(p l d n:Nat):(((cells S R).filter λc=>c.1==l).map λc=>partsOf (cellAt S R l c.2 d n).hold p)=cN S R p l d n:=by
 have nd:(bw R.lands).Nodup:=JE Ip List.nodup_range;have e:(cells S R).filter (λc=>c.1==l)=if(bw R.lands).contains l=true then(((am S).filter λv=>R.boxes.any λb=>inBox b v).map λv=>(l,v))else []:=qC _ l _ nd;rw[e];unfold cN f8;cases(bw R.lands).contains l
 .rfl
 .show((((am S).filter λv=>R.boxes.any λb=>inBox b v).map λv=>(l,v)).map _)=(a0 (am S) R).map _;rw[<-oQ,HM,HM];rfl
theorem B7(c:Cs)(ok:SOk S)(r p l d n:Int):BrT c S 3 ["right","person","land","day","day"] [] [r,p,l,d,n] []:=by
 have e3:((["right","person","land","day","day"]:List Str).zip [r,p,l,d,n]).all (λq=>ax q.1 q.2)=(inR 1 20 p&&(inR 0 3 l&&(inR 0 100000 d&&inR 0 100000 n))):=by show(ax "right" r&&(ax "person" p&&(ax "land" l&&(ax "day" d&&(ax "day" n&&true)))))=_;rw[iu,eM,ia,bK,bK,HE,HG]
 have e4:(([]:List Str).zip ([]:List (List Int))).all (λq=>aZ q.1 S.sizes q.2)=true:=rfl;have e5:((["right","person","land","day","day"]:List Str).zip [r,p,l,d,n]).all (λq=>ay S q.1 q.2)=gX S r:=by show(ay S "right" r&&(ay S "person" p&&(ay S "land" l&&(ay S "day" d&&(ay S "day" n&&true)))))=_;rw[iA,eN,ie,bM,bM];simp only[Bool.true_and,Bool.and_true]
 have Mm:act S (.parts r p l d n)=if(inR 1 20 p&&(inR 0 3 l&&(inR 0 100000 d&&inR 0 100000 n)))=true then(if true=true then(rightIn S r>>=λx=>.ok (S,Vbptaj.ints [((cN S x p.toNat l.toNat d.toNat n.toNat).filter λq=>decide (0<q)).length,(cN S x p.toNat l.toNat d.toNat n.toNat).sum]))else .error (-4))else .error (-3):=by unfold act;simp only[person,landOf,dayOf];simp only[cT,c4,Af];rfl
 obtain⟨g1,g2⟩:=cR e3 e4 e5 Mm (λhC=>(cM ok).1 hC);have Mr:step S ((((3+8:Nat):Int)::[r,p,l,d,n])::[])=cV S (act S (.parts r p l d n)):=rfl;unfold BrT;rw[Mr];refine⟨g1,λh=>?_⟩;obtain⟨hA,hB,hC,hY⟩:=g2 h;obtain⟨R,hR,NQ,hf⟩:=(cM ok (f:=λx=>.ok (S,Vbptaj.ints [((cN S x p.toNat l.toNat d.toNat n.toNat).filter λq=>decide (0<q)).length,(cN S x p.toNat l.toNat d.toNat n.toNat).sum]))).2 hC;rw[hf]at hY;simp only[and_eq_true]at hA;obtain⟨q0,q1,q2,q3⟩:=hA;obtain⟨t0,_,_⟩:=aH q0 (by decide);obtain⟨t1,_,_⟩:=aH q1 (by decide);obtain⟨t2,_,_⟩:=aH q2 (by decide);obtain⟨t3,_,_⟩:=aH q3 (by decide);rw[hY];refine⟨rfl,(by decide:2<=5000),λH L x Q hL hc kk=>?_⟩;refine⟨L,x,S,((3+8:Nat):Int),R,p.toNat,l.toNat,d.toNat,n.toNat,rfl,hL,ok,?_,hR,kk⟩
 .rw[t0,t1,t2,t3,NQ];exact hc
theorem Bu(S:State)(R:Right)(d n e m:Nat):(match(cells S R).find? λc=>(cellAt S R c.1 c.2 d n).hold !=(cellAt S R c.1 c.2 e m).hold with
  |none=>(Except.ok (S,[1]):Res (State×Answer))
  |some c=>.ok (S,0::(c.1:Int)::Vbptaj.ints c.2))=.ok (S,dj S R d n e m):=by
 rw[ue,List.find?_map];unfold dj;have e0:((λc:Nat×Variant=>(cellAt S R c.1 c.2 d n).hold !=(cellAt S R c.1 c.2 e m).hold)∘λq:Nat×Nat=>(q.1,(am S).getD q.2 []))=gW S R d n e m:=rfl;rw[e0];cases(gP S R).find? (gW S R d n e m)<;>rfl
theorem DH(c:Cs)(ok:SOk S)(r d n e m:Int):BrT c S 10 ["right","day","day","day","day"] [] [r,d,n,e,m] []:=by
 have e3:((["right","day","day","day","day"]:List Str).zip [r,d,n,e,m]).all (λq=>ax q.1 q.2)=(inR 0 100000 d&&(inR 0 100000 n&&(inR 0 100000 e&&inR 0 100000 m))):=by show(ax "right" r&&(ax "day" d&&(ax "day" n&&(ax "day" e&&(ax "day" m&&true)))))=_;rw[iu,bK,bK,bK,bK,HE,HG]
 have e4:(([]:List Str).zip ([]:List (List Int))).all (λq=>aZ q.1 S.sizes q.2)=true:=rfl;have e5:((["right","day","day","day","day"]:List Str).zip [r,d,n,e,m]).all (λq=>ay S q.1 q.2)=gX S r:=by show(ay S "right" r&&(ay S "day" d&&(ay S "day" n&&(ay S "day" e&&(ay S "day" m&&true)))))=_;rw[iA,bM,bM,bM,bM];simp only[Bool.true_and,Bool.and_true]
 have Mm:act S (.same r d n e m)=if(inR 0 100000 d&&(inR 0 100000 n&&(inR 0 100000 e&&inR 0 100000 m)))=true then(if true=true then(rightIn S r>>=λx=>.ok (S,dj S x d.toNat n.toNat e.toNat m.toNat))else .error (-4))else .error (-3):=by
  have ec:(λx=>(.ok (S,dj S x d.toNat n.toNat e.toNat m.toNat):Res (State×Answer)))=λx=>(match(cells S x).find? λc=>(cellAt S x c.1 c.2 d.toNat n.toNat).hold !=(cellAt S x c.1 c.2 e.toNat m.toNat).hold with
  |none=>(Except.ok (S,[1]):Res (State×Answer))
  |some c=>.ok (S,0::(c.1:Int)::Vbptaj.ints c.2)):=by
   funext x;exact(Bu S x _ _ _ _).symm
  rw[ec];unfold act;simp only[dayOf];simp only[cT,c4];rfl
 obtain⟨g1,g2⟩:=cR e3 e4 e5 Mm (λhC=>(cM ok).1 hC);have Mr:step S ((((10+8:Nat):Int)::[r,d,n,e,m])::[])=cV S (act S (.same r d n e m)):=rfl;unfold BrT;rw[Mr];refine⟨g1,λh=>?_⟩;obtain⟨hA,hB,hC,hY⟩:=g2 h;obtain⟨R,hR,NQ,hf⟩:=(cM ok (f:=λx=>.ok (S,dj S x d.toNat n.toNat e.toNat m.toNat))).2 hC;rw[hf]at hY;simp only[and_eq_true]at hA;obtain⟨q0,q1,q2,q3⟩:=hA;obtain⟨t0,_,_⟩:=aH q0 (by decide);obtain⟨t1,_,_⟩:=aH q1 (by decide);obtain⟨t2,_,_⟩:=aH q2 (by decide);obtain⟨t3,_,_⟩:=aH q3 (by decide);rw[hY];refine⟨rfl,?_,λH L x Q hL hc kk=>?_⟩
 .show(dj S R d.toNat n.toNat e.toNat m.toNat).length<=5000;unfold dj;split
  .exact(by decide:1<=5000)
  .rename_i q _;rw[Hr,Hr,fP];have l6:=ok.l6;have:((am S).getD q.2 []).length<=6:=by
    rw[Iw];cases h:(am S)[q.2]? with
    |none=>exact HJ _
    |some v=>have:=cQ _ (Hl h);show v.length<=6;omega
   omega
 refine⟨L,x,S,((10+8:Nat):Int),R,d.toNat,n.toNat,e.toNat,m.toNat,rfl,hL,ok,?_,hR,kk⟩
 .rw[t0,t1,t2,t3,NQ];exact hc
theorem rj:∀{all:List Deed}{e:Deed},Srt all->(all.map (·.num)).Nodup->e∈all->(all.takeWhile λd=>d.num !=e.num)=all.filter λd=>cj d e
 |[],e,_,_,m=>by cases m
 |a::r,e,hs,hn,m=>by
  have hs:=HF.mp hs;rw[Hf,Ik]at hn;by_cases he:a.num=e.num
  .have ae:a=e:=by
    rcases Hi.mp m with h|h
    .exact h.symm
    .exact absurd (HA.mpr ⟨e,h,he.symm⟩) hn.1
   subst ae;rw[J_,G9 (by simp),Hy,G9 (by rw[mr];simp)];symm;rw[Kd];intro d hd;rw[(jh (hs.1 d hd)).2];simp
  .have m':e∈r:=by
    rcases Hi.mp m with h|h
    .exact absurd (by rw[h]) he
    .exact h
   rw[J_,Hc (by simpa using he),Hy,Hc (jh (hs.1 e m')).1,rj hs.2 hn.2 m']
theorem AD(S:State)(R:Right)(LY:Nat)(v:List Nat)(ds:List Deed):cG S R LY v ds=ds.foldl (λc y=>if(target S y).right=R.num/\covers (target S y) LY v=true then(work c (target S y)).1 else c) (fresh R):=by
 unfold cG eI;rw[List.foldl_filter];congr 1;funext C d;rw[mK];unfold bD;by_cases h:(target S d).right=R.num/\covers (target S d) LY v=true
 .rw[Hc h,Hc (by rw[He h.1,h.2];rfl)]
 .rw[G9 h,G9 (λq=>h (by rw[Hq]at q;exact⟨Hb q.1,q.2⟩))]
def gY(Mn q:Nat):Str:=if q=0 then "not at all"else if q=Mn then "wholly"else "in part"
def ga(d:Deed):Nat:=if d.kind=1 then 1 else d.parts
theorem zG(h:C.hold=C'.hold/\C.locks=C'.locks)(hk:d.kind<=2)(hp:d.kind=0\/d.kind=2->1<=d.parts):nh C d=gY (ga d) (work C' d).2/\(work C' d).2<=ga d:=by
 have hf:freeOf C d.giver=freeOf C' d.giver:=nL h _;have two:∀f p:Nat,1<=p->(if f=0 then("not at all":Str)else if p<=f then "wholly"else "in part")=gY p (min p f)/\min p f<=p:=by
  intro f p hp;refine⟨?_,Nat.min_le_left _ _⟩;have m0:f=0->min p f=0:=by omega
  have m1:f≠0->min p f≠0:=by omega
  have m2:p<=f->min p f=p:=by omega
  have m3:¬p<=f->min p f≠p:=by omega
  unfold gY;by_cases h0:f=0
  .rw[Hc h0,Hc (m0 h0)]
  .rw[G9 h0,G9 (m1 h0)];by_cases h1:p<=f
   .rw[Hc h1,Hc (m2 h1)]
   .rw[G9 h1,G9 (m3 h1)]
 have hk3:d.kind=0\/d.kind=1\/d.kind=2:=by omega
 unfold nh ga work;rcases hk3 with e|e|e
 .rw[e,hf];exact two _ _ (hp (.inl e))
 .rw[e,h.1];show(if 0<partsOf C'.hold d.giver then("wholly":Str)else "not at all")=gY 1 (if 0<partsOf C'.hold d.giver then({C' with bound:=C'.bound++[(d.num,d.giver)]},1)else(C',0)).2/\(if 0<partsOf C'.hold d.giver then({C' with bound:=C'.bound++[(d.num,d.giver)]},1)else(C',0)).2<=1;by_cases h1:0<partsOf C'.hold d.giver
  .rw[Hc h1,Hc h1];exact⟨rfl,Hu _⟩
  .rw[G9 h1,G9 h1];exact⟨rfl,HJ _⟩
 .rw[e,hf];exact two _ _ (hp (.inr e))
theorem DB(ok:SOk S)(hd:d∈S.deeds)(hk:d.kind<=2)(hR:R.num=d.right)(n:Nat):d9 S R d n=(((cells S R).filterMap λc=>worked S d R c.1 c.2 n).map (gY (ga d)))/\∀q∈(cells S R).filterMap (λc=>worked S d R c.1 c.2 n),q<=ga d:=by
 have ht:target S d=d:=by unfold target;rw[G9 (by omega)]
 have hnd:((counted S n).map (·.num)).Nodup:=JE (KJ _ (fw S n)) ok.dNo;have Nc:Srt (counted S n):=Lh (fw S n) ok.dSo;have hin:((counted S n).map (·.num)).contains d.num=true↔d∈counted S n:=by
  rw[HZ];constructor
  .intro h;obtain⟨y,hy,e⟩:=HA.mp h;have h1:=iR ok hd;have h2:=iR ok ((fw S n).subset hy);rw[e,h1]at h2;injection h2 with h2;rw[h2];exact hy
  .exact λh=>HA.mpr ⟨d,h,rfl⟩
 by_cases hc:d∈counted S n
 .have hw:∀(LY:Nat)(v:List Nat),worked S d R LY v n=if bD S d R.num LY v=true then some (work (cG S R LY v ((counted S n).filter λy=>cj y d)) d).2 else none:=by
   intro LY v;have N3:(counted S n).contains d=true:=HZ.mpr hc;unfold worked;dsimp only;rw[ht,rj Nc hnd hc,<-AD,N3];unfold bD;rw[ht];by_cases h1:d.right=R.num
   .cases h2:covers d LY v
    .rw[Hc (.inr (.inr rfl)),G9 (by simp)]
    .rw[G9 (by simp[h1]),Hc (by simp[h1])]
   .rw[Hc (.inr (.inl h1)),G9 (by simp[h1])]
  have he:∀(LY:Nat)(v:List Nat),nh (cG S R LY v (pE (counted S n) d)) d=gY (ga d) (work (cG S R LY v ((counted S n).filter λy=>cj y d)) d).2/\(work (cG S R LY v ((counted S n).filter λy=>cj y d)) d).2<=ga d:=λLY v=>zG (mY S R LY v _) hk λh=>(ok.dPa d hd h).1;refine⟨?_,?_⟩
  .unfold d9;rw[Hc (hin.mpr hc),ue,List.filterMap_map];unfold pC gP;rw[List.filterMap_flatMap,map_flatMap];congr 1;funext LY;rw[List.filterMap_map];generalize a0 (am S) R=ps;induction ps with
   |nil=>rfl
   |cons i ps ih=>
    rw[Iu,ih,Jv];have e0:(((λc:Nat×Variant=>worked S d R c.1 c.2 n)∘λq:Nat×Nat=>(q.1,(am S).getD q.2 []))∘λi=>(LY,i)) i=worked S d R LY ((am S).getD i []) n:=rfl;rw[e0,hw];unfold dD;rw[(he LY ((am S).getD i [])).1];cases bD S d R.num LY ((am S).getD i [])
    .rfl
    .rfl
  .intro q hq;obtain⟨cc,_,h2⟩:=Kh.mp hq;rw[hw]at h2;split at h2
   .injection h2 with h2;rw[<-h2];exact(he _ _).2
   .cases h2
 .have N3:(counted S n).contains d=false:=by
   cases h:(counted S n).contains d
   .rfl
   .exact absurd (HZ.mp h) hc
  have hw:(λc:Nat×Variant=>worked S d R c.1 c.2 n)=λ_=>none:=by funext cc;unfold worked;dsimp only;rw[N3,Hc (.inl rfl)]
  have hn:(cells S R).filterMap (λc:Nat×Variant=>worked S d R c.1 c.2 n)=[]:=by rw[hw];simp
  rw[hn];refine⟨?_,λq h=>by cases h⟩;unfold d9;rw[G9 (λh=>hc (hin.mp h))];rfl
theorem zk(h1:1<=Mn):∀(l:List Nat),(∀q∈l,q<=Mn)->oG (l.map (gY Mn))=Vbptaj.ints [l.length,(l.filter λq=>q==Mn).length,(l.filter λq=>decide (0<q)&&decide (q<Mn)).length,(l.filter λq=>q==0).length]:=by
 intro l h;have key:∀(x:Str)(p:Nat->Bool),(∀q≤Mn,(gY Mn q==x)=p q)->ni x (l.map (gY Mn))=(l.filter p).length:=by intro x p hp;unfold ni;rw[List.countP_map,List.countP_eq_length_filter];congr 1;apply JL;intro q hq;exact hp q (h q hq)
 unfold oG;rw[G8,key "wholly" (λq=>q==Mn),key "in part" (λq=>decide (0<q)&&decide (q<Mn)),key "not at all" (λq=>q==0)]
 .intro q hq;unfold gY;by_cases h0:q=0
  .rw[Hc h0];subst h0;rfl
  .rw[G9 h0];have:(q==0)=false:=by simpa using h0
   rw[this];split<;>rfl
 .intro q hq;unfold gY;by_cases h0:q=0
  .rw[Hc h0];subst h0;rfl
  .rw[G9 h0];by_cases h2:q=Mn
   .rw[Hc h2];have:decide (q<Mn)=false:=by simp;omega
    rw[this,JY];rfl
   .rw[G9 h2];have a1:decide (q<Mn)=true:=by simp;omega
    have a2:decide (0<q)=true:=by simp;omega
    rw[a1,a2];rfl
 .intro q hq;unfold gY;by_cases h0:q=0
  .rw[Hc h0];have:(q==Mn)=false:=by simp;omega
   rw[this];rfl
  .rw[G9 h0];by_cases h2:q=Mn
   .rw[Hc h2];have:(q==Mn)=true:=by simpa using h2
    rw[this];rfl
   .rw[G9 h2];have:(q==Mn)=false:=by simpa using h2
    rw[this];rfl
theorem AQ(c:Cs)(ok:SOk S)(k n:Int):BrT c S 4 ["grant","day"] [] [k,n] []:=by
 have hg:∀d∈S.deeds,(λe:Deed=>decide (e.kind<=2)) d=([0,1,2]:List Int).contains (d.kind:Int):=λd hd=>by
  have h5:=ok.dKi d hd;have:∀m:Nat,m<=5->decide (m<=2)=([0,1,2]:List Int).contains (m:Int):=by decide
  exact this _ h5
 have e3:((["grant","day"]:List Str).zip [k,n]).all (λq=>ax q.1 q.2)=inR 0 100000 n:=by show(ax "grant" k&&(ax "day" n&&true))=_;rw[zX,bK,HE,HG]
 have e4:(([]:List Str).zip ([]:List (List Int))).all (λq=>aZ q.1 S.sizes q.2)=true:=rfl;have e5:((["grant","day"]:List Str).zip [k,n]).all (λq=>ay S q.1 q.2)=eG S k [0,1,2]:=by show(ay S "grant" k&&(ay S "day" n&&true))=_;rw[Av,bM,HG,HG]
 let f:Deed->Res (State×Answer):=λe=>match rightAt S e.right with
  |none=>.error (-5)
  |some x=>
   let l:=(cells S x).filterMap λc=>worked S e x c.1 c.2 n.toNat
   let Mn:=if e.kind=1 then 1 else e.parts
   .ok (S,Vbptaj.ints [l.length,(l.filter λq=>q==Mn).length,(l.filter λq=>decide (0<q)&&decide (q<Mn)).length,(l.filter λq=>q==0).length])
 have Mm:act S (.effect k n)=if inR 0 100000 n=true then(if true=true then(deedIn S k (λe=>decide (e.kind<=2))>>=f)else .error (-4))else .error (-3):=by unfold act;simp only[dayOf];simp only[cT];rfl
 obtain⟨g1,g2⟩:=cR e3 e4 e5 Mm (λhC=>(f6 ok hg).1 hC);have Mr:step S ((((4+8:Nat):Int)::[k,n])::[])=cV S (act S (.effect k n)):=rfl;unfold BrT;rw[Mr];refine⟨g1,λh=>?_⟩;obtain⟨hA,_,hC,hY⟩:=g2 h;obtain⟨d,hd,M9,Nh,hf⟩:=(f6 ok hg (f:=f)).2 hC;rw[hf]at hY;have hk:d.kind<=2:=Hb Nh;obtain⟨R,hR,NQ⟩:=ok.dRt d hd hk;have hfd:f d=.ok (S,oG (d9 S R d n.toNat)):=by
  have hr:rightAt S d.right=some R:=by rw[<-NQ];exact oN ok hR
  obtain⟨q1,q2⟩:=DB ok hd hk NQ n.toNat
  have hm:1<=ga d:=by
   unfold ga;split
   .exact Hu _
   .rename_i h1;exact(ok.dPa d hd (by omega)).1
  rw[q1,zk hm _ q2];show(match rightAt S d.right with|none=>_|some x=>_)=_;rw[hr];rfl
 rw[hfd]at hY;rw[hY];obtain⟨t1,_,_⟩:=aH hA (by decide);refine⟨rfl,(by decide:4<=5000),λH L x Q hL hc kk=>?_⟩;refine⟨L,x,S,((4+8:Nat):Int),R,d,n.toNat,rfl,hL,ok,?_,hd,hk,hR,NQ,kk⟩;rw[M9,t1];exact hc
end Wh
namespace Wh
open PySem PySem.Spec PyProof.Rows L2
theorem A7(c:Cs)(ok:SOk S):∀{i:Nat}{names LZ:List Str}{ws:List Int}{rows:List (List Int)},cW[i]?=some names->cP[i]?=some LZ->ws.length=names.length->rows.length=LZ.length->(∀r∈rows,r.length<=60)->(i<8->BrK c S i names LZ ws rows)/\∀j,i=j+8->BrT c S j names LZ ws rows:=by
 intro i names LZ ws rows h1 h2 h3 h4 PP;have kk:∀{i':Nat},i'<8->BrK c S i' names LZ ws rows->(i'<8->BrK c S i' names LZ ws rows)/\∀j,i'=j+8->BrT c S j names LZ ws rows:=λhi h=>⟨λ_=>h,λj e=>by omega⟩
 have tt:∀{j':Nat},BrT c S j' names LZ ws rows->(j'+8<8->BrK c S (j'+8) names LZ ws rows)/\∀j,j'+8=j+8->BrT c S j names LZ ws rows:=λh=>⟨λhi=>by omega,λj e=>by
  have:j=_:=Nat.add_right_cancel e.symm;rw[this]
  exact h⟩
 match i,h1,h2 with
 |0,h1,h2=>
  cases h1;cases h2
  match ws,h3,rows,h4 with
  |[],_,[l],_=>exact kk (by decide) (brF c ok l)
 |1,h1,h2=>
  cases h1;cases h2
  match ws,h3,rows,h4,PP with
  |[r,a,b,w],_,[bl,ol],_,PP=>exact kk (by decide) (brR c ok r a b w bl ol (PP _ (by simp)) (PP _ (by simp)))
 |2,h1,h2=>
  cases h1;cases h2
  match ws,h3,rows,h4 with
  |[k,n,d,r,a,b,p,w],_,[l],_=>exact kk (by decide) (brP c ok 0 2 (.inl ⟨rfl,rfl⟩) k n d r a b p w l)
 |3,h1,h2=>
  cases h1;cases h2
  match ws,h3,rows,h4 with
  |[k,n,d,r,a,b,o,f,t,w],_,[l],_=>exact kk (by decide) (brL c ok k n d r a b o f t w l)
 |4,h1,h2=>
  cases h1;cases h2
  match ws,h3,rows,h4 with
  |[k,n,d,r,a,b,p,w],_,[l],_=>exact kk (by decide) (brP c ok 2 4 (.inr ⟨rfl,rfl⟩) k n d r a b p w l)
 |5,h1,h2=>
  cases h1;cases h2
  match ws,h3,rows,h4 with
  |[k,n,d,q],_,[],_=>exact kk (by decide) (brA c ok 3 5 "pledge" [2] _ (.inl ⟨rfl,rfl,rfl,rfl,rfl⟩) k n d q)
 |6,h1,h2=>
  cases h1;cases h2
  match ws,h3,rows,h4 with
  |[k,n,d,q],_,[],_=>exact kk (by decide) (brA c ok 4 6 "pledge" [2] _ (.inr (.inl ⟨rfl,rfl,rfl,rfl,rfl⟩)) k n d q)
 |7,h1,h2=>
  cases h1;cases h2
  match ws,h3,rows,h4 with
  |[k,n,d,q],_,[],_=>exact kk (by decide) (brA c ok 5 7 "no annulment" [0,1,2,3,4] _ (.inr (.inr ⟨rfl,rfl,rfl,rfl,rfl⟩)) k n d q)
 |8,h1,h2=>
  cases h1;cases h2
  match ws,h3,rows,h4 with
  |[r,l,d,n],_,[v],_=>exact tt (j':=0) (br4 c ok 0 jq (.holders r l d n v) r l d n v Ay rfl rfl rfl)
 |9,h1,h2=>
  cases h1;cases h2
  match ws,h3,rows,h4 with
  |[u,l,d,n],_,[v],_=>exact tt (j':=1) (B8 c ok u l d n v)
 |10,h1,h2=>
  cases h1;cases h2
  match ws,h3,rows,h4 with
  |[u,l,d,n],_,[],_=>exact tt (j':=2) (DI c ok u l d n)
 |11,h1,h2=>
  cases h1;cases h2
  match ws,h3,rows,h4 with
  |[r,p,l,d,n],_,[],_=>exact tt (j':=3) (B7 c ok r p l d n)
 |12,h1,h2=>
  cases h1;cases h2
  match ws,h3,rows,h4 with
  |[k,n],_,[],_=>exact tt (j':=4) (AQ c ok k n)
 |13,h1,h2=>
  cases h1;cases h2
  match ws,h3,rows,h4 with
  |[l,d],_,[v],_=>exact tt (j':=5) (B9 c ok l d v)
 |14,h1,h2=>
  cases h1;cases h2
  match ws,h3,rows,h4 with
  |[r,l,d,n],_,[v],_=>exact tt (j':=6) (br4 c ok 6 jp (.locks r l d n v) r l d n v Ak rfl rfl rfl)
 |15,h1,h2=>
  cases h1;cases h2
  match ws,h3,rows,h4 with
  |[r,l,d,n],_,[v],_=>exact tt (j':=7) (br4 c ok 7 iB (.bound r l d n v) r l d n v zh rfl rfl rfl)
 |16,h1,h2=>
  cases h1;cases h2
  match ws,h3,rows,h4 with
  |[],_,[],_=>exact tt (j':=8) (B_ c ok)
 |17,h1,h2=>
  cases h1;cases h2
  match ws,h3,rows,h4 with
  |[k],_,[],_=>exact tt (j':=9) (DG c ok k)
 |18,h1,h2=>
  cases h1;cases h2
  match ws,h3,rows,h4 with
  |[r,d,n,e,m],_,[],_=>exact tt (j':=10) (DH c ok r d n e m)
 |19,h1,h2=>
  cases h1;cases h2
  match ws,h3,rows,h4 with
  |[l,d,n],_,[v],_=>exact tt (j':=11) (AO c ok l d n v)
 |_+20,h1,_=>cases h1
structure oa(i:Nat)(names LZ:List Str)(ws:List Int)(rows:List (List Int)):Prop where
 tw:cW[i]?=some names
 tl:cP[i]?=some LZ
 lw:ws.length=names.length
 lr:rows.length=LZ.length
 l60:∀r∈rows,r.length<=60
theorem oa.small(g:oa i names LZ ws rows):i<20/\ws.length<=1000/\rows.length<=1000:=by
 have hi:i<20:=by have:=(HQ.mp g.tw).1;exact this
 have h1:∀l∈cW,l.length<=1000:=by decide
 have h2:∀l∈cP,l.length<=1000:=by decide
 refine⟨hi,?_,?_⟩
 .rw[g.lw];exact h1 _ (Hl g.tw)
 .rw[g.lr];exact h2 _ (Hl g.tl)
theorem xi(ok:SOk S)(g:oa i names LZ ws rows)(c:Cs):SOk (Vbptaj.step S ((((i:Nat):Int)::ws)::rows)).1/\(Vbptaj.step S ((((i:Nat):Int)::ws)::rows)).2.length<=5000:=by
 obtain⟨bk,bt⟩:=A7 c ok g.tw g.tl g.lw g.lr g.l60;by_cases hi:i<8
 .obtain⟨h1,h2⟩:=bk hi;by_cases h0:c_ S names LZ ws rows=0
  .exact⟨(h2 h0).1,(h2 h0).2.1⟩
  .rw[(h1 h0).1];exact⟨ok,(by decide:1<=5000)⟩
 .obtain⟨j,rfl⟩:∃j,i=j+8:=⟨i-8,by omega⟩;obtain⟨h1,h2⟩:=bt j rfl;by_cases h0:c_ S names LZ ws rows=0
  .have q:=(h2 h0).1;refine⟨?_,(h2 h0).2.1⟩;show SOk (Vbptaj.step S ((((j+8:Nat):Int)::ws)::rows)).1;rw[q];exact ok
  .rw[(h1 h0).1];exact⟨ok,(by decide:1<=5000)⟩
section
variable{P:Program}{w:World}{K:LS}{mg:Str->Option Value}{base:Heap}{c:Cs}
inductive qa(c:Cs)(vs:List V)(H:Hp)(Q:VK)(E:XK):Prop|mk(L x:Addr)(S:LU)(i:Nat)(names LZ:List Str)(ws:List Int)(rows:List (List Int))(_:vs=[.ref L,.ref x])(_:bi c H L S)(_:SOk S)(_:bc c H x (i:Nat) ws rows)(_:oa i names LZ ws rows)(_:fJ c L H Q (Vbptaj.step S ((((i:Nat):Int)::ws)::rows)).1 (Vbptaj.step S ((((i:Nat):Int)::ws)::rows)).2)
theorem rT(T:Txt P w K mg c):T.Gv.H P w base 10 (qa c):=by
 refine aS T.Gv ["ledger","call","refusal"] ?_;rintro _ _ _ _ _ H vs Q E hr _ _ _ nd ⟨L,x,S,i,names,LZ,ws,rows,rfl,hL,ok,hc,g,k⟩
 refine⟨_,(aj (aO 2 nd (az (nW T) hr (p2 0 1)))
 (aj (a9 (aA gB (pv 2) aI (aD _)) (rt (aW (p1 2))) aM)
 (aj (a9 (aA gB (fv 1) (bf rfl T.G5) (aD _)) (rt (az (Dq T) hr (p2 0 1))) aM)
 (rt (az (Do T) hr (p2 0 1)))))),?_⟩
 obtain⟨bk,bt⟩:=A7 c ok g.tw g.tl g.lw g.lr g.l60;obtain⟨_,q1,q2⟩:=g.small;refine⟨_,rfl,_,rfl,L,x,S,i,names,LZ,ws,rows,rfl,hL.one,ok,hc,g.tw,g.tl,q1,q2,g.l60,λH1 s1=>?_⟩;obtain⟨dx,aw,ar,rs,e0,hx,_⟩:=id (hc.same s1);refine⟨_,rfl,_,_,rfl,rfl,_,rfl,aP (λh=>?_) λh=>?_⟩
 .have h':c_ S names LZ ws rows<0:=Hb h;have e:Vbptaj.step S ((((i:Nat):Int)::ws)::rows)=(S,[c_ S names LZ ws rows]):=by
   by_cases hi:i<8
   .exact((bk hi).1 (by omega)).1
   .obtain⟨j,rfl⟩:∃j,i=j+8:=⟨i-8,by omega⟩;exact((bt j rfl).1 (by omega)).1
  rw[e]at k;exact⟨_,rfl,aB,λD hD=>k _ D (bB.of (s1.trans (ak.upd hD))) (s1.free hD) aa (hL.same (s1.trans (ak.upd hD)))⟩
 have hn:¬c_ S names LZ ws rows<0:=λz=>h (He z);refine⟨_,rfl,rfl,hx,T.Call.o,rfl,_,_,rfl,rfl,_,rfl,aP (λh2=>?_) λh2=>?_⟩
 .have hi:i<8:=by have z:((i:Nat):Int)<8:=Hb h2;omega
  obtain⟨b1,b2⟩:=bk hi;have h0:c_ S names LZ ws rows=0:=Ii λz=>hn (b1 z).2;exact⟨_,rfl,_,rfl,L,x,i,ws,rows,rfl,hc.same s1,(b2 h0).2.2 H1 L x Q (hL.same s1) (hc.same s1) λH' D kp hD hl ha=>k H' D ((bB.of s1).trans kp) (s1.free hD) hl ha⟩
 .have hi:¬i<8:=λz=>h2 (He (by show((i:Nat):Int)<8;omega));obtain⟨j,rfl⟩:∃j,i=j+8:=⟨i-8,by omega⟩;obtain⟨b1,b2⟩:=bt j rfl;have h0:c_ S names LZ ws rows=0:=Ii λz=>hn (b1 z).2;obtain⟨b3,_,b4⟩:=b2 h0;rw[b3]at k;exact⟨_,rfl,_,rfl,L,x,j,ws,rows,rfl,hc.same s1,b4 H1 L x Q (hL.one.same s1) (hc.same s1) λH' D s2 hD hl=>k H' D (bB.of (s1.trans s2)) (s1.free hD) hl (hL.same (s1.trans s2))⟩
theorem tS:ak (hide H t) (upd H t o):=λb u e=>by
 have nb:b≠t:=λz=>by rw[z,dh]at e;cases e
 rw[cq nb]at e;rw[ai nb];exact e
theorem jQ:hide (upd H t o) t=hide H t:=by
 funext b;by_cases nb:b=t
 .rw[nb,dh,dh]
 .rw[cq nb,cq nb,ai nb]
theorem bi.hideF(h:bi c H L S)(ht:H t=some (.frz od u)):bi c (hide H t) L S:=by
 obtain⟨dx,af,av,ar,ad,Rs,Ds,h,n⟩:=h;have k:∀{b:Addr}{o:HO},H b=some o->(∀o' u',o≠ .frz o' u')->hide H t b=some o:=λe no=>by rw[cq (aF e ht (no _ _))];exact e
 refine⟨dx,af,av,ar,ad,Rs,Ds,⟨k h.obj (by intro _ _ z;cases z),k h.fld (by intro _ _ z;cases z),?_,k h.rts (by intro _ _ z;cases z),λp m=>?_,h.rPm,k h.dds (by intro _ _ z;cases z),λp m=>?_,h.dPm⟩,n⟩
 .obtain⟨rs,h1,h2⟩:=h.vars;exact⟨rs,k h1 (by intro _ _ z;cases z),Paired.mapP h2 λ_ _ q=>k q (by intro _ _ z;cases z)⟩
 .obtain⟨d,x,y,h1,h2,h3⟩:=h.rAt p m;exact⟨d,x,y,k h1 (by intro _ _ z;cases z),k h2 (by intro _ _ z;cases z),k h3 (by intro _ _ z;cases z)⟩
 .obtain⟨d,x,y,h1,h2,h3⟩:=h.dAt p m;exact⟨d,x,y,k h1 (by intro _ _ z;cases z),k h2 (by intro _ _ z;cases z),k h3 (by intro _ _ z;cases z)⟩
theorem cU.keepL(h:cU c N H x cl)(s:∀b o,H b=some o->((N b/\∃xs,o=.lst xs)\/∃dx n aw ar e,o=.ins c.Call dx (sg n aw ar e))->H' b=some o):cU c N H' x cl:=by obtain⟨n,ws,rows,e,h1,⟨dx,aw,ar,rs,h2,h3,n3,h4,n4,h5⟩⟩:=h;exact⟨n,ws,rows,e,h1,⟨dx,aw,ar,rs,s _ _ h2 (.inr ⟨_,_,_,_,_,rfl⟩),s _ _ h3 (.inl ⟨n3,_,rfl⟩),n3,s _ _ h4 (.inl ⟨n4,_,rfl⟩),n4,Paired.mapP h5 λ_ _ q=>⟨s _ _ q.1 (.inl ⟨q.2,_,rfl⟩),q.2⟩⟩⟩
theorem cU.is(h:cU c N H x ((n::ws)::rows)):bc c H x n ws rows:=by obtain⟨n',ws',rows',e,h1,⟨dx,aw,ar,rs,h2,h3,n3,h4,n4,h5⟩⟩:=h;cases h1;exact⟨dx,aw,ar,rs,e,h2,h3,h4,Paired.mapP h5 λ_ _ q=>q.1⟩
def iY(l:List (List (List Int))):LU:=l.foldl (λs c=>(Vbptaj.step s c).1) Vbptaj.start
theorem mR:∀(l:List (List (List Int)))(s:LU)(cl:List (List Int)),played Vbptaj.step s (l++[cl])=played Vbptaj.step s l++[(Vbptaj.step (l.foldl (λs c=>(Vbptaj.step s c).1) s) cl).2]
 |[],s,cl=>rfl
 |a::l,s,cl=>by show(Vbptaj.step s a).2::played Vbptaj.step (Vbptaj.step s a).1 (l++[cl])=_;rw[mR l];rfl
def gJ(l:List (List (List Int))):List Int:=told (played Vbptaj.step Vbptaj.start l)
theorem uU(l:List (List (List Int)))(cl:List (List Int)):gJ (l++[cl])=(gJ l++[((Vbptaj.step (iY l) cl).2.length:Int)])++(Vbptaj.step (iY l) cl).2:=by unfold gJ iY told;rw[mR,IM,Jz];congr 1;rw[Iu,List.flatMap_nil,IU];rfl
theorem yB(l:List (List (List Int)))(cl:List (List Int)):iY (l++[cl])=(Vbptaj.step (iY l) cl).1:=by unfold iY;rw[JM];rfl
theorem zK:SOk Vbptaj.start:=by have:=ua (ks:=[2]) (by decide) (by decide) (by decide) (by decide) (by decide);exact this
def A8(cs:List (List (List Int))):Prop:=∀cl∈cs,∃(i:Nat)(names LZ:List Str)(ws:List Int)(rows:List (List Int)),cl=(((i:Nat):Int)::ws)::rows/\oa i names LZ ws rows
inductive jU(K:LS)(vs:List V)(H:Hp)(Q:VK)(E:XK):Prop|mk(a:Addr)(l:List Int)(f:Nat)(cs:List (List (List Int)))(_:vs=[.ref a])(_:SqL K H a (l.map V.int))(_:l.length<=16000)(_:PyFlat.calls shape f l=some cs)(_:cs.length<=400)(_:A8 cs)(_:∀H' D,H' D=some (.lst ((gJ cs).map V.int))->Q (.ref D) H')
theorem xu(T:Txt P w K mg c)(F:Fun K "answers" "answers" kO f fd):dE P w K mg base CX0 11 f fd ["calls"] (jU K):=by
 have O1:=AB (base:=base) T;have Nm:=rT (base:=base) T;have Nn:=rN (base:=base) T;have B:=T.B;refine F.ok gc (λvs H Q E h=>?_) (λL1 A outer s H vs Q E hr h=>?_)
 .obtain⟨a,l,f0,cs,rfl,ha,hz,hcs,h400,good,k⟩:=h;rfl
 .obtain⟨a,l,f0,cs,rfl,ha,hz,hcs,h400,good,k⟩:=h;have hu:=wU hr;have OP:=hr.units;have hu0:=hr.units0
  refine⟨_,(aj (du (i:=1) gc.nd rfl (by first|exact Or.inl rfl|exact Or.inr rfl) (yN O1 (hr.mono (by decide)) rfl))
 (aj (du (i:=2) gc.nd rfl (by first|exact Or.inl rfl|exact Or.inr rfl) (aW aq))
 (aj (cy HI rfl (a8 (jN Nn (hr.mono (by decide)) rfl (p1 0))) (v0 (i:=3) gc.nd rfl (by first|exact Or.inl rfl|exact Or.inr rfl))
  (aj (du (i:=4) gc.nd rfl (by first|exact Or.inl rfl|exact Or.inr rfl) (v_ (jN Nm (hr.mono (by decide)) rfl (p2 1 3))))
 (aj (bU (dG Ib Ix ID fZ (pv 2) (ag (aK aV (by rfl) B.q Ig (p1 4)) aq)))
 (aL (bU (dG Ib Jl JC fY (pv 2) (p1 4)))))))
 (rt (pv 2))))),?_⟩
  intro L dL hL hdL ne;refine⟨L,dL,rfl,aa,λH1 af av ar ad h1 h2 h3 h4 h5 n1 f1 f2 kp=>⟨rfl,?_⟩⟩;have s1:ak H H1:=ak.made hL hdL kp;have hLed:bi c H1 L Vbptaj.start:=⟨dL,af,av,ar,ad,[],[],⟨h1,h2,h3,h4,λp m=>by(cases m),.nil,h5,λp m=>by(cases m),.nil⟩,n1⟩;refine⟨HJ _,λt ht=>?_⟩;have hLt:bi c (hide (upd H1 t (.lst [])) t) L Vbptaj.start:=by rw[jQ];exact hLed.same (dv (ak.refl _) ht)
  have htT:(upd H1 t (.lst [])) t=some (.lst []):=aa;have s2:ak H (upd H1 t (.lst [])):=s1.trans (ak.upd ht);generalize upd H1 t (.lst [])=Hs at*;dsimp only[bp,b6,cu,tC,bu];refine cw ?_;refine⟨_,rfl,a,l,f0,cs,rfl,s2.seq ha,hz,hcs,λH5 D xs s5 hD hD5 pr=>?_⟩;refine⟨D,rfl,⟨_,SqL.of hD5⟩,?_⟩;have htD:D≠t:=λz=>by rw[z,htT]at hD;cases hD
  have L3:(xs.map V.ref).length=cs.length:=by rw[G8];exact HC pr
  refine cB (b9 (K:=K) (a:=D) (xs:=xs.map V.ref) (G:=λH'=>H' D=some (.lst (xs.map V.ref))) λH' e=>SqL.of e) (λi σ H'=>∃v3 v4,σ=[some (.ref a),some (.ref L),some (.ref t),v3,v4]/\bi c (hide H' t) L (iY (cs.take i))/\SOk (iY (cs.take i))/\(gJ (cs.take i)).length<=5001*i/\H' t=some (.lst ((gJ (cs.take i)).map V.int))/\H' D=some (.lst (xs.map V.ref))/\Paired (λx cl=>cU c (λb=>Hs b=none/\b≠D) H' x cl) xs cs) ?_ ?_ ?_ ?_
  .exact⟨none,none,rfl,hLt.same (dv (d3.trans s5) dh),zK,HJ _,s5 _ _ htT,hD5,pr⟩
  .rintro i σ H' _ ⟨_,_,_,_,_,_,_,e,_⟩;exact e
  .rintro i v σ H2 H3 hi ⟨v3,v4,rfl,hLi,oki,hl,ht2,MO,pr2⟩ s4 hv;obtain⟨x,hx,rfl⟩:∃x,xs[i]?=some x/\v=V.ref x:=by
    rw[Hd]at hv;cases h:xs[i]? with
    |none=>rw[h]at hv;cases hv
    |some x=>rw[h]at hv;cases hv;exact⟨x,rfl,rfl⟩
   obtain⟨cl,Of,hic⟩:=gg pr2 hx;obtain⟨j,names,LZ,ws,rows,rfl,gd⟩:=good cl (Hl Of);have e1:=yB (cs.take i) ((((j:Nat):Int)::ws)::rows);have e2:=uU (cs.take i) ((((j:Nat):Int)::ws)::rows);rw[<-a6 Of]at e1 e2;obtain⟨ok2,l5⟩:=xi oki gd c;have OY:bi c (hide H3 t) L (iY (cs.take i)):=hLi.same (dv (d3.trans s4) dh);have ht3:=s4 _ _ ht2;have MK:=s4 _ _ MO;have pr3:Paired (λx cl=>cU c (λb=>Hs b=none/\b≠D) H3 x cl) xs cs:=Paired.mapP pr2 λy cl q=>q.keepL λb o e _=>s4 _ _ e;have hi3:=hic.keepL (H':=H3) λb o e _=>s4 _ _ e;clear hLi ht2 MO pr2 hic;have hi4:i<400:=by rw[L3]at hi;omega
   refine⟨t,_,ht3,Jy,λod=>?_⟩;have nt:∀b,Hs b=none->b≠t:=λb e z=>by rw[z,htT]at e;cases e
   refine⟨_,rfl,_,rfl,L,x,_,j,names,LZ,ws,rows,rfl,OY.same tS,oki,?_,gd,λH4 Dn kp hDn Ng hL4=>?_⟩
   .refine cU.is (N:=λb=>Hs b=none/\b≠D) (hi3.keepL λb o e h=>?_);have nb:b≠t:=by
     rcases h with⟨h,_⟩|⟨_,_,_,_,_,rfl⟩
     .exact nt b h.1
     .exact aF e ht3
    rw[ai nb];exact e
   generalize ea:gJ (cs.take i)=acc at*;generalize eA:(Vbptaj.step (iY (cs.take i)) ((((j:Nat):Int)::ws)::rows)).2=Ol at*;obtain⟨dL4,_,_,_,_,_,_,hL4i,_⟩:=id hL4;obtain⟨dL3,_,_,_,_,_,_,hL3i,_⟩:=id OY;have hLo:(upd H3 t (.frz od (.lst (acc.map V.int)))) L=some _:=tS _ _ hL3i.obj;have ntL:t≠L:=aF (H:=upd H3 t (.frz od (.lst (acc.map V.int)))) aa hLo (by intro z;cases z);have hf4:H4 t=some (.frz od (.lst (acc.map V.int))):=kp t _ aa ntL (by intro _ z;cases z);have nDn:Dn≠t:=λz=>by rw[z,aa]at hDn;cases hDn
   refine⟨hf4,?_⟩;have l24:sizeLine=16777216:=by decide
   refine⟨_,rfl,.inl ⟨rfl,_,SqL.of aa⟩,_,rfl,Dn,_,rfl,.inl (SqL.of (by rw[ai nDn];exact Ng)),t,_,_,rfl,rfl,aa,by rw[G8,l24];omega,?_⟩;refine⟨_,rfl,.inl ⟨rfl,_,SqL.of aa⟩,_,rfl,t,Dn,_,_,rfl,rfl,aa,(by rw[ai nDn,ai nDn];exact Ng),by rw[Hx,G8,G8,l24];simp only[length_singleton];omega,?_⟩;have keep:∀b o,H3 b=some o->b≠t->b≠L->(∀kvs,o≠ .dK kvs)->(upd (upd (upd H4 t (.lst (acc.map V.int))) t (.lst (acc.map V.int++[V.int ((Ol.map V.int).length:Nat)]))) t (.lst ((acc.map V.int++[V.int ((Ol.map V.int).length:Nat)])++Ol.map V.int))) b=some o:=λb o e n1 n2 n3=>by rw[ai n1,ai n1,ai n1];exact kp b o (by rw[ai n1];exact e) n2 n3
   refine⟨_,_,rfl,?_,by rw[e1];exact ok2,?_,?_,?_,?_⟩
   .rw[jQ,jQ,jQ,e1];exact hL4.hideF hf4
   .rw[e2,Hx,Hx,IE];omega
   .rw[aa,e2,HL,HL,G8];rfl
   .exact keep _ _ MK htD (aF (H:=upd H3 t (.frz od (.lst (acc.map V.int)))) (by rw[ai htD];exact MK) hLo (by intro z;cases z)) (by intro _ z;cases z)
   .refine Paired.mapP pr3 λy cl q=>q.keepL λb o e h=>?_;have nb:b≠t:=by
     rcases h with⟨h,_⟩|⟨_,_,_,_,_,rfl⟩
     .exact nt b h.1
     .exact aF e ht3
    have e':(upd H3 t (.frz od (.lst (acc.map V.int)))) b=some o:=by rw[ai nb];exact e
    rcases h with⟨_,_,rfl⟩|⟨_,_,_,_,_,rfl⟩
    .exact keep b _ e nb (aF e' hLo) (by intro _ z;cases z)
    .exact keep b _ e nb (aF e' hLo (by intro z;injection z with _ _ z;cases z)) (by intro _ z;cases z)
  .rintro σ H' ⟨v3,v4,rfl,hLi,oki,hl,ht2,MO,pr2⟩;rw[L3,Im]at ht2;exact⟨_,rfl,k H' t ht2⟩
theorem DO(hfa:mg "answers"=some (.ref fa))(T:Txt P w K mg c):∃fd:FuncData,(∀(s:Shared)(us:List Value),us.length=(["calls"]:List Str).length->BindsTo s fd ⟨us,[]⟩ ((["calls"]:List Str).zip us))/\∀base:Heap,K.In base->base.Ns mainGlobals mg->dE P w K mg base CX0 11 fa fd ["calls"] (jU K):=by obtain⟨f,fd,F,m,b⟩:=T.Gw;have e:=hfa.symm.trans m;cases e;refine⟨fd,?_,λbase _ _=>xu T F⟩;obtain⟨oc,od,kV,L8,pm,an,L1,ct,NY,rfl,_⟩:=F.ex;exact λs us hu=>match us,hu with|[_],_=>.of_eq rfl
end
end Wh
namespace Wh
open PySem (Str)
theorem o9:∀{f:Nat}{l:List Int}{cs:List (List (List Int))},PyFlat.calls shape f l=some cs->∀cl∈cs,∃n ws rows,cl=(n::ws)::rows/\shape n=some (ws.length,rows.length)
 |f,[],cs,h,cl,m=>by
  have e:cs=[]:=by cases f<;>exact(Hg h).symm
  rw[e]at m;cases m
 |0,p::r,cs,h,cl,m=>by cases h
 |f+1,p::r,cs,h,cl,m=>by
  unfold PyFlat.calls at h;cases hc:PyFlat.call shape (p::r)with
  |none=>rw[hc]at h;cases h
  |some q=>
   obtain⟨c1,t⟩:=q;rw[hc]at h;dsimp only at h;cases hk:PyFlat.calls shape f t with
   |none=>rw[hk]at h;cases h
   |some rest=>
    rw[hk]at h;have h':=Hg h;rw[<-h']at m;rcases Hi.mp m with rfl|m
    .obtain⟨n,ws,rows,rfl,_⟩:=pb hc;obtain⟨r',m',k,_,hs,hl,hw,hr⟩:=o_ hc;refine⟨n,ws,rows,rfl,?_⟩;rw[hs,(ir hr).1,hw,Iv,KH hl]
    .exact o9 hk cl m
theorem Ei(h:VbptajNeutral.row l=true):l.length<=60:=by unfold VbptajNeutral.row at h;rw[Hq]at h;exact Hb h.1
theorem fG(h:(b&&VbptajNeutral.row l)=true):∀r∈[l],r.length<=60:=λr m=>by rw[HH.mp m];rw[Hq]at h;exact Ei h.2
def E8(cl:List (List Int))(rows:List (List Int)):Prop:=PyVbptaj.whole cl=cl/\(asked1 cl=true->∀r∈rows,r.length<=60)
theorem pc(hs:shape n=some (ws.length,rows.length)):E8 ((n::ws)::rows) rows:=by
 obtain⟨i,rfl,_,xs,ys,t1,t2,t3,t4⟩:=kN hs;clear hs
 match i,t1,t3 with
 |0,t1,t3=>
  cases t1;cases t3
  match ws,t2,rows,t4 with
  |[],_,[r0],_=>exact⟨rfl,λh=>fG (b:=true) h⟩
 |1,t1,t3=>
  cases t1;cases t3
  match ws,t2,rows,t4 with
  |[x0,x1,x2,x3],_,[r0,r1],_=>exact⟨rfl,λh r m=>by
   have h':=(Hq _ _▸h);rcases Hi.mp m with rfl|m
   .exact fG h'.1 _ (HH.mpr rfl)
   .exact fG h r m⟩
 |2,t1,t3=>
  cases t1;cases t3
  match ws,t2,rows,t4 with
  |[x0,x1,x2,x3,x4,x5,x6,x7],_,[r0],_=>exact⟨rfl,λh=>fG h⟩
 |3,t1,t3=>
  cases t1;cases t3
  match ws,t2,rows,t4 with
  |[x0,x1,x2,x3,x4,x5,x6,x7,x8,x9],_,[r0],_=>exact⟨rfl,λh=>fG h⟩
 |4,t1,t3=>
  cases t1;cases t3
  match ws,t2,rows,t4 with
  |[x0,x1,x2,x3,x4,x5,x6,x7],_,[r0],_=>exact⟨rfl,λh=>fG h⟩
 |5,t1,t3=>
  cases t1;cases t3
  match ws,t2,rows,t4 with
  |[x0,x1,x2,x3],_,[],_=>exact⟨rfl,λ_ r m=>by cases m⟩
 |6,t1,t3=>
  cases t1;cases t3
  match ws,t2,rows,t4 with
  |[x0,x1,x2,x3],_,[],_=>exact⟨rfl,λ_ r m=>by cases m⟩
 |7,t1,t3=>
  cases t1;cases t3
  match ws,t2,rows,t4 with
  |[x0,x1,x2,x3],_,[],_=>exact⟨rfl,λ_ r m=>by cases m⟩
 |8,t1,t3=>
  cases t1;cases t3
  match ws,t2,rows,t4 with
  |[x0,x1,x2,x3],_,[r0],_=>exact⟨rfl,λh=>fG h⟩
 |9,t1,t3=>
  cases t1;cases t3
  match ws,t2,rows,t4 with
  |[x0,x1,x2,x3],_,[r0],_=>exact⟨rfl,λh=>fG h⟩
 |10,t1,t3=>
  cases t1;cases t3
  match ws,t2,rows,t4 with
  |[x0,x1,x2,x3],_,[],_=>exact⟨rfl,λ_ r m=>by cases m⟩
 |11,t1,t3=>
  cases t1;cases t3
  match ws,t2,rows,t4 with
  |[x0,x1,x2,x3,x4],_,[],_=>exact⟨rfl,λ_ r m=>by cases m⟩
 |12,t1,t3=>
  cases t1;cases t3
  match ws,t2,rows,t4 with
  |[x0,x1],_,[],_=>exact⟨rfl,λ_ r m=>by cases m⟩
 |13,t1,t3=>
  cases t1;cases t3
  match ws,t2,rows,t4 with
  |[x0,x1],_,[r0],_=>exact⟨rfl,λh=>fG h⟩
 |14,t1,t3=>
  cases t1;cases t3
  match ws,t2,rows,t4 with
  |[x0,x1,x2,x3],_,[r0],_=>exact⟨rfl,λh=>fG h⟩
 |15,t1,t3=>
  cases t1;cases t3
  match ws,t2,rows,t4 with
  |[x0,x1,x2,x3],_,[r0],_=>exact⟨rfl,λh=>fG h⟩
 |16,t1,t3=>
  cases t1;cases t3
  match ws,t2,rows,t4 with
  |[],_,[],_=>exact⟨rfl,λ_ r m=>by cases m⟩
 |17,t1,t3=>
  cases t1;cases t3
  match ws,t2,rows,t4 with
  |[x0],_,[],_=>exact⟨rfl,λ_ r m=>by cases m⟩
 |18,t1,t3=>
  cases t1;cases t3
  match ws,t2,rows,t4 with
  |[x0,x1,x2,x3,x4],_,[],_=>exact⟨rfl,λ_ r m=>by cases m⟩
 |19,t1,t3=>
  cases t1;cases t3
  match ws,t2,rows,t4 with
  |[x0,x1,x2],_,[r0],_=>exact⟨rfl,λh=>fG h⟩
 |_+20,t1,_=>cases t1
theorem vO(h:answers_asked l=true):∃cs,PyFlat.calls shape l.length l=some cs/\cs.length<=400/\A8 cs/\answers l=gJ cs:=by
 unfold answers_asked at h;unfold answers;unfold PyVbptaj.calls at h⊢;cases hc:PyFlat.calls shape l.length l with
 |none=>rw[hc]at h;cases h
 |some cs=>
  rw[hc]at h;have gd:=o9 hc;have ew:cs.map PyVbptaj.whole=cs:=by
   conv=>rhs;rw[<-map_id cs]
   apply J9;intro cl m;obtain⟨n,ws,rows,rfl,hs⟩:=gd cl m;exact(pc hs).1
  dsimp only at h⊢;rw[ew]at h⊢;rw[Hq]at h;obtain⟨h1,h2⟩:=h;unfold asked at h2;rw[Hq,Hq]at h2;refine⟨cs,rfl,Hb h1,λcl m=>?_,rfl⟩;obtain⟨n,ws,rows,rfl,hs⟩:=gd cl m;have PP:=(pc hs).2 (Ij.mp h2.2.2 _ m);obtain⟨i,rfl,_,xs,ys,t1,t2,t3,t4⟩:=kN hs;exact⟨i,xs,ys,ws,rows,rfl,⟨t1,t3,t2.symm,t4.symm,PP⟩⟩
end Wh
namespace Wh
open PySem PySem.Spec PyProof.Rows L2
open PySem.W
theorem Dz(w:World)(s:Shared):topRun treeTable pwp w 11 nj 2 s ⟨doneF .next,cdE,pEn,[topFrame p00]⟩=some s:=by cases s;rfl
theorem C7(w:World)(os:OsState):topGo treeTable pwp w 11 nj 12 ⟨boot_heap w.params,Array.mk [],boot_drawn,boot_toks,os⟩ (topStub pwp)=some ((sB w os).abs,⟨denote treeTable cdE,cdE,p00,[topFrame p00]⟩):=by kernel_rfl
theorem DK(w:World)(os:OsState):segRun treeTable pwp w 11 nj 1 1 (sB w os).abs (blockOf bdy pB cdE p00 [topFrame p00])=some (.next,(sB w os).abs,cdE,p00):=by kernel_rfl
theorem size_eq(w:World):((boot_heap w.params).isNs mainGlobals&&(Array.mk []:Array GenState).size==0,(boot_heap w.params).objs.size,(boot_heap w.params).nsMap mainGlobals "__annotations__")=(true,11,nj):=by kernel_rfl
theorem sx{N:Nat}{l:List Stmt}{p p':Pos}{w:World}{s s':SharedT}(h:fN N l p w s=some (.next,s',cdE,p')):segRun treeTable pwp w 11 nj 1 N s.abs (piecesOf l pB cdE p [topFrame p00])=some (.next,s'.abs,cdE,p'):=by unfold fN at h;rw[<-Fast.te10110043849684766642,<-Fast.te14364793385576792824]at h;exact segRun_of h
theorem r1(w:World)(os:OsState):fN 2020 bd1 p00 w (sB w os)=some (.next,s1T w os,cdE,p44):=
 byRow2 e9 (P:=λw=>∀os,fN 2020 bd1 p00 w (sB w os)=some (.next,s1T w os,cdE,p44)) Ao BS w os
theorem r2(w:World)(os:OsState):fN 386 bd2 p44 w (s1T w os)=some (.next,s2T w os,cdE,p59):=
 byRow2 e9 (P:=λw=>∀os,fN 386 bd2 p44 w (s1T w os)=some (.next,s2T w os,cdE,p59)) An BR w os
theorem DM:bdy=bd1++(bd2++(bd3++[])):=by unfold bd1 bd2 bd3;rw[IU,show bdy.drop 60=(bdy.drop 45).drop 15 by rw[Li],JA,JA]
theorem Ba(w:World)(os:OsState)(k3:fN 2300 bd3 p59 w (s2T w os)=some (.next,s3T w os,cdE,pEn)):topRun treeTable pwp w 11 nj (12+(1+(2020+(386+(2300+2))))) ⟨boot_heap w.params,Array.mk [],boot_drawn,boot_toks,os⟩ (topStub pwp)=some (s3T w os).abs:=by
 refine go_top (C7 w os) (piece_block (DK w os) ?_)
 conv=>lhs;rw[show restOf bdy pB cdE p00 [topFrame p00]=restOf (bd1++(bd2++(bd3++[]))) pB cdE p00 [topFrame p00] by rw[<-DM]]
 exact piece_app (sx (r1 w os)) (piece_app (sx (r2 w os)) (piece_app (sx k3) (piece_nil (Dz w _))))
theorem yS{p q:Program}{loose:List Str}{Xt:Shared->Bool}{α:Type}{Yf:Shared->α}{Ya:World->α}{N:Nat}{H₀:Params->Heap}{gs₀:Array GenState}{d₀:Drawn}{k₀ m₀:Nat}{ann:Option Value}{M:Nat} (open_:∀w:World,(fencedOpening treeTable p w N).map (λs=>(s.heap,s.gens,s.drawn,s.toks))=some (H₀ w.params,gs₀,d₀,k₀))(size:∀w:World,((H₀ w.params).isNs mainGlobals&&gs₀.size==0,(H₀ w.params).objs.size,(H₀ w.params).nsMap mainGlobals "__annotations__")=(true,m₀,ann))(run:∀(w:World)(os:OsState),∃s₁,topRun treeTable p w m₀ ann M ⟨H₀ w.params,gs₀,d₀,k₀,os⟩ (topStub p)=some s₁/\(staticsOk (importedModules p.main.body) (H₀ w.params) s₁.heap&&namesBound p s₁.heap&&gensDone s₁&&laidKept (H₀ w.params) s₁.heap)=true/\openSeen q loose (importedModules p.main.body) Xt true s₁=openGood q loose/\Yf s₁=Ya w)(le:Nat.ble M N=true):LeftO p q loose Xt Yf Ya N:=λw=>by
 obtain⟨⟨h,gs,d,k,os⟩,e,e'⟩:=IQ.mp (open_ w);obtain⟨rfl,rfl,rfl,rfl⟩:h=H₀ w.params/\gs=gs₀/\d=d₀/\k=k₀:=by simpa using e'
 obtain⟨z1,z2,z3⟩:_/\_/\_:=by simpa only[Prod.mk.injEq]using size w
 obtain⟨s₁,r,l1,l2,l3⟩:=run w os;have r:=topRun_mono (N-M) _ _ _ _ r;rw[show M+(N-M)=N by have:=JJ le;omega]at r;have t:topFrom treeTable p w N ⟨H₀ w.params,gs,d,k,os⟩=some s₁:=by unfold topFrom;dsimp only;rw[z1,z2,z3,r];show(match staticsOk (importedModules p.main.body) (H₀ w.params) s₁.heap&&namesBound p s₁.heap&&gensDone s₁&&laidKept (H₀ w.params) s₁.heap with|true=>_|false=>_)=_;rw[l1]
 unfold openEnds;rw[e];show(topFrom treeTable p w N _).map _=_;rw[t];exact HU some (Prod.ext l2 l3)
end Wh
namespace Wh
open PySem PySem.Spec PyProof.Rows L2
open PySem.W (Frag nsIn findIn codeIn keepIn isFn makesIn plainGet hasDictIn plainOver fnOf mg_of mg_none_of BT SharedT absHeap)
open PySem.W.Fast (sEq sEq_iff)
section
variable{w:World}{P:Program}{K:Frag}{h:Heap}{mg:Str->Option Value}{f:Gt}
theorem AY(a b:Str):(a==b)=sEq a b:=by rw[HD,IX,sEq_iff]
theorem BX(v:Value)(x:Str):v.isStr x=kEq v x:=by cases v<;>first|rfl|exact AY _ _
theorem oq(K:Frag)(x:Str):nsIn K mainGlobals x=nsG (λa=>K.lookup a) x:=by
 have e:(λ(q:DictEntry)=>q.key.isStr x)=λq=>kEq q.key x:=funext λq=>BX _ _;unfold nsIn nsG;dsimp only;rcases K.lookup mainGlobals with _|⟨c,d,dt,sl⟩
 .rfl
 .cases dt<;>first|rfl|(dsimp only;rw[e];rfl)
theorem ud(K:Frag)(cd:Value)(x:Str):codeIn K cd x=cdG (λa=>K.lookup a) cd x:=by
 unfold codeIn cdG;cases cd<;>first|rfl|skip
 rename_i c;dsimp only;rcases K.lookup c with _|⟨cl,d,dt,sl⟩
 .rfl
 .cases dt<;>first|rfl|skip
  rename_i vs;dsimp only
  match vs.toList with
  |[]=>rfl
  |[_]=>rfl
  |_::v::_=>cases v<;>first|rfl|exact AY _ _
theorem j3{f:Gt}(a:Addr):∀l:List Nat,(a∈l\/f a=none)->(l.filterMap λa=>(f a).map λo=>(a,o)).lookup a=f a
 |[],h=>by
  rcases h with h|h
  .cases h
  .rw[h];rfl
 |b::l,h=>by
  rw[Jv];cases e:f b with
  |none=>
   dsimp only[map];refine j3 a l ?_;rcases h with h|h
   .rcases Hi.mp h with rfl|h
    .exact .inr e
    .exact .inl h
   .exact .inr h
  |some o=>
   dsimp only[map];rw[JF];by_cases q:a=b
   .rw[q,beq_self_eq_true,e]
   .rw[Ia.mpr q];refine j3 a l ?_;rcases h with h|h
    .rcases Hi.mp h with h|h
     .exact absurd h q
     .exact .inl h
    .exact .inr h
def frH(h:Heap):Frag:=frg h.objs.size h.get?
theorem B2{h:Heap}{a:Addr}(q:h.objs.size<=a):h.get? a=none:=by unfold Heap.get?;rw[Array.getElem?_eq_none q]
theorem tY(h:Heap):(λa=>(frH h).lookup a)=h.get?:=by
 funext a;unfold frH frg;refine j3 a _ ?_;by_cases q:a<h.objs.size
 .exact .inl (J5.mpr q)
 .exact .inr (B2 (Nat.le_of_not_lt q))
theorem Dy(h:Heap):(frH h).In h:=λa o e=>by rw[<-congrFun (tY h) a];exact e
theorem B4(s:SharedT):s.abs.heap.get?=gtT s:=by
 funext a;unfold gtT Heap.get?;show(match(absHeap s.tree s.n s.life).objs[a]? with|some ⟨_,_,.freed,_⟩=>none|o=>o)=_;rw[PySem.W.absHeap_at];by_cases q:a<s.n
 .rw[Hc q,show Nat.blt a s.n=true from Nat.ble_eq_true_of_le q]
  all_goals first
   |rfl
   |(dsimp only;generalize(s.tree.get a).getD default=o;obtain⟨c,d,dt,sl⟩:=o;cases dt<;>rfl)
 .rw[G9 q];cases e:Nat.blt a s.n with
  |false=>rfl
  |true=>exact absurd (JJ e) q
def dZ(w:World)(K:Frag):Prop:=oF (λa=>K.lookup a)=eF/\oC (λa=>K.lookup a) K=eC/\oA (λa=>K.lookup a)=eA w
def YPF(w:World)(h:Heap):Prop:=∃K:Frag,K.In h/\dZ w K
theorem bF{α β:Type}{a b:α->β}{l:List α}(h:l.map a=l.map b):∀x∈l,a x=b x:=List.map_inj_left.mp h
theorem DQ{x:Str}(h:ez f x=true):nsG f x=some (some (.ref (adr f x))):=by
 unfold ez at h;unfold adr;cases e:nsG f x with
 |none=>rw[e]at h;cases h
 |some v=>
  cases v with
  |none=>rw[e]at h;cases h
  |some u=>cases u<;>first|rfl|(rw[e]at h;cases h)
theorem jF{x:Str}(X:K.In h)(G:h.Ns mainGlobals mg)(e:ez (λa=>K.lookup a) x=true):mg x=some (.ref (adr (λa=>K.lookup a) x)):=mg_of X G ((oq K x).trans (DQ e))
theorem tI{a:Addr}{x L0:Str}{st:Stmt}(h:obF f a L0=some (shX x L0 st,true)):∃(oc:Value)(od:Option Addr)(kV L8 pm:Value)(an:Option Addr)(L1 ct:Value)(NY:Array (Option Value)),f a=some ⟨oc,od,.func (fnOf x L0 (cf st) (bI st) (aE st) .none kV L8 pm an L1 ct),NY⟩/\cdG f L1 L0=true:=by
 unfold obF at h;rcases e:f a with _|⟨oc,od,dt,sl⟩
 .rw[e]at h;cases h
 .rw[e]at h;cases dt<;>first|cases h|skip
  rename_i fd;have h:=Hg h;obtain⟨h1,h2⟩:=Kp h;obtain⟨n,qn,pa,bo,sc,gl,clo,df,kd,L8,pm,an,cd,ct,bl⟩:=fd;unfold shF shX at h1;simp only[Prod.mk.injEq]at h1;obtain⟨rfl,rfl,rfl,rfl,rfl,rfl,rfl,rfl,rfl⟩:=h1;exact⟨_,_,_,_,_,_,_,_,_,rfl,h2⟩
theorem wn{a:Addr}{oc:Value}{od:Option Addr}{fd:FuncData}{NY:Array (Option Value)}(l:K.lookup a=some ⟨oc,od,.func fd,NY⟩):keepIn K (.ref a)=true:=by unfold keepIn;dsimp only;rw[l]
theorem l_{x:Str}{i:Nat}{ps:List Str}(X:K.In h)(G:h.Ns mainGlobals mg)(F:dZ w K)(m:(x,i)∈fnL)(b:∀(kV L8 pm:Value)(an:Option Addr)(L1 ct:Value)(us:List Value),us.length=ps.length->bindArgs (fnOf x x (cf (top i)) (bI (top i)) (aE (top i)) .none kV L8 pm an L1 ct) ⟨us,[]⟩=pure (ps.zip us)):aJ K mg x (top i) ps:=by have e:=bF F.1 _ m;obtain⟨e1,e2⟩:=Kp e;obtain⟨oc,od,kV,L8,pm,an,L1,ct,NY,l,c⟩:=tI e2;exact⟨_,_,yg l ((ud K L1 x).trans c) (wn l),jF X G e1,dJ.all (b kV L8 pm an L1 ct)⟩
theorem oE{x L0:Str}{i:Nat}{ps L4:List Str}(X:K.In h)(G:h.Ns mainGlobals mg)(F:dZ w K)(m:(x,L0,i,L4)∈clL)(b:∀(kV L8 pm:Value)(an:Option Addr)(L1 ct:Value)(us:List Value),us.length=ps.length->bindArgs (fnOf "__init__" L0 (cf (bj (top i) 0)) (bI (bj (top i) 0)) (aE (bj (top i) 0)) .none kV L8 pm an L1 ct) ⟨us,[]⟩=pure (ps.zip us)):dq K mg x L0 (bj (top i) 0) ps L4 (adr (λa=>K.lookup a) x):=by
 have e:=bF F.2.1 _ m;obtain⟨e1,e2⟩:=Kp e;dsimp only at e2;unfold obC at e2;rcases q:findIn K (.ref (adr (λa=>K.lookup a) x)) "__init__"with _|_|v
 .rw[q]at e2;cases e2
 .rw[q]at e2;cases e2
 .rw[q]at e2;cases v<;>first|cases e2|skip
  rename_i a;have e2:=Hg e2;simp only[Prod.mk.injEq]at e2;obtain⟨h1,h2,h3,h4,h5,h6,h7,h8,h9⟩:=e2;obtain⟨oc,od,kV,L8,pm,an,L1,ct,NY,l,c⟩:=tI h1;exact⟨⟨h5,h6,h7,h8⟩,λa m=>bF h9 a m,jF X G e1,a,_,⟨h3,q,h2,h4⟩,yg l ((ud K L1 L0).trans c) (wn l),dJ.all (b kV L8 pm an L1 ct)⟩
theorem np:∀{xs:List V}{us:List Value},us.map pF=xs.map some->aC xs us
 |[],[],_=>.nil
 |[],_::_,h=>by cases h
 |_::_,[],h=>by cases h
 |x::xs,u::us,h=>by rw[Hf,Hf,Kg]at h;refine .cons ?_ (np h.2);have h1:=h.1;cases u<;>first|(cases h1;exact rfl)|(cases h1;exact⟨_,rfl⟩)|cases h1
theorem wT{a:Addr}{xs:List V}(h:obT (λa=>K.lookup a) a=exT xs):KT K a xs:=by
 unfold obT exT at h;dsimp only at h;rcases e:K.lookup a with _|⟨c,d,dt,sl⟩
 .rw[e]at h;cases h
 .rw[e]at h;cases dt<;>first|cases h|skip
  rename_i us n;have h:=Hg h;simp only[Prod.mk.injEq]at h;obtain⟨rfl,h2,h3⟩:=h;exact λH=>.inr ⟨_,_,_,e,rfl,rfl,by rw[HR]at h2;exact Hv (JJ h2) (by decide),np h3⟩
theorem s_:∀{us:List Value},us.all wL=true->us.map pF=((us.map wJ).map V.ref).map some
 |[],_=>rfl
 |u::us,h=>by rw[Ji,Hq]at h;rw[Hf,Hf,Hf,Hf,s_ h.2];have h1:=h.1;cases u<;>first|rfl|cases h1
theorem ya{a:Addr}(h:obR (λa=>K.lookup a) a=exR):KT K a ((rfs (λa=>K.lookup a) a).map V.ref):=by
 unfold obR exR at h;unfold rfs;dsimp only at h⊢;rcases e:K.lookup a with _|⟨c,d,dt,sl⟩
 .rw[e]at h;cases h
 .rw[e]at h;cases dt<;>first|cases h|skip
  rename_i us n;have h:=Hg h;simp only[Prod.mk.injEq]at h;obtain⟨rfl,h2,h3⟩:=h;exact λH=>.inr ⟨_,_,_,e,rfl,rfl,by rw[HR]at h2;exact Hv (JJ h2) (by decide),np (s_ h3)⟩
theorem oU{α β γ:Type}{R:α->β->Prop}{g:α->γ}{k:β->γ}(q:∀a b,g a=k b->R a b):∀{l:List α}{m:List β},l.map g=m.map k->Paired R l m
 |[],[],_=>.nil
 |[],_::_,h=>by cases h
 |_::_,[],h=>by cases h
 |a::l,b::m,h=>by rw[Hf,Hf,Kg]at h;exact .cons (q a b h.1) (oU q h.2)
theorem AW{x:Str}{tab:List (List Str)}(X:K.In h)(G:h.Ns mainGlobals mg)(e1:ez (λa=>K.lookup a) x=true)(e2:obR (λa=>K.lookup a) (adr (λa=>K.lookup a) x)=exR)(e3:(rfs (λa=>K.lookup a) (adr (λa=>K.lookup a) x)).map (obT (λa=>K.lookup a))=tab.map λxs=>exT (xs.map V.str)):∃a,mg x=some (.ref a)/\n9 K a tab:=
 ⟨_,jF X G e1,_,ya e2,oU (R:=λb(xs:List Str)=>KT K b (xs.map V.str)) (g:=obT (λa=>K.lookup a)) (k:=λ(xs:List Str)=>exT (xs.map V.str)) (λ_ _ e=>wT e) e3⟩
inductive jk(w:World):List DictEntry->List (Str×Addr)->Prop
 |nil:jk w [] []
 |cons {x:Str} {t:Tok} {b:Addr} {es:List DictEntry} {bs:List (Str×Addr)}:jk w es bs->jk w (⟨PyData.keyHash w.params x,.str x t,.ref b⟩::es) ((x,b)::bs)
theorem xI{es:List DictEntry}{bs:List (Str×Addr)}(h:jk w es bs):(∀e∈es,∃k,(ba P w).is k e.key=true/\e.hash=(ba P w).hash k)/\∃vs,Pairs (ba P w) es vs/\vs.map (·.1)=bs.map (λp=>(Sum.inr p.1:Key))/\KV ((bs.map λp=>(p.1,V.ref p.2)).map λkv=>((Sum.inr kv.1:Key),kv.2)) vs:=by
 induction h with
 |nil=>exact⟨λe m=>(by cases m),[],.nil,rfl,.nil⟩
 |@cons x t b es bs _ ih=>
  obtain⟨h1,vs,h2,h3,h4⟩:=ih;have hi:(ba P w).is (Sum.inr x:Key) (.str x t)=true:=by show Value.isStrOf x (.str x t)=true;simp[Value.isStrOf]
  refine⟨λe m=>?_,(Sum.inr x,.ref b)::vs,.cons hi rfl h2,?_,.cons ⟨rfl,rfl⟩ h4⟩
  .rcases Hi.mp m with rfl|m
   .exact⟨Sum.inr x,hi,rfl⟩
   .exact h1 e m
  .rw[Hf,h3];rfl
theorem DD{a:Addr}{es:Array DictEntry}{ep:Nat}{bs:List (Str×Addr)}(l:K.lookup a=some ⟨.type "dict",none,.dict es ep, #[]⟩)(e:jk w es.toList bs)(s:(a==sysModules)=false)(nd:(bs.map (·.1)).Nodup):DkT P w K a (bs.map λp=>(p.1,V.ref p.2)):=by
 obtain⟨h1,vs,h2,h3,h4⟩:=xI (P:=P) e;refine⟨s,_,_,_,vs,l,⟨rfl,rfl,rfl⟩,rfl,λe m=>h1 e (by simpa using m),h2,?_,h4⟩;rw[h3];have:(bs.map λp=>(Sum.inr p.1:Key))=(bs.map (·.1)).map Sum.inr:=by rw[HM];rfl
 rw[this];exact Pairwise.map _ (λ_ _ n z=>n (Sum.inr.inj z)) nd
theorem wy:∀{es:List DictEntry}{tab:List (Str×List Int)},(es.map λe=>(e.hash,pF e.key,wL e.val))=(tab.map λp=>(PyData.keyHash w.params p.1,some (V.str p.1),true))->jk w es ((tab.zip (es.map λe=>wJ e.val)).map λp=>(p.1.1,p.2))
 |[],[],_=>.nil
 |[],_::_,h=>by cases h
 |_::_,[],h=>by cases h
 |⟨hs,k,v⟩::es,p::tab,h=>by
  rw[Hf,Hf,Kg,Prod.mk.injEq,Prod.mk.injEq]at h;obtain⟨⟨h1,h2,h3⟩,h4⟩:=h;dsimp only at h1 h2 h3;have ih:=wy h4;subst h1;cases v<;>first|cases h3|skip
  cases k<;>first|cases h2|skip
  exact .cons ih
theorem qg{γ:Type}{α:Type}:∀{tab:List (Str×α)}{l:List γ},l.length=tab.length->((tab.zip l).map λp=>(p.1.1,p.2)).map (·.1)=tab.map (·.1)
 |[],[],_=>rfl
 |[],_::_,h=>by cases h
 |_::_,[],h=>by cases h
 |p::tab,a::l,h=>by rw[IJ,Hf,Hf,Hf,qg (Nat.succ.inj h)]
theorem oH{K:Frag}:∀{tab:List (Str×List Int)}{l:List Addr},l.map (obT (λa=>K.lookup a))=(tab.map λp=>exT (p.2.map V.int))->Paired (λp e=>p.1=e.1/\KT K p.2 (e.2.map V.int)) ((tab.zip l).map λp=>(p.1.1,p.2)) tab
 |[],[],_=>.nil
 |[],_::_,h=>by cases h
 |_::_,[],h=>by cases h
 |p::tab,a::l,h=>by rw[Hf,Hf,Kg]at h;exact .cons ⟨rfl,wT h.1⟩ (oH h.2)
theorem A5{x:Str}{tab:List (Str×List Int)}(X:K.In h)(G:h.Ns mainGlobals mg)(e1:ez (λa=>K.lookup a) x=true)(e2:obD (λa=>K.lookup a) (adr (λa=>K.lookup a) x)=some (Value.type "dict",(none:Option Addr),(#[]:Array (Option Value)),tab.map λp=>(PyData.keyHash w.params p.1,some (V.str p.1),true)))(e3:(drf (λa=>K.lookup a) (adr (λa=>K.lookup a) x)).map (obT (λa=>K.lookup a))=tab.map λp=>exT (p.2.map V.int)) (e4:(adr (λa=>K.lookup a) x==sysModules)=false) (nd:(tab.map (·.1)).Nodup):∃a,mg x=some (.ref a)/\wY P w K a tab:=by
 refine⟨_,jF X G e1,?_⟩;generalize adr (λa=>K.lookup a) x=a at*;unfold obD at e2;unfold drf at e3;dsimp only at e2 e3;rcases e:K.lookup a with _|⟨c,d,dt,sl⟩
 .rw[e]at e2;cases e2
 .rw[e]at e2 e3;cases dt<;>first|cases e2|skip
  rename_i es n;have e2:=Hg e2;simp only[Prod.mk.injEq]at e2;obtain⟨rfl,rfl,rfl,h4⟩:=e2;dsimp only at e3;have hl:=HU length h4;rw[G8,G8]at hl;refine⟨_,DD e (wy h4) e4 ?_,oH e3⟩;rw[qg (by rw[G8];exact hl)];exact nd
theorem mS{α β:Type}{R:β->α->Prop}{g:α->β}:∀{l:List α},(∀a∈l,R (g a) a)->Paired R (l.map g) l
 |[],_=>.nil
 |a::l,h=>.cons (h a (Hk ..)) (mS λb m=>h b (Hh _ m))
theorem A4{x:Str}{xs:List Str}(X:K.In h)(G:h.Ns mainGlobals mg)(e1:ez (λa=>K.lookup a) x=true)(e2:obR (λa=>K.lookup a) (adr (λa=>K.lookup a) x)=exR)(e3:(rfs (λa=>K.lookup a) (adr (λa=>K.lookup a) x)==xs.map (adr (λa=>K.lookup a)))=true) (e4:xs.all (ez (λa=>K.lookup a))=true):∃a bs,mg x=some (.ref a)/\KT K a (bs.map V.ref)/\Paired (λb x=>mg x=some (.ref b)) bs xs:=by refine⟨_,_,jF X G e1,ya e2,?_⟩;rw[eq_of_beq e3];exact mS λx m=>jF X G (Ij.mp e4 x m)
theorem cK{x:Str}{n:Int}(X:K.In h)(G:h.Ns mainGlobals mg)(e:obI (λa=>K.lookup a) x=some n):∃t,mg x=some (.int n t):=by
 unfold obI at e;rcases q:nsG (λa=>K.lookup a) x with _|_|v
 .rw[q]at e;cases e
 .rw[q]at e;cases e
 .rw[q]at e;cases v<;>first|cases e|skip
  rename_i t;exact⟨t,mg_of X G ((oq K x).trans q)⟩
theorem wR{x:Str}{n:Str}(X:K.In h)(G:h.Ns mainGlobals mg)(e:obS (λa=>K.lookup a) x=some n):∃t,mg x=some (.str n t):=by
 unfold obS at e;rcases q:nsG (λa=>K.lookup a) x with _|_|v
 .rw[q]at e;cases e
 .rw[q]at e;cases e
 .rw[q]at e;cases v<;>first|cases e|skip
  rename_i t;exact⟨t,mg_of X G ((oq K x).trans q)⟩
theorem DJ(X:K.In h)(G:h.Ns mainGlobals mg)(e:gw.map (nsG (λa=>K.lookup a))=gw.map λ_=>(some none:Option (Option Value))):Blt mg:=⟨λx m=>mg_none_of X G ((oq K x).trans (bF e x m))⟩
end
end Wh
end
namespace Wh
open PySem PySem.Spec PyProof.Rows L2
open PySem.W (Frag nsIn fnOf)
section
variable{w:World}{P:Program}{K:Frag}{h:Heap}{mg:Str->Option Value}
theorem fa1{x p0:Str}{i:Nat}(X:K.In h)(G:h.Ns mainGlobals mg)(F:dZ w K)(m:(x,i)∈fnL:=by decide +kernel)(b:∀(kV L8 pm:Value)(an:Option Addr)(L1 ct u0:Value),bindArgs (fnOf x x (cf (top i)) (bI (top i)) (aE (top i)) .none kV L8 pm an L1 ct) ⟨[u0],[]⟩=pure ([p0].zip [u0]):=by intros;rfl):aJ K mg x (top i) [p0]:=
 l_ X G F m λkV L8 pm an L1 ct us hl=>match us,hl with|[u0],_=>b kV L8 pm an L1 ct u0
theorem ca1{x L0 p0:Str}{i:Nat}{L4:List Str}(X:K.In h)(G:h.Ns mainGlobals mg)(F:dZ w K)(m:(x,L0,i,L4)∈clL:=by decide +kernel)(b:∀(kV L8 pm:Value)(an:Option Addr)(L1 ct u0:Value),bindArgs (fnOf "__init__" L0 (cf (bj (top i) 0)) (bI (bj (top i) 0)) (aE (bj (top i) 0)) .none kV L8 pm an L1 ct) ⟨[u0],[]⟩=pure ([p0].zip [u0]):=by intros;rfl):dq K mg x L0 (bj (top i) 0) [p0] L4 (adr (λa=>K.lookup a) x):=
 oE X G F m λkV L8 pm an L1 ct us hl=>match us,hl with|[u0],_=>b kV L8 pm an L1 ct u0
theorem fa2{x p0 p1:Str}{i:Nat}(X:K.In h)(G:h.Ns mainGlobals mg)(F:dZ w K)(m:(x,i)∈fnL:=by decide +kernel)(b:∀(kV L8 pm:Value)(an:Option Addr)(L1 ct u0 u1:Value),bindArgs (fnOf x x (cf (top i)) (bI (top i)) (aE (top i)) .none kV L8 pm an L1 ct) ⟨[u0,u1],[]⟩=pure ([p0,p1].zip [u0,u1]):=by intros;rfl):aJ K mg x (top i) [p0,p1]:=
 l_ X G F m λkV L8 pm an L1 ct us hl=>match us,hl with|[u0,u1],_=>b kV L8 pm an L1 ct u0 u1
theorem ca2{x L0 p0 p1:Str}{i:Nat}{L4:List Str}(X:K.In h)(G:h.Ns mainGlobals mg)(F:dZ w K)(m:(x,L0,i,L4)∈clL:=by decide +kernel)(b:∀(kV L8 pm:Value)(an:Option Addr)(L1 ct u0 u1:Value),bindArgs (fnOf "__init__" L0 (cf (bj (top i) 0)) (bI (bj (top i) 0)) (aE (bj (top i) 0)) .none kV L8 pm an L1 ct) ⟨[u0,u1],[]⟩=pure ([p0,p1].zip [u0,u1]):=by intros;rfl):dq K mg x L0 (bj (top i) 0) [p0,p1] L4 (adr (λa=>K.lookup a) x):=
 oE X G F m λkV L8 pm an L1 ct us hl=>match us,hl with|[u0,u1],_=>b kV L8 pm an L1 ct u0 u1
theorem fa3{x p0 p1 p2:Str}{i:Nat}(X:K.In h)(G:h.Ns mainGlobals mg)(F:dZ w K)(m:(x,i)∈fnL:=by decide +kernel)(b:∀(kV L8 pm:Value)(an:Option Addr)(L1 ct u0 u1 u2:Value),bindArgs (fnOf x x (cf (top i)) (bI (top i)) (aE (top i)) .none kV L8 pm an L1 ct) ⟨[u0,u1,u2],[]⟩=pure ([p0,p1,p2].zip [u0,u1,u2]):=by intros;rfl):aJ K mg x (top i) [p0,p1,p2]:=
 l_ X G F m λkV L8 pm an L1 ct us hl=>match us,hl with|[u0,u1,u2],_=>b kV L8 pm an L1 ct u0 u1 u2
theorem fa4{x p0 p1 p2 p3:Str}{i:Nat}(X:K.In h)(G:h.Ns mainGlobals mg)(F:dZ w K)(m:(x,i)∈fnL:=by decide +kernel)(b:∀(kV L8 pm:Value)(an:Option Addr)(L1 ct u0 u1 u2 u3:Value),bindArgs (fnOf x x (cf (top i)) (bI (top i)) (aE (top i)) .none kV L8 pm an L1 ct) ⟨[u0,u1,u2,u3],[]⟩=pure ([p0,p1,p2,p3].zip [u0,u1,u2,u3]):=by intros;rfl):aJ K mg x (top i) [p0,p1,p2,p3]:=
 l_ X G F m λkV L8 pm an L1 ct us hl=>match us,hl with|[u0,u1,u2,u3],_=>b kV L8 pm an L1 ct u0 u1 u2 u3
theorem ca4{x L0 p0 p1 p2 p3:Str}{i:Nat}{L4:List Str}(X:K.In h)(G:h.Ns mainGlobals mg)(F:dZ w K)(m:(x,L0,i,L4)∈clL:=by decide +kernel)(b:∀(kV L8 pm:Value)(an:Option Addr)(L1 ct u0 u1 u2 u3:Value),bindArgs (fnOf "__init__" L0 (cf (bj (top i) 0)) (bI (bj (top i) 0)) (aE (bj (top i) 0)) .none kV L8 pm an L1 ct) ⟨[u0,u1,u2,u3],[]⟩=pure ([p0,p1,p2,p3].zip [u0,u1,u2,u3]):=by intros;rfl):dq K mg x L0 (bj (top i) 0) [p0,p1,p2,p3] L4 (adr (λa=>K.lookup a) x):=
 oE X G F m λkV L8 pm an L1 ct us hl=>match us,hl with|[u0,u1,u2,u3],_=>b kV L8 pm an L1 ct u0 u1 u2 u3
theorem fa5{x p0 p1 p2 p3 p4:Str}{i:Nat}(X:K.In h)(G:h.Ns mainGlobals mg)(F:dZ w K)(m:(x,i)∈fnL:=by decide +kernel)(b:∀(kV L8 pm:Value)(an:Option Addr)(L1 ct u0 u1 u2 u3 u4:Value),bindArgs (fnOf x x (cf (top i)) (bI (top i)) (aE (top i)) .none kV L8 pm an L1 ct) ⟨[u0,u1,u2,u3,u4],[]⟩=pure ([p0,p1,p2,p3,p4].zip [u0,u1,u2,u3,u4]):=by intros;rfl):aJ K mg x (top i) [p0,p1,p2,p3,p4]:=
 l_ X G F m λkV L8 pm an L1 ct us hl=>match us,hl with|[u0,u1,u2,u3,u4],_=>b kV L8 pm an L1 ct u0 u1 u2 u3 u4
theorem ca5{x L0 p0 p1 p2 p3 p4:Str}{i:Nat}{L4:List Str}(X:K.In h)(G:h.Ns mainGlobals mg)(F:dZ w K)(m:(x,L0,i,L4)∈clL:=by decide +kernel)(b:∀(kV L8 pm:Value)(an:Option Addr)(L1 ct u0 u1 u2 u3 u4:Value),bindArgs (fnOf "__init__" L0 (cf (bj (top i) 0)) (bI (bj (top i) 0)) (aE (bj (top i) 0)) .none kV L8 pm an L1 ct) ⟨[u0,u1,u2,u3,u4],[]⟩=pure ([p0,p1,p2,p3,p4].zip [u0,u1,u2,u3,u4]):=by intros;rfl):dq K mg x L0 (bj (top i) 0) [p0,p1,p2,p3,p4] L4 (adr (λa=>K.lookup a) x):=
 oE X G F m λkV L8 pm an L1 ct us hl=>match us,hl with|[u0,u1,u2,u3,u4],_=>b kV L8 pm an L1 ct u0 u1 u2 u3 u4
theorem fa6{x p0 p1 p2 p3 p4 p5:Str}{i:Nat}(X:K.In h)(G:h.Ns mainGlobals mg)(F:dZ w K)(m:(x,i)∈fnL:=by decide +kernel)(b:∀(kV L8 pm:Value)(an:Option Addr)(L1 ct u0 u1 u2 u3 u4 u5:Value),bindArgs (fnOf x x (cf (top i)) (bI (top i)) (aE (top i)) .none kV L8 pm an L1 ct) ⟨[u0,u1,u2,u3,u4,u5],[]⟩=pure ([p0,p1,p2,p3,p4,p5].zip [u0,u1,u2,u3,u4,u5]):=by intros;rfl):aJ K mg x (top i) [p0,p1,p2,p3,p4,p5]:=
 l_ X G F m λkV L8 pm an L1 ct us hl=>match us,hl with|[u0,u1,u2,u3,u4,u5],_=>b kV L8 pm an L1 ct u0 u1 u2 u3 u4 u5
theorem CP(X:K.In h)(G:h.Ns mainGlobals mg)(F:dZ w K):Txt P w K mg ⟨adr (λa=>K.lookup a) "Call",adr (λa=>K.lookup a) "Right",adr (λa=>K.lookup a) "Deed",adr (λa=>K.lookup a) "Ledger",adr (λa=>K.lookup a) "Lock",adr (λa=>K.lookup a) "Cell"⟩:=by
 have e:=F.2.2;unfold oA eA at e;simp only[Prod.mk.injEq]at e;obtain⟨h0,h1,h2,h3,h4,h5,h6,h7,h8,h9,h10,h11,h12,h13,h14,h15,h16,h17,h18,h19,h20,h21,h22,h23,h24,h25,h26⟩:=e;exact Txt.mk
  (DJ X G h2)
  (ca5 X G F)
  (ca5 X G F)
  (ca5 X G F)
  (ca1 X G F)
  (ca4 X G F)
  (ca2 X G F)
  (fa2 X G F)
  (fa1 X G F)
  (fa2 X G F)
  (fa2 X G F)
  (fa2 X G F)
  (fa2 X G F)
  (fa1 X G F)
  (fa1 X G F)
  (fa1 X G F)
  (fa3 X G F)
  (fa4 X G F)
  (fa1 X G F)
  (fa1 X G F)
  (fa2 X G F)
  (fa2 X G F)
  (fa3 X G F)
  (fa2 X G F)
  (fa1 X G F)
  (fa2 X G F)
  (fa5 X G F)
  (fa5 X G F)
  (fa2 X G F)
  (fa1 X G F)
  (fa2 X G F)
  (fa2 X G F)
  (fa1 X G F)
  (fa2 X G F)
  (fa3 X G F)
  (fa3 X G F)
  (fa2 X G F)
  (fa2 X G F)
  (fa2 X G F)
  (fa2 X G F)
  (fa2 X G F)
  (fa2 X G F)
  (fa3 X G F)
  (fa3 X G F)
  (fa2 X G F)
  (fa2 X G F)
  (fa2 X G F)
  (fa2 X G F)
  (fa2 X G F)
  (fa2 X G F)
  (fa2 X G F)
  (fa2 X G F)
  (fa2 X G F)
  (fa2 X G F)
  (fa3 X G F)
  (fa4 X G F)
  (fa2 X G F)
  (fa2 X G F)
  (fa2 X G F)
  (fa2 X G F)
  (fa5 X G F)
  (fa2 X G F)
  (fa2 X G F)
  (fa2 X G F)
  (fa1 X G F)
  (fa4 X G F)
  (fa3 X G F)
  (fa3 X G F)
  (fa4 X G F)
  (fa6 X G F)
  (fa2 X G F)
  (fa2 X G F)
  (fa3 X G F)
  (fa5 X G F)
  (fa2 X G F)
  (fa2 X G F)
  (fa2 X G F)
  (fa2 X G F)
  (fa3 X G F)
  (fa2 X G F)
  (fa2 X G F)
  (fa2 X G F)
  (fa2 X G F)
  (fa2 X G F)
  (fa2 X G F)
  (fa2 X G F)
  (fa2 X G F)
  (fa2 X G F)
  (fa2 X G F)
  (fa1 X G F)
  (AW X G h3 h4 h5)
  (AW X G h6 h7 h8)
  (cK X G (bF h0 (_,_) (by decide +kernel)))
  (cK X G (bF h0 (_,_) (by decide +kernel)))
  (cK X G (bF h0 (_,_) (by decide +kernel)))
  (cK X G (bF h0 (_,_) (by decide +kernel)))
  (cK X G (bF h0 (_,_) (by decide +kernel)))
  (cK X G (bF h0 (_,_) (by decide +kernel)))
  ⟨_,jF X G h17,wT h18⟩
  (cK X G (bF h0 (_,_) (by decide +kernel)))
  (cK X G (bF h0 (_,_) (by decide +kernel)))
  (cK X G (bF h0 (_,_) (by decide +kernel)))
  (cK X G (bF h0 (_,_) (by decide +kernel)))
  (cK X G (bF h0 (_,_) (by decide +kernel)))
  (cK X G (bF h0 (_,_) (by decide +kernel)))
  (A5 X G h9 h10 h11 h12 (by decide +kernel))
  (cK X G (bF h0 (_,_) (by decide +kernel)))
  (cK X G (bF h0 (_,_) (by decide +kernel)))
  (cK X G (bF h0 (_,_) (by decide +kernel)))
  (cK X G (bF h0 (_,_) (by decide +kernel)))
  (cK X G (bF h0 (_,_) (by decide +kernel)))
  (cK X G (bF h0 (_,_) (by decide +kernel)))
  (A5 X G h13 h14 h15 h16 (by decide +kernel))
  (cK X G (bF h0 (_,_) (by decide +kernel)))
  (cK X G (bF h0 (_,_) (by decide +kernel)))
  (A4 X G h19 h20 h21 h22)
  (wR X G (bF h1 (_,_) (by decide +kernel)))
  (wR X G (bF h1 (_,_) (by decide +kernel)))
  (wR X G (bF h1 (_,_) (by decide +kernel)))
  (cK X G (bF h0 (_,_) (by decide +kernel)))
  (A4 X G h23 h24 h25 h26)
end
open PySem.W
noncomputable def YfF(s:Shared):=(oF s.heap.get?,oC s.heap.get? (frH s.heap),oA s.heap.get?)
theorem D_(w:World)(s:Shared)(e:YfF s=(eF,eC,eA w)):YPF w s.heap:=by unfold YfF at e;simp only[Prod.mk.injEq]at e;refine⟨frH s.heap,Dy _,?_⟩;unfold dZ;rw[tY];exact e
theorem CM{w:World}{s:SharedT}(h6:oF (gtT s)=eF)(h7:oC (gtT s) (frg 723 (gtT s))=eC)(h8:s.n=723)(h9:oA (gtT s)=eA w):YfF s.abs=(eF,eC,eA w):=by have e:s.abs.heap.objs.size=723:=(absHeap_size _ _ _).trans h8;unfold YfF frH;rw[B4,h6,h9,e,h7]
theorem BQ{α β γ δ ε:Type}{a a':α}{b b':β}{c c':γ}{d d':δ}{e e':ε}(h:(a,b,c,d,e)=(a',b',c',d',e')):a=a'/\b=b'/\c=c'/\d=d'/\e=e':=by simpa only[Prod.mk.injEq]using h
theorem Am:LeftO pwp qq loL XtF YfF (λw=>(eF,eC,eA w)) 9502:=by refine yS (M:=12+(1+(2020+(386+(2300+2))))) (boot_open (p:=pwp) (by kernel_rfl) (by rfl) (λs=>by kernel_rfl)) size_eq (λw os=>?_) (by rfl);obtain⟨k3,k4,k6,k8,k9⟩:=BQ (kA w os);obtain⟨k5,k7⟩:=Kp (kB w os);rw[<-Fast.te4187177175401517315]at k5;exact⟨_,Ba w os k3,k4,k5,CM k6 k7 k8 k9⟩
theorem w6{r:OpenSpec}{k:Nat}{q:Program}{loose:List Str}{XP:(Str->Option Value)->Heap->Prop}{YP:World->Heap->Prop}{d:DefRec}{CX:CXT}{ps:List Str}{sp:LS->Sp} (hwell:r.wellSaid=true) (L3:r.args.length=ps.length) (hr:bC k callerA)(F:∀(w:World)(mg:Str->Option Value)(fa:Addr)(h:Heap),YP w h->h.Ns mainGlobals mg->mg d.name=some (.ref fa)->∃(K:LS)(fd:FuncData),K.In h/\(∀(s:Shared)(us:List Value),us.length=ps.length->BindsTo s fd ⟨us,[]⟩ (ps.zip us))/\ ∀base:Heap,K.In base->base.Ns mainGlobals mg->dE r.prog w K mg base CX k fa fd ps (sp K))(Ox:∀(K:LS)(H:Hp)(xs:List V)(a:Codec.denoteAll r.args),sh H->Codec.withinAll r.args a=true->Codec.app r.args r.asked a=true->DwAll K H xs (Codec.encAll r.args a)->sp K xs H (λv H'=>Dw K H' v (r.ret.enc (Codec.app r.args r.f a))) λ_ _ _=>False)(hCX:∀(H:Hp)(s:Shared)(e:Value)(s':Shared),CX [] H s (λ_ _ _=>False) e s'->False):WalkOS q loose XP YP r d [] (λf vs=>PySem.call f vs):=by
 intro w s_0 s₁ mg mb G Y fa o pm cd L8 dV kV ho hd hcd hD hmg hg args L5 as hpre hlay hrd hwl hlo;obtain⟨a,e1,e2⟩:=PySem.W.os_pre_some hpre;obtain⟨e3,Pg⟩:=Codec.encAll_of_decAll r.args args a e1;subst e3;obtain⟨K,fd,KX,hb,hF⟩:=F w mg fa _ Y G.T.g hmg
 refine PySem.W.enter_call (Jb (yC (R:=[]) (cl:=classAt s_0.heap) (d0:=r.ret.enc (Codec.app r.args r.f a)) KX G.T.g G.T.b G.T.builtins G.T.nolimit hg hwl (qB _ _) (qc hlay) hr hF hb (by rw[o0];exact L3)
  (λH xs hO hS=>Ox K H xs a hO Pg e2 hS) λH e s'=>hCX H s₁ e s') λr' s' hq=>?_)
 obtain⟨u,as',rfl,h1,h2,h3,h4⟩:=hq;exact⟨.inl ⟨u,_,as',rfl,λ_=>rfl,h1,(OpenSpec.post_iff hwell Pg _ _).mpr rfl,λz=>noConfusion (show false=true from z)⟩,h2,h3,h4⟩
end Wh
open PySem PySem.W PyProof.Rows
set_option maxRecDepth 100000 in
set_option maxHeartbeats 0 in
theorem PySem.Challenge.cw_whohaswhat_s01_answers_holds : PySem.Challenge.rw_whohaswhat_s01_answers.Holds := by
 have said:PySem.Challenge.rw_whohaswhat_s01_answers.wellSaid=true:=by decide +kernel
 refine holds_os (r:=PySem.Challenge.rw_whohaswhat_s01_answers) (q:=Wh.qq) (loose:=Wh.loL) (Xt:=Wh.XtF) (XP:=XL Wh.qq []) (Yf:=Wh.YfF) (Ya:=λw=>(Wh.eF,Wh.eC,Wh.eA w)) (YP:=Wh.YPF) (N:=9502) Wh.Am Wh.D_
  (λw h h' y k=>let⟨K,a,b⟩:=y;⟨K,a.keeps k,b⟩) (λs e=>xl_of s (Ir.mp e).1) XL.keeps (by rfl) (by rfl) (by rfl) (λs e=>recFacts_of (Ir.mp e).2) os_shapes said (by decide +kernel) ⟨rfl,rfl,rfl,rfl,rfl,by decide +kernel⟩ ⟨[.list [.int 16]],by decide +kernel,by decide +kernel⟩ ?_
 refine Wh.w6 (r:=PySem.Challenge.rw_whohaswhat_s01_answers) (k:=11) (CX:=L2.CX0) (ps:=["calls"]) (sp:=Wh.jU) said rfl ⟨rfl,by decide,by decide⟩ (λw mg fa h Y G hmg=>?_) (λK H xs a hO Pg Mv hx=>?_) (λ_ _ _ _ z=>z)
 .obtain⟨K,KX,F⟩:=Y;obtain⟨fd,e1,e2⟩:=Wh.DO (P:=PySem.Challenge.pw_whohaswhat_s01_answers) (w:=w) hmg (Wh.CP KX G F);exact⟨K,fd,KX,e1,e2⟩
 .cases hx with
  |cons h1 h2=>
   cases h2;cases h1 with
   |lst hs ha=>have e:=L2.wo a.1 _ ha;subst e;have q:((Codec.inLen 0 16000 a.1&&a.1.all (Codec.inInt (-9223372036854775808) 9223372036854775807))&&true)=true:=Pg;rw[Hq,Hq]at q;obtain⟨cs,f1,f2,f3,f4⟩:=Wh.vO (l:=a.1) Mv;refine⟨_,a.1,_,cs,rfl,hs,(Codec.inNat_iff.mp q.1.1).2,f1,f2,f3,λH' p hp=>?_⟩;show L2.Dw K H' _ (WData.list ((PyVbptaj.answers a.1).map WData.int));rw[f4];exact .lst (L2.SqL.of hp) (L2.wz _)
